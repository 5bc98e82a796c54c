import PyProof.Rows.All
import Wide.All
import OpenK.AllK
import Wide.FinOn
import Lean
import PyProof.EqAt
import PyProof.EqKinds
import PyProof.TupleCall
import KE.KIntText
import KE.IntTextLaws
import PyProof.ExcClass3
import PyProof.InstStoreFacts
import PyProof.ExcBaseAll.ValueError
import PyProof.NsDelKeeps
import PyProof.ExcAttrAll.ValueError
import OpenK.KTop
import PyProof.ZipIter
import PyProof.ListNew
import PyProof.ListRange
import PyProof.ReprRoads
import PyProof.Rows.FactsT3
import PyProof.Rows.SumAny
import PyProof.CompUse
import PyProof.EqLayable
import PyProof.CallFns
import PyProof.StrBlock
import PyProof.StrCalls2
import PyProof.StrLawsTight
import PyProof.StrLawsChain
import PyProof.ReprLen
import PyProof.EnumMake
import PyProof.MeetsDict
import PyProof.DictWalks
import PySem.Challenge.RW_homequay_k07_texts_there_and_back
namespace RG
open PySem PySem.W PyProof.Rows
noncomputable def runG(thr ok:Thread->Bool)(st:SharedT->Thread->Option (SharedT×Thread))(n:Nat):SharedT->Thread->Option SharedT:=@Nat.rec (λ_=>SharedT->Thread->Option SharedT) (λ_ _=>none) (λ_ ih s t=>@Bool.rec (λ_=>Option SharedT) (@Bool.rec (λ_=>Option SharedT) none (@Option.rec (SharedT×Thread) (λ_=>Option SharedT) none (λx=>@Prod.rec SharedT Thread (λ_=>Option SharedT) (λs' t'=>ih s' t') x) (st s t)) (ok t)) (some s) (thr t)) n
theorem Pd{tb:String->Option Builtin}{p:Program}{w:World}{m:Nat}{ann:Option Value}:∀{n:Nat}{s r:SharedT}{t:Thread},runG through (stepOk m ann) (stepT (denote tb) p w) n s t=some r->topRun tb p w m ann n s.abs t=some r.abs
|0,_,_,_,h=>by cases h
|n+1,s,r,t,h=>by
  have h':@Bool.rec (λ_=>Option SharedT) (@Bool.rec (λ_=>Option SharedT) none (@Option.rec (SharedT×Thread) (λ_=>Option SharedT) none (λx=>@Prod.rec SharedT Thread (λ_=>Option SharedT) (λs' t'=>runG through (stepOk m ann) (stepT (denote tb) p w) n s' t') x) (stepT (denote tb) p w s t)) (stepOk m ann t)) (some s) (through t)=some r:=h;unfold topRun;cases ht:through t with
 |true=>rw[ht]at h';cases h';rfl
 |false=>
   rw[ht]at h';cases ho:stepOk m ann t with
  |false=>rw[ho]at h';cases h'
  |true=>
    rw[ho]at h';cases hs:stepT (denote tb) p w s t with
   |none=>rw[hs]at h';cases h'
   |some x=>obtain⟨s',t'⟩:=x;rw[hs]at h';rw[stepT_spec hs];exact Pd (n:=n) h'
noncomputable def mkT(l:List Obj):BT:=(l.foldl (λ(x:BT×Nat)o=>(x.1.ins x.2 o,x.2+1)) (BT.nil,0)).1
noncomputable def T0(w:World)(os:OsState):SharedT:=⟨mkT (boot_heap w.params).objs.toList,11,(boot_heap w.params).life,⟨[]⟩,boot_drawn,boot_toks,os⟩
theorem Dv(w:World)(os:OsState):(T0 w os).abs=⟨boot_heap w.params,⟨[]⟩,boot_drawn,boot_toks,os⟩:=by kernel_rfl
theorem sz(w:World):((boot_heap w.params).isNs mainGlobals&&((⟨[]⟩:Array GenState).size==0),(boot_heap w.params).objs.size,(boot_heap w.params).nsMap mainGlobals "__annotations__")=(true,11,some (.ref 6)):=by kernel_rfl
noncomputable def go(p:Program)(n:Nat)(w:World)(os:OsState):Option SharedT:=runG through (PySem.W.Fast.tw6613529449190102663 11 (some (.ref 6))) (PySem.W.Fast.tw10156331382660048174 (PySem.W.Fast.tw11892475500146522536 PySem.W.Fast.tw14364793385576792824) p w) n (T0 w os) (topStub p)
theorem go_eq(p:Program)(n:Nat)(w:World)(os:OsState):go p n w os=runG through (stepOk 11 (some (.ref 6))) (stepT (denote treeTable) p w) n (T0 w os) (topStub p):=by unfold go;rw[PySem.W.Fast.te6613529449190102663,PySem.W.Fast.te10156331382660048174,PySem.W.Fast.te11892475500146522536,PySem.W.Fast.te14364793385576792824]
noncomputable def chk(p:Program)(w:World)(s:Shared):Bool:=staticsOk (importedModules p.main.body) (boot_heap w.params) s.heap&&namesBound p s.heap&&gensDone s&&laidKept (boot_heap w.params) s.heap
noncomputable def lk(p:Program){α:Type}(F:Shared->α)(n:Nat)(w:World)(os:OsState):Option α:=@Option.rec SharedT (λ_=>Option α) none (λr=>some (F r.abs)) (go p n w os)
noncomputable abbrev lkS(p q:Program)(loose:List Str)(Xt:Shared->Bool)(n:Nat)(w:World)(os:OsState):=lk p (λs=>(chk p w s,PySem.W.Fast.tw4187177175401517315 q loose (PySem.W.Fast.tw5923862056798008813 p.main.body) Xt true s)) n w os
theorem left{p q:Program}{loose:List Str}{Xt:Shared->Bool}{α:Type}{Yf:Shared->α}{Ya:World->α}{N:Nat}(row:String)(e1:opening p=plainProg p.main.scope.names)(e2:Nat.ble 600 N=true)(e3:∀s:Shared,fenceModules? p s=some s)(hf:∀(w:World)(os:OsState),lkS p q loose Xt N (w.withFollow row false) os=some (true,openGood q loose))(ht:∀(w:World)(os:OsState),lkS p q loose Xt N (w.withFollow row true) os=some (true,openGood q loose))(kf:∀(w:World)(os:OsState),lk p Yf N (w.withFollow row false) os=some (Ya (w.withFollow row false)))(kt:∀(w:World)(os:OsState),lk p Yf N (w.withFollow row true) os=some (Ya (w.withFollow row true))):LeftO p q loose Xt Yf Ya N:=λw=>by
 have hw:∀os:OsState,lkS p q loose Xt N w os=some (true,openGood q loose):=byRow2 row (P:=λw=>∀os:OsState,lkS p q loose Xt N w os=some (true,openGood q loose)) hf ht w;have kw:∀os:OsState,lk p Yf N w os=some (Ya w):=byRow2 row (P:=λw=>∀os:OsState,lk p Yf N w os=some (Ya w)) kf kt w;obtain⟨⟨h,gs,d,k,os⟩,e,e'⟩:=Option.map_eq_some_iff.mp (boot_open e1 e2 e3 w);obtain⟨rfl,rfl,rfl,rfl⟩:h=boot_heap w.params/\gs=⟨[]⟩/\d=boot_drawn/\k=boot_toks:=by simpa using e'
 obtain⟨z1,z2,z3⟩:_/\_/\_:=by simpa only[Prod.mk.injEq]using sz w
 have hl:=hw os;have kl:=kw os;unfold lkS lk at hl;unfold lk at kl;rw[<-PySem.W.Fast.te4187177175401517315,<-PySem.W.Fast.te5923862056798008813]at hl;cases hg:go p N w os with
|none=>rw[hg]at hl;cases hl
|some r=>
  rw[hg]at hl kl;have hl':(chk p w r.abs,openSeen q loose (importedModules p.main.body) Xt true r.abs)=(true,openGood q loose):=Option.some.inj hl;have kl':Yf r.abs=Ya w:=Option.some.inj kl;obtain⟨l1,l2⟩:=Prod.mk.inj hl';rw[go_eq]at hg;have hr:=Pd hg;rw[Dv]at hr;have t:topFrom treeTable p w N ⟨boot_heap w.params,⟨[]⟩,boot_drawn,boot_toks,os⟩=some r.abs:=by
   unfold topFrom;dsimp only;rw[z1,z2,z3,hr];show(match chk p w r.abs with|true=>some r.abs|false=>none)=_
   rw[l1]
  unfold openEnds;rw[e];show(topFrom treeTable p w N _).map _=_;rw[t];exact congrArg some (Prod.ext l2 kl')
end RG
set_option Elab.async false
set_option linter.all false
set_option maxRecDepth 100000
set_option maxHeartbeats 4000000
namespace RG
open PySem PySem.W PyProof.Rows
noncomputable def tp(i:Nat):Stmt:=PySem.Challenge.pw_homequay_k07_texts_there_and_back.main.body.getD i (.Pass ⟨0,0,0,0⟩)
noncomputable def QV:Program:={PySem.Challenge.pw_homequay_k07_texts_there_and_back with main:={PySem.Challenge.pw_homequay_k07_texts_there_and_back.main with body:=[tp 0,tp 2,tp 3,tp 4,tp 6,tp 7,tp 8,tp 9,tp 10,tp 11,tp 12,tp 13,tp 14,tp 15,tp 16,tp 17,tp 18,tp 20,tp 21,tp 22,tp 23,tp 24,tp 25,tp 26,tp 27,tp 28,tp 29,tp 30,tp 31,tp 32,tp 33,tp 34,tp 35,tp 37,tp 38,tp 39,tp 40,tp 41,tp 42,tp 43,tp 44,tp 45,tp 46,tp 48,tp 49,tp 50,tp 51,tp 52,tp 53,tp 54,tp 55,tp 56,tp 57,tp 58,tp 59,tp 60,tp 61,tp 62,tp 63,tp 64,tp 65]}}
noncomputable abbrev LO:List Str:=["MOST_ROWS","ROW_SIZES","FORMS","PARTS"]
noncomputable abbrev XT:Shared->Bool:=λs=>xlAt QV [] s&&recOk (RowW.records (OpenRow.toRowW (PySem.Challenge.rw_homequay_k07_texts_there_and_back.row))) s
noncomputable def p1{α β:Type}(x:α×β):α:=@Prod.rec α β (λ_=>α) (λa _=>a) x
noncomputable def p2{α β:Type}(x:α×β):β:=@Prod.rec α β (λ_=>β) (λ_ b=>b) x
theorem u5(w:World)(os:OsState):lk PySem.Challenge.pw_homequay_k07_texts_there_and_back (λs=>p1 (p2 (p2 (p2 (p2 (p2 (PySem.W.Fast.tw4187177175401517315 QV LO (PySem.W.Fast.tw5923862056798008813 PySem.Challenge.pw_homequay_k07_texts_there_and_back.main.body) XT true s))))))) 7030 (w.withFollow "special-get-raises" false) os=some ((openGood QV LO).2.2.2.2.2.1):=by kernel_rfl
theorem u2(w:World)(os:OsState):lk PySem.Challenge.pw_homequay_k07_texts_there_and_back (λs=>p1 (p2 (p2 (PySem.W.Fast.tw4187177175401517315 QV LO (PySem.W.Fast.tw5923862056798008813 PySem.Challenge.pw_homequay_k07_texts_there_and_back.main.body) XT true s)))) 7030 (w.withFollow "special-get-raises" false) os=some ((openGood QV LO).2.2.1):=by kernel_rfl
theorem u0(w:World)(os:OsState):lk PySem.Challenge.pw_homequay_k07_texts_there_and_back (λs=>p1 (PySem.W.Fast.tw4187177175401517315 QV LO (PySem.W.Fast.tw5923862056798008813 PySem.Challenge.pw_homequay_k07_texts_there_and_back.main.body) XT true s)) 7030 (w.withFollow "special-get-raises" false) os=some ((openGood QV LO).1):=by kernel_rfl
theorem u3(w:World)(os:OsState):lk PySem.Challenge.pw_homequay_k07_texts_there_and_back (λs=>p1 (p2 (p2 (p2 (PySem.W.Fast.tw4187177175401517315 QV LO (PySem.W.Fast.tw5923862056798008813 PySem.Challenge.pw_homequay_k07_texts_there_and_back.main.body) XT true s))))) 7030 (w.withFollow "special-get-raises" false) os=some ((openGood QV LO).2.2.2.1):=by kernel_rfl
theorem u7(w:World)(os:OsState):lk PySem.Challenge.pw_homequay_k07_texts_there_and_back (λs=>p1 (p2 (p2 (p2 (p2 (p2 (p2 (p2 (PySem.W.Fast.tw4187177175401517315 QV LO (PySem.W.Fast.tw5923862056798008813 PySem.Challenge.pw_homequay_k07_texts_there_and_back.main.body) XT true s))))))))) 7030 (w.withFollow "special-get-raises" false) os=some ((openGood QV LO).2.2.2.2.2.2.2.1):=by kernel_rfl
theorem uA(w:World)(os:OsState):lk PySem.Challenge.pw_homequay_k07_texts_there_and_back (λs=>(p1 (p2 (p2 (p2 (p2 (PySem.W.Fast.tw4187177175401517315 QV LO (PySem.W.Fast.tw5923862056798008813 PySem.Challenge.pw_homequay_k07_texts_there_and_back.main.body) XT true s))))),p1 (p2 (p2 (p2 (p2 (p2 (p2 (PySem.W.Fast.tw4187177175401517315 QV LO (PySem.W.Fast.tw5923862056798008813 PySem.Challenge.pw_homequay_k07_texts_there_and_back.main.body) XT true s))))))),p2 (p2 (p2 (p2 (p2 (p2 (p2 (p2 (PySem.W.Fast.tw4187177175401517315 QV LO (PySem.W.Fast.tw5923862056798008813 PySem.Challenge.pw_homequay_k07_texts_there_and_back.main.body) XT true s)))))))))) 7030 (w.withFollow "special-get-raises" false) os=some (((openGood QV LO).2.2.2.2.1,(openGood QV LO).2.2.2.2.2.2.1,(openGood QV LO).2.2.2.2.2.2.2.2)):=by kernel_rfl
theorem uB(w:World)(os:OsState):lk PySem.Challenge.pw_homequay_k07_texts_there_and_back (λs=>(chk PySem.Challenge.pw_homequay_k07_texts_there_and_back (w.withFollow "special-get-raises" false) s,p1 (p2 (PySem.W.Fast.tw4187177175401517315 QV LO (PySem.W.Fast.tw5923862056798008813 PySem.Challenge.pw_homequay_k07_texts_there_and_back.main.body) XT true s)))) 7030 (w.withFollow "special-get-raises" false) os=some ((true,(openGood QV LO).2.1)):=by kernel_rfl
theorem gE(w:World)(os:OsState):go PySem.Challenge.pw_homequay_k07_texts_there_and_back 7030 (w.withFollow "special-get-raises" true) os=go PySem.Challenge.pw_homequay_k07_texts_there_and_back 7030 (w.withFollow "special-get-raises" false) os:=by kernel_rfl
theorem nine{A B C D E F G H I:Type}(x y:A×B×C×D×E×F×G×H×I)(h0:p1 x=y.1)(h1:p1 (p2 x)=y.2.1)(h2:p1 (p2 (p2 x))=y.2.2.1)(h3:p1 (p2 (p2 (p2 x)))=y.2.2.2.1)(h4:p1 (p2 (p2 (p2 (p2 x))))=y.2.2.2.2.1)(h5:p1 (p2 (p2 (p2 (p2 (p2 x)))))=y.2.2.2.2.2.1)(h6:p1 (p2 (p2 (p2 (p2 (p2 (p2 x))))))=y.2.2.2.2.2.2.1)(h7:p1 (p2 (p2 (p2 (p2 (p2 (p2 (p2 x)))))))=y.2.2.2.2.2.2.2.1)(h8:p2 (p2 (p2 (p2 (p2 (p2 (p2 (p2 x)))))))=y.2.2.2.2.2.2.2.2):x=y:=by obtain⟨a,b,c,d,e,f,g,h,i⟩:=x;obtain⟨a',b',c',d',e',f',g',h',i'⟩:=y;obtain rfl:a=a':=h0;obtain rfl:b=b':=h1;obtain rfl:c=c':=h2;obtain rfl:d=d':=h3;obtain rfl:e=e':=h4;obtain rfl:f=f':=h5;obtain rfl:g=g':=h6;obtain rfl:h=h':=h7;obtain rfl:i=i':=h8;rfl
section
variable {p:Program}{n:Nat}{w:World}{os:OsState}{α β:Type}
theorem Lv{F:Shared->α}{G:Shared->β}{x:α}{y:β}(h1:lk p F n w os=some x)(h2:lk p G n w os=some y):lk p (λs=>(F s,G s)) n w os=some (x,y):=by
 unfold lk at h1 h2 ⊢;cases hg:go p n w os with
|none=>rw[hg]at h1;cases h1
|some r=>rw[hg]at h1 h2;exact congrArg some (congr (congrArg Prod.mk (Option.some.inj h1)) (Option.some.inj h2))
theorem QM{F:Shared->α}{G:Shared->β}{x:α}{y:β}(h:lk p (λs=>(F s,G s)) n w os=some (x,y)):lk p F n w os=some x:=by
 unfold lk at h ⊢;cases hg:go p n w os with
|none=>rw[hg]at h;cases h
|some r=>rw[hg]at h;exact congrArg some (Prod.mk.inj (Option.some.inj h)).1
theorem NC{F:Shared->α}{G:Shared->β}{x:α}{y:β}(h:lk p (λs=>(F s,G s)) n w os=some (x,y)):lk p G n w os=some y:=by
 unfold lk at h ⊢;cases hg:go p n w os with
|none=>rw[hg]at h;cases h
|some r=>rw[hg]at h;exact congrArg some (Prod.mk.inj (Option.some.inj h)).2
theorem Lx{A B C D E F G H I:Type}{X:Shared->A×B×C×D×E×F×G×H×I}{y:A×B×C×D×E×F×G×H×I}(h0:lk p (λs=>p1 (X s)) n w os=some y.1)(h1:lk p (λs=>p1 (p2 (X s))) n w os=some y.2.1)(h2:lk p (λs=>p1 (p2 (p2 (X s)))) n w os=some y.2.2.1)(h3:lk p (λs=>p1 (p2 (p2 (p2 (X s))))) n w os=some y.2.2.2.1)(h4:lk p (λs=>p1 (p2 (p2 (p2 (p2 (X s)))))) n w os=some y.2.2.2.2.1)(h5:lk p (λs=>p1 (p2 (p2 (p2 (p2 (p2 (X s))))))) n w os=some y.2.2.2.2.2.1)(h6:lk p (λs=>p1 (p2 (p2 (p2 (p2 (p2 (p2 (X s)))))))) n w os=some y.2.2.2.2.2.2.1)(h7:lk p (λs=>p1 (p2 (p2 (p2 (p2 (p2 (p2 (p2 (X s))))))))) n w os=some y.2.2.2.2.2.2.2.1)(h8:lk p (λs=>p2 (p2 (p2 (p2 (p2 (p2 (p2 (p2 (X s))))))))) n w os=some y.2.2.2.2.2.2.2.2):lk p X n w os=some y:=by
 unfold lk at *;cases hg:go p n w os with
|none=>rw[hg]at h0;cases h0
|some r=>rw[hg]at h0 h1 h2 h3 h4 h5 h6 h7 h8;exact congrArg some (nine _ _ (Option.some.inj h0) (Option.some.inj h1) (Option.some.inj h2) (Option.some.inj h3) (Option.some.inj h4) (Option.some.inj h5) (Option.some.inj h6) (Option.some.inj h7) (Option.some.inj h8))
end
theorem lg(w:World)(os:OsState):lk PySem.Challenge.pw_homequay_k07_texts_there_and_back (λs=>PySem.W.Fast.tw4187177175401517315 QV LO (PySem.W.Fast.tw5923862056798008813 PySem.Challenge.pw_homequay_k07_texts_there_and_back.main.body) XT true s) 7030 (w.withFollow "special-get-raises" false) os=some (openGood QV LO):=Lx (u0 w os) (NC (uB w os)) (u2 w os) (u3 w os) (QM (uA w os)) (u5 w os) (QM (NC (uA w os))) (u7 w os) (NC (NC (uA w os)))
theorem lf(w:World)(os:OsState):lkS PySem.Challenge.pw_homequay_k07_texts_there_and_back QV LO XT 7030 (w.withFollow "special-get-raises" false) os=some (true,openGood QV LO):=Lv (QM (uB w os)) (lg w os)
theorem E1{p:Program}{n:Nat}{w w':World}{os:OsState}{α:Type}{F:Shared->α}(h:go p n w os=go p n w' os):lk p F n w os=lk p F n w' os:=by unfold lk;rw[h]
theorem lkE{α:Type}(F:Shared->α)(w:World)(os:OsState):lk PySem.Challenge.pw_homequay_k07_texts_there_and_back F 7030 (w.withFollow "special-get-raises" true) os=lk PySem.Challenge.pw_homequay_k07_texts_there_and_back F 7030 (w.withFollow "special-get-raises" false) os:=E1 (gE w os)
theorem chkE(w:World):chk PySem.Challenge.pw_homequay_k07_texts_there_and_back (w.withFollow "special-get-raises" true)=chk PySem.Challenge.pw_homequay_k07_texts_there_and_back (w.withFollow "special-get-raises" false):=rfl
theorem lt(w:World)(os:OsState):lkS PySem.Challenge.pw_homequay_k07_texts_there_and_back QV LO XT 7030 (w.withFollow "special-get-raises" true) os=some (true,openGood QV LO):=by have h:=lf w os;unfold lkS at h ⊢;rw[lkE,chkE];exact h
theorem E2{α:Type}{Yf:Shared->α}{Ya:World->α}(e1:opening PySem.Challenge.pw_homequay_k07_texts_there_and_back=plainProg PySem.Challenge.pw_homequay_k07_texts_there_and_back.main.scope.names)(e3:∀s:Shared,fenceModules? PySem.Challenge.pw_homequay_k07_texts_there_and_back s=some s)(kf:∀(w:World)(os:OsState),lk PySem.Challenge.pw_homequay_k07_texts_there_and_back Yf 7030 (w.withFollow "special-get-raises" false) os=some (Ya (w.withFollow "special-get-raises" false)))(hv:∀w:World,Ya (w.withFollow "special-get-raises" true)=Ya (w.withFollow "special-get-raises" false)):LeftO PySem.Challenge.pw_homequay_k07_texts_there_and_back QV LO XT Yf Ya 7030:=left "special-get-raises" e1 (by decide) e3 lf lt kf λw os=>by rw[lkE,kf w os,hv w]
end RG
section
open PySem PySem.W PyProof.Rows
set_option hygiene false in
local macro_rules
|`(tactic| o_head $H)=>`(tactic| (have HH:=$H;exact z.elim))
set_option maxRecDepth 100000 in
set_option maxHeartbeats 0 in
theorem RG.hk(z:False):PySem.Challenge.rw_homequay_k07_texts_there_and_back.Holds:=by w_on;o_law;k_head
end
namespace RG
open PySem PySem.W PyProof.Rows
noncomputable def AS:List Addr:=[2,3,15,17,18,20,21,22,29,30,31,32,35,42,44,45,47,48,49,50,51,54,61,63,64,66,67,68,69,70,73,75,76,78,79,80,82,83,85,86,87,90,91,92,94,95,97,98,99,101,102,104,105,106,108,109,111,112,113,114,115,117,118,120,121,122,124,125,127,128,129,131,132,134,135,136,138,139,141,142,143,145,146,148,149,150,152,153,155,156,157,159,160,162,163,164,166,167,169,170,171,173,174,176,177,185,187,188,190,191,192,194,195,197,198,199,201,202,204,205,206,208,209,211,212,213,215,216,218,219,220,222,223,225,226,227,229,230,232,233,234,236,237,239,240,241,243,244,246,247,248,250,251,253,254,255,257,258,260,261,262,264,265,267,268,269,271,272,274,275,276,278,279,281,282,283,285,286,288,289,290,292,293,295,296,297,300,301,302,304,305,307,308,309,311,312,314,315,316,318,319,321,322,323,325,326,328,329,330,332,333,335,336,337,339,340,342,343,344,346,347,349,350,351,353,354,356,357,358,359,360,361,362,365,366,367,368,369,370,371,372,373,376,377,378,380,381,383,384,385,388,389,390,392,393,395,396,397,400,401,402,404,405,407,408,409,412,413,414,416,417,419,420,428,430,431,433,434,435,437,438,440,441,442,445,446,447,449,450,452,453,454,456,457,459,460,461,464,465,466,468,469,471,472,473,475,476,478,479,480,482,483,485,486,487,490,491,492,494,495,497,498,499,502,503,504,506,507,509,510,511,514,515,516,518,519,521,522,523,525,526,528,529,530,533,534]
theorem eK(P:Params):AS=(RG.hk.heap_39 P).map (·.1):=by kernel_rfl
theorem kfE(w:World)(os:OsState):lk PySem.Challenge.pw_homequay_k07_texts_there_and_back (λs=>AS.map s.heap.get?) 7030 (w.withFollow "special-get-raises" false) os=some ((RG.hk.heap_39 (w.withFollow "special-get-raises" false).params).map λp=>some p.2):=by kernel_rfl
end RG
namespace L2
open PySem PySem.Spec PyProof.Rows
noncomputable abbrev Key:=Sum Int Str
noncomputable def Mf:Key->Value->Bool
|.inl k,v=>Value.isInt k v
|.inr x,v=>Value.isStrOf x v
noncomputable def keyH(w:World):Key->Int
|.inl k=>hashInt k
|.inr x=>hashStr w x
theorem Z3:∀{k:Key}{v:Value},Mf k v=true->(∃i t,k=Sum.inl i/\v=Value.int i t)\/(∃x t,k=Sum.inr x/\v=Value.str x t)
|.inl i,v,h=>by obtain⟨t,e⟩:=Value.isInt_shape (k:=i) (v:=v) h;exact .inl ⟨i,t,rfl,e⟩
|.inr x,v,h=>by obtain⟨t,e⟩:=Value.isStrOf_shape (x:=x) (v:=v) h;exact .inr ⟨x,t,rfl,e⟩
theorem SH(i:Int)(t:Tok):Mf (.inl i) (.int i t)=true:=by simp[Mf,Value.isInt]
theorem SG(x:Str)(t:Tok):Mf (.inr x) (.str x t)=true:=by simp[Mf,Value.isStrOf]
theorem Ej(a b:Int):decide ((Sum.inl a:Key)=Sum.inl b)=(a==b):=by
 by_cases e:a=b
 ·subst e;simp
 ·have h:¬(Sum.inl a:Key)=Sum.inl b:=λq=>e (Sum.inl.inj q);rw[decide_eq_false h];exact(beq_eq_false_iff_ne.mpr e).symm
theorem Eg(a b:Str):decide ((Sum.inr a:Key)=Sum.inr b)=decide (a=b):=by
 by_cases e:a=b
 ·subst e;simp
 ·have h:¬(Sum.inr a:Key)=Sum.inr b:=λq=>e (Sum.inr.inj q);rw[decide_eq_false h,decide_eq_false e]
theorem Ei(a:Int)(b:Str):decide ((Sum.inl a:Key)=Sum.inr b)=false:=decide_eq_false (λq=>nomatch q)
theorem Eh(a:Str)(b:Int):decide ((Sum.inr a:Key)=Sum.inl b)=false:=decide_eq_false (λq=>nomatch q)
noncomputable def Yd(prog:Program)(w:World):PySem.KeyKind prog w Key where
 is:=Mf
 hash:=keyH w
 inj:=λv a b ha hb=>by
  rcases Z3 ha with⟨i,t,rfl,rfl⟩|⟨x,t,rfl,rfl⟩
  ·rcases Z3 hb with⟨j,u,rfl,e⟩|⟨y,u,rfl,e⟩
   ·injection e with e1 _;rw[e1]
   ·exact nomatch e
  ·rcases Z3 hb with⟨j,u,rfl,e⟩|⟨y,u,rfl,e⟩
   ·exact nomatch e
   ·injection e with e1 _;rw[e1]
 byValue:=λk v h=>by rcases Z3 h with⟨i,t,rfl,rfl⟩|⟨x,t,rfl,rfl⟩<;>rfl
 pyHash:=λhv h=>by
  rcases Z3 hv with⟨i,t,rfl,rfl⟩|⟨x,t,rfl,rfl⟩
  ·exact wpAny_pyHash_int h
  ·exact wpAny_pyHash_str h
 eqBool:=λhu hv h=>by
  rcases Z3 hu with⟨i,t,rfl,rfl⟩|⟨x,t,rfl,rfl⟩
  ·rcases Z3 hv with⟨j,u,rfl,rfl⟩|⟨y,u,rfl,rfl⟩
   ·rw[Ej]at h;exact wpAny_eqBool_int h
   ·rw[Ei]at h;exact SeqAt.EqAt.int_str i t y u _ _ _ _ h
  ·rcases Z3 hv with⟨j,u,rfl,rfl⟩|⟨y,u,rfl,rfl⟩
   ·rw[Eh]at h;exact SeqAt.EqAt.str_int x t j u _ _ _ _ h
   ·rw[Eg]at h;exact wpAny_eqBool_str h
 «strs»:=λk x t v h=>by
  rcases Z3 h with⟨i,u,rfl,e⟩|⟨y,u,rfl,e⟩
  ·exact nomatch e
  ·injection e with e1 _
   subst e1
   cases v<;>rfl
theorem Py(prog:Program)(w:World)(i:Int)(t:Tok):(Yd prog w).is (.inl i) (.int i t)=true:=SH i t
theorem Px(prog:Program)(w:World)(x:Str)(t:Tok):(Yd prog w).is (.inr x) (.str x t)=true:=SG x t
open PySem PySem.Spec PyProof.Rows
inductive V where
|non|bl (b:Bool)|int (i:Int)|str (x:Str)|byt (b:Array UInt8)|flt (b:UInt64)|ref (a:Addr)|ty (n:String)
 deriving DecidableEq
noncomputable def RelV:V->Value->Prop
|.non,u=>u=Value.none
|.bl b,u=>u=Value.bool b
|.int i,u=>∃t,u=Value.int i t
|.str x,u=>∃t,u=Value.str x t
|.byt b,u=>∃t,u=Value.bytes b t
|.flt b,u=>∃t,u=Value.float b t
|.ref a,u=>u=Value.ref a
|.ty n,u=>u=Value.type n
noncomputable abbrev Vals:List V->List Value->Prop:=Paired RelV
theorem Vals.length{xs:List V}{us:List Value}(r:Vals xs us):xs.length=us.length:=Paired.length r
theorem Vals.get:∀{xs:List V}{us:List Value}{i:Nat}{x:V},Vals xs us->xs[i]?=some x->∃u,us[i]?=some u/\RelV x u
|_,_,_,_,.nil,e=>by simp at e
|_,_,0,_,.cons r _,e=>by simp at e;subst e;exact⟨_,rfl,r⟩
|_,_,i+1,x,.cons _ t,e=>by obtain⟨u,h1,h2⟩:=Vals.get (i:=i) (x:=x) t (by simpa using e);exact⟨u,by simpa using h1,h2⟩
theorem Vals.set{x:V}{u:Value}(r:RelV x u):∀{xs:List V}{us:List Value}(i:Nat),Vals xs us->Vals (xs.set i x) (us.set i u)
|_,_,_,.nil=>.nil
|_,_,0,.cons _ t=>.cons r t
|_,_,i+1,.cons q t=>.cons q (Vals.set r i t)
theorem Vals.append:∀{xs ys:List V}{us ws:List Value},Vals xs us->Vals ys ws->Vals (xs++ys) (us++ws)
|_,_,_,_,.nil,s=>s
|_,_,_,_,.cons r t,s=>.cons r (Vals.append t s)
theorem Vals.take:∀{xs:List V}{us:List Value}(n:Nat),Vals xs us->Vals (xs.take n) (us.take n)
|_,_,0,_=>.nil
|_,_,_+1,.nil=>.nil
|_,_,n+1,.cons r t=>.cons r (Vals.take n t)
theorem Vals.drop:∀{xs:List V}{us:List Value}(n:Nat),Vals xs us->Vals (xs.drop n) (us.drop n)
|_,_,0,r=>r
|_,_,_+1,.nil=>.nil
|_,_,n+1,.cons _ t=>Vals.drop n t
noncomputable def RelO:Option V->Option Value->Prop
|some v,some u=>RelV v u
|none,none=>True
|_,_=>False
noncomputable def KV{κ:Type}:List (κ×V)->List (κ×Value)->Prop:=Paired λ(p:κ×V)(q:κ×Value)=>p.1=q.1/\RelV p.2 q.2
noncomputable def kV:Key->V
|.inl i=>.int i
|.inr x=>.str x
inductive HO where
|lst (xs:List V)
|tup (xs:List V)
|dK (kvs:List (Key×V))|dT (kvs:List (List Key×V))
|set (S:Int->Bool) (n:Nat)
|ins (C dx:Addr) (fs:List (Str×V))
|own (x:Addr)
|xd (fs:List (Str×V))
|met (f x:Addr)
|rng (lo hi:Int)
|frz (o:Obj) (u:HO)
|tbl (ps:Array Value)
|ext (φ:Heap->Prop)
noncomputable abbrev Hp:=Addr->Option HO
noncomputable def upd(H:Hp)(a:Addr)(o:HO):Hp:=λb=>if b=a then some o else H b
theorem Zc{H:Hp}{a:Addr}{o:HO}:upd H a o a=some o:=by unfold upd;rw[if_pos rfl]
theorem Ze{H:Hp}{a b:Addr}{o:HO}(h:b≠a):upd H a o b=H b:=by unfold upd;rw[if_neg h]
theorem ne_of{H:Hp}{a b:Addr}{o u:HO}(h:H a=some o)(h':H b=some u)(d:o≠u):a≠b:=by intro e;subst e;rw[h]at h';exact d (Option.some.inj h')
theorem Zf{H:Hp}{a b:Addr}{o:HO}(h:H a=some o)(h':H b=none):a≠b:=by intro e;subst e;rw[h]at h';cases h'
section
variable (P:Program)(w:World)
noncomputable def ZJ(H:Hp)(h:Heap)(a:Addr):HO->Prop
|.lst xs=>xs.length<=sizeLine/\∃(its:List Value)(n:Nat),Vals xs its/\h.get? a=some {cls:=.type "list",data:=.seq its.toArray n}
|.tup xs=>xs.length<=sizeLine/\∃its:List Value,Vals xs its/\IsTup h a its.toArray
|.dK kvs=>kvs.length<=sizeLine/\(a==sysModules)=false/\∃vs,KV kvs vs/\h.DictOf (Yd P w) a vs
|.dT kvs=>kvs.length<=sizeLine/\(a==sysModules)=false/\∃xs:List (List Key×Addr×Value),Paired (λ(p:List Key×V)(q:List Key×Addr×Value)=>p.1=q.1/\H q.2.1=some (.tup (p.1.map kV))/\RelV p.2 q.2.2) kvs xs /\∃o es ep,h.get? a=some o/\o.ExactDict/\o.data=.dict es ep/\es.toList=xs.map (entryOfKey (tupleKind (Yd P w)))/\(xs.map (·.1)).Nodup
|.set S n=>h.SetOf (intKind P w) a S n
|.ins C dx fs=>H dx=some (.own a)/\fs.length<=1000/\dx≠a/\h.get? a=some (PySem.W.instObj C dx) /\∃mA,h.Ns1 dx mA/\(∀f,RelO (fs.lookup f) (mA f))/\PySem.Within mA (fs.map (·.1))
|.own _=>∃o,h.get? a=some o
|.xd fs=>∃mA,h.Ns1 a mA/\∀f,RelO (fs.lookup f) (mA f)
|.rng lo hi=>∃t u v,h.get? a=some {cls:=.type "range",data:=.fields #[.int lo t,.int hi u,.int 1 v]}
|.frz o u=>h.get? a=some o/\ZJ H h a u
|.tbl ps=>h.get? a=some {cls:=.none,data:=.fields ps}
|.met f x=>h.get? a=some (PySem.W.methodObj (.ref f) (.ref x))
|.ext φ=>φ h/\(∃o,h.get? a=some o)/\∀h1 h2:Heap,φ h1->(∀o,h1.get? a=some o->h2.get? a=some o)->φ h2
def HOk(H:Hp)(h:Heap):Prop:=∀a o,H a=some o->ZJ P w H h a o
end
section
variable {P:Program}{w:World}{H H':Hp}{h h':Heap}{a:Addr}{o:HO}
theorem ZJ.lt(x:ZJ P w H h a o):a<h.objs.size:=by
 cases o with
|lst xs=>obtain⟨_,_,_,_,e⟩:=x;exact Heap.lt_size e
|tup xs=>obtain⟨_,_,_,p⟩:=x;exact p.lt
|dK kvs=>obtain⟨_,_,_,_,o,_,_,e,_⟩:=x;exact Heap.lt_size e
|dT kvs=>obtain⟨_,_,_,_,o,_,_,e,_⟩:=x;exact Heap.lt_size e
|set S n=>obtain⟨o,_,_,_,e,_⟩:=x;exact Heap.lt_size e
|ins C dx fs=>obtain⟨_,_,_,e,_⟩:=x;exact Heap.lt_size e
|own y=>obtain⟨_,e⟩:=x;exact Heap.lt_size e
|xd fs=>obtain⟨_,⟨_,_,_,e,_⟩,_⟩:=x;exact Heap.lt_size e
|rng lo hi=>obtain⟨_,_,_,e⟩:=x;exact Heap.lt_size e
|frz ob u=>obtain⟨e,_⟩:=x;exact Heap.lt_size e
|tbl ps=>exact Heap.lt_size (show h.get? a=some _ from x)
|met f y=>exact Heap.lt_size (show h.get? a=some _ from x)
|ext φ=>obtain⟨_,⟨_,e⟩,_⟩:=x;exact Heap.lt_size e
theorem Paired.mapP{α β:Type}{F G:α->β->Prop}:∀{l₁:List α}{l₂:List β},Paired F l₁ l₂->(∀a b,F a b->G a b)->Paired G l₁ l₂
|_,_,.nil,_=>.nil
|_,_,.cons r t,f=>.cons (f _ _ r) (Paired.mapP t f)
theorem ZJ.stay(x:ZJ P w H h a o)(k:∀b u,(b=a\/H b=some (.own a))->h.get? b=some u->h'.get? b=some u)(ho:∀b,H b=some (.own a)->H' b=some (.own a))(ht:∀b xs,H b=some (.tup xs)->H' b=some (.tup xs)):ZJ P w H' h' a o:=by
 induction o with
|lst xs=>obtain⟨z,its,n,r,e⟩:=x;exact⟨z,its,n,r,k _ _ (.inl rfl) e⟩
|tup xs=>obtain⟨z,its,r,ob,e,c⟩:=x;exact⟨z,its,r,ob,k _ _ (.inl rfl) e,c⟩
|dK kvs=>obtain⟨z,y,vs,r,ob,es,ep,e,c⟩:=x;exact⟨z,y,vs,r,ob,es,ep,k _ _ (.inl rfl) e,c⟩
|dT kvs=>obtain⟨z,y,xs,r,ob,es,ep,e,c⟩:=x;exact⟨z,y,xs,Paired.mapP r λp q z=>⟨z.1,ht _ _ z.2.1,z.2.2⟩,ob,es,ep,k _ _ (.inl rfl) e,c⟩
|set S n=>obtain⟨ob,es,ep,t,e,c⟩:=x;exact⟨ob,es,ep,t,k _ _ (.inl rfl) e,c⟩
|ins C dx fs=>obtain⟨d,z,ne,e,mA,⟨od,es,ep,e2,c⟩,r⟩:=x;exact⟨ho _ d,z,ne,k _ _ (.inl rfl) e,mA,⟨od,es,ep,k _ _ (.inr d) e2,c⟩,r⟩
|own y=>obtain⟨ob,e⟩:=x;exact⟨ob,k _ _ (.inl rfl) e⟩
|xd fs=>obtain⟨mA,⟨od,es,ep,e,c⟩,r⟩:=x;exact⟨mA,⟨od,es,ep,k _ _ (.inl rfl) e,c⟩,r⟩
|rng lo hi=>obtain⟨t,u,v,e⟩:=x;exact⟨t,u,v,k _ _ (.inl rfl) e⟩
|frz ob u ih=>obtain⟨e,q⟩:=x;exact⟨k _ _ (.inl rfl) e,ih q⟩
|tbl ps=>have e:h.get? a=some {cls:=.none,data:=.fields ps}:=x;show h'.get? a=some {cls:=.none,data:=.fields ps};exact k a _ (.inl rfl) e
|met f y=>have e:h.get? a=some (PySem.W.methodObj (.ref f) (.ref y)):=x;show h'.get? a=some (PySem.W.methodObj (.ref f) (.ref y));exact k a _ (.inl rfl) e
|ext φ=>obtain⟨p,⟨o,e⟩,st⟩:=x;exact⟨st _ _ p λo q=>k _ _ (.inl rfl) q,⟨o,k _ _ (.inl rfl) e⟩,st⟩
theorem HOk.lt(x:HOk P w H h)(e:H a=some o):a<h.objs.size:=(x a o e).lt
theorem HOk.fresh(x:HOk P w H h)(e:h.objs.size<=a):H a=none:=by
 cases q:H a with
|none=>rfl
|some u=>exact absurd (Nat.lt_of_lt_of_le (x.lt q) e) (Nat.lt_irrefl _)
theorem HOk.kept(x:HOk P w H h)(k:∀b u,h.get? b=some u->h'.get? b=some u):HOk P w H h':=λa o e=>(x a o e).stay (λb u _ q=>k b u q) (λ_ q=>q) λ_ _ q=>q
theorem HOk.laid(x:HOk P w H h)(k:∀b u,h.get? b=some u->h'.get? b=some u)(hp:h.objs.size<=a)(new:ZJ P w (upd H a o) h' a o):HOk P w (upd H a o) h':=λb u e=>by
 have hn:=x.fresh hp;by_cases hb:b=a
 ·subst hb;rw[Zc]at e;cases e;exact new
 ·rw[Ze hb]at e;exact(x b u e).stay (λc v _ q=>k c v q) (λc q=>by rw[Ze (Zf q hn)];exact q) λc xs q=>by rw[Ze (Zf q hn)];exact q
end
def Rd(H:Hp)(a:Addr)(u:HO):Prop:=H a=some u\/∃o,H a=some (.frz o u)
theorem Rd.ok{P:Program}{w:World}{H:Hp}{h:Heap}{a:Addr}{u:HO}(r:Rd H a u)(x:HOk P w H h):ZJ P w H h a u:=by
 rcases r with r|⟨o,r⟩
 ·exact x a u r
 ·obtain⟨_,q⟩:=x a _ r;exact q
noncomputable def Mut:Option HO->Prop
|some (.lst _)=>True
|some (.dK _)=>True
|some (.dT _)=>True
|some (.set _ _)=>True
|some (.ins _ _ _)=>True
|some (.ext _)=>True
|_=>False
section
variable {P:Program}{w:World}{H:Hp}{h h':Heap}{x e:Addr}{o':HO}
theorem HOk.write(ok:HOk P w H h)(mu:Mut (H x))(he:e=x\/H e=some (.own x))(k:∀b u,b≠e->h.get? b=some u->h'.get? b=some u)(heo:∃u,h'.get? e=some u)(new:ZJ P w (upd H x o') h' x o'):HOk P w (upd H x o') h':=λb u q=>by
 have nown:∀c y,H c=some (.own y)->c≠x:=λc y r z=>by subst z;rw[r]at mu;exact mu
 have ntup:∀c xs,H c=some (.tup xs)->c≠x:=λc xs r z=>by subst z;rw[r]at mu;exact mu
 by_cases hb:b=x
 ·subst hb;rw[Zc]at q;cases q;exact new
 ·rw[Ze hb]at q;by_cases hbe:b=e
  ·have q':H b=some (.own x):=by
    rcases he with z|z
    ·exact absurd (hbe.trans z) hb
    ·rw[hbe];exact z
   rw[q]at q';cases q';obtain⟨v,hv⟩:=heo;exact⟨v,by rw[hbe];exact hv⟩
  ·refine(ok b u q).stay (λc v hc r=>k c v ?_ r) (λc r=>by rw[Ze (nown c b r)];exact r) λc xs r=>by rw[Ze (ntup c xs r)];exact r
   rcases hc with rfl|hc
   ·exact hbe
   ·rintro rfl;rcases he with z|z
    ·exact nown c b hc z
    ·rw[hc]at z;cases z;exact hb rfl
end
structure Un(fs ex:List Addr)(H H':Hp)(h h':Heap):Prop where
 keep:∀b o,h.get? b=some o->H b=none->b∉fs->b∉ex->h'.get? b=some o
 slot:∀b o,h.get? b=some o->H b=none->b∈fs->b∉ex->∃sl,h'.get? b=some {o with slots:=sl}
 free:∀b o,h.get? b=some o->H b=none->b∉ex->H' b=none
 there:∀b o,h.get? b=some o->b∉ex->∃o',h'.get? b=some o'
 tups:∀b xs,H b=some (.tup xs)->H' b=some (.tup xs)
 frzs:∀b o u,H b=some (.frz o u)->H' b=some (.frz o u)
 tbls:∀b ps,H b=some (.tbl ps)->∃more,H' b=some (.tbl (ps++more))
section
variable {fs fs' ex ex':List Addr}{H H1 H2:Hp}{h h1 h2 h':Heap}{a x e:Addr}{o:HO}
theorem Un.any(u:Un fs ex H H1 h h1){b:Addr}{ob:Obj}(q:h.get? b=some ob)(n:H b=none)(hx:b∉ex):∃sl,h1.get? b=some {ob with slots:=sl}:=by
 by_cases hb:b∈fs
 ·exact u.slot b ob q n hb hx
 ·exact⟨ob.slots,u.keep b ob q n hb hx⟩
theorem Un.kept(k:∀b u,h.get? b=some u->h'.get? b=some u):Un fs ex H H h h':=⟨λb ob q _ _ _=>k b ob q,λb ob q _ _ _=>⟨ob.slots,k b ob q⟩,λ_ _ _ n _=>n,λb ob q _=>⟨ob,k b ob q⟩,λ_ _ q=>q,λ_ _ _ q=>q,λ_ ps q=>⟨#[],by rw[q];simp⟩⟩
theorem Un.refl:Un fs ex H H h h:=Un.kept λ_ _ q=>q
theorem Un.laid(k:∀b u,h.get? b=some u->h'.get? b=some u)(hp:h.objs.size<=a)(hn:H a=none):Un fs ex H (upd H a o) h h' where
 keep:=λb u q _ _ _=>k b u q
 slot:=λb u q _ _ _=>⟨u.slots,k b u q⟩
 free:=λb u q n _=>by rw[Ze (Nat.ne_of_lt (Nat.lt_of_lt_of_le (Heap.lt_size q) hp))];exact n
 there:=λb u q _=>⟨u,k b u q⟩
 tups:=λb xs q=>by rw[Ze (Zf q hn)];exact q
 frzs:=λb u xs q=>by rw[Ze (Zf q hn)];exact q
 tbls:=λb ps q=>⟨#[],by rw[Ze (Zf q hn),q];simp⟩
theorem Un.write(mu:Mut (H x))(he:e=x\/H e=some (.own x))(k:∀b u,b≠e->h.get? b=some u->h'.get? b=some u)(heo:∃u,h'.get? e=some u):Un fs ex H (upd H x o) h h':=by
 have hx:∀b,H b=none->b≠x:=λb n z=>by subst z;rw[n]at mu;exact mu
 have hb:∀b,H b=none->b≠e:=λb n z=>by
  subst z;rcases he with r|r
  ·exact hx b n r
  ·rw[n]at r;cases r
 have hm:∀b u,H b=some u->¬Mut (some u)->b≠x:=λb u q nm z=>by subst z;rw[q]at mu;exact nm mu
 refine⟨λb u q n _ _=>k b u (hb b n) q,λb u q n _ _=>⟨u.slots,k b u (hb b n) q⟩,λb u q n _=>by rw[Ze (hx b n)];exact n,λb u q _=>?_,
  λb xs q=>by rw[Ze (hm b _ q λz=>z)];exact q,λb u xs q=>by rw[Ze (hm b _ q λz=>z)];exact q,λb ps q=>⟨#[],by rw[Ze (hm b _ q λz=>z),q];simp⟩⟩;by_cases hbe:b=e
 ·subst hbe;exact heo
 ·exact⟨u,k b u hbe q⟩
end
noncomputable def trk(h:Heap)(H:Hp):List Addr:=(List.range h.objs.size).filter λa=>(H a).isSome
noncomputable def hidT(h:Heap)(H:Hp):Heap:=PySem.W.hideAll h (trk h H)
theorem SJ(h:Heap)(H:Hp):(hidT h H).objs.size=h.objs.size:=PySem.W.hideAll_size _ _
theorem Kb{h:Heap}{H:Hp}{b:Addr}{o:Obj}(e:h.get? b=some o)(n:H b=none):(hidT h H).get? b=some o:=PySem.W.hideAll_get _ e λhm=>by have q:(H b).isSome=true:=(List.mem_filter.mp hm).2;rw[n]at q;simp at q
theorem Lo{h:Heap}{H:Hp}{b:Addr}{o:Obj}(e:(hidT h H).get? b=some o):h.get? b=some o/\H b=none:=by
 have e':h.get? b=some o:=PySem.W.of_hideAll (trk h H) e;refine⟨e',?_⟩;cases q:H b with
|none=>rfl
|some x=>have hm:b∈trk h H:=List.mem_filter.mpr ⟨List.mem_range.mpr (Heap.lt_size e'),by simp[q]⟩;have z:(hidT h H).get? b=none:=PySem.W.hideAll_none (trk h H) hm;rw[z]at e;cases e
noncomputable def LR(g h:Heap)(L:Addr):List (Addr×Obj):=(List.range h.objs.size).filterMap λa=>if a=L\/(g.get? a).isSome=true then none else(h.get? a).map λo=>(a,o)
noncomputable def rest(g h:Heap)(L d:Addr):List (Addr×Obj):=(LR g h L).filter λp=>decide (p.1≠d)
open PySem PySem.Spec PyProof.Rows
structure Mod(K:PySem.W.Frag)(mg:Str->Option Value)(base:Heap):Prop where
 kin:K.In base
 glob:base.Ns mainGlobals mg
 blt:∃mb,base.Ns builtinsNs mb/\∀x:Str,x≠"__name__"->mb x=bootBuiltins x
 nolimit:base.NoLimit
structure Cx where
 prog:Program
 w:World
 K:PySem.W.Frag
 mg:Str->Option Value
 base:Heap
 A:Around
 N:List Str
 s₀:Shared
 H₀:Hp
 env:Env
 outer:List Env
 stack:List Env
 ex:List Addr
 fn:Str->Bool
 calm:Bool
 pn:List (Addr×Obj)
 xe:Value->Shared->Prop
noncomputable def frs(l:List Env):List Addr:=l.filterMap (·.frame)
noncomputable abbrev Cx.fs(X:Cx):List Addr:=frs X.outer
def Vis(sc:Scope)(x:Str):Prop:=sc.names.lookup x=some .local\/sc.names.lookup x=some .cell\/sc.names.lookup x=some .free
def Loc(sc:Scope)(x:Str):Prop:=sc.names.lookup x=some .local\/sc.names.lookup x=some .cell
def Look(env:Env)(h:Heap)(m:Str->Option Value)(x:Str)(u:Value):Prop:=(env.kindOf x=some .local/\m x=some u)\/((env.kindOf x=some .cell\/env.kindOf x=some .free)/\∃c,env.cells.lookup x=some c/\h.IsCell c (some u))
structure Cx.Ok(X:Cx):Prop where
 mod:Mod X.K X.mg X.base
 kind:X.env.scope.kind=.function
 glob:X.env.globals=mainGlobals
 blt:X.env.builtins=builtinsNs
 above:X.s₀.heap.objs.size<=X.env.locals
 inj:∀x y c,X.env.cells.lookup x=some c->X.env.cells.lookup y=some c->x=y
 has:∀x,(X.env.kindOf x=some .cell\/X.env.kindOf x=some .free)->∃c,X.env.cells.lookup x=some c
 cab:∀x c,X.fn x=true->X.env.cells.lookup x=some c->X.s₀.heap.objs.size<=c
 hd:X.calm=true->X.A.handled=none
 frames:X.A.frames=some X.stack
 stk:X.stack=X.outer\/(X.stack=X.env::X.outer/\X.env.frame=some X.env.locals)
 exf:∀b∈X.ex,b≠X.env.locals/\∀x c,X.env.cells.lookup x=some c->c≠b
 bs:∀b o,X.base.get? b=some o->X.s₀.heap.get? b=some o/\X.H₀ b=none
 bsz:X.base.objs.size<=X.s₀.heap.objs.size
 noex:∀b o,X.base.get? b=some o->b∉X.ex
 exfs:∀b∈X.ex,b∉X.fs
 funs:X.s₀.heap.FunFrames X.base X.outer
 frf:∀b∈X.fs,X.H₀ b=none
structure Inv(X:Cx)(pins:List (Addr×Obj))(σ:List (Option V))(H:Hp)(s:Shared):Prop where
 ok:X.Ok
 os:s.os=X.s₀.os
 bare:AllBare s.gens
 base:Un X.fs X.ex X.H₀ H X.s₀.heap s.heap
 loc:∃m,s.heap.Ns X.env.locals m/\∀(i:Nat)(x:Str)(v:V),X.N[i]?=some x->σ[i]?=some (some v)->Vis X.env.scope x->∃u,RelV v u/\Look X.env s.heap m x u
 cell:∀x c,X.env.cells.lookup x=some c->∃v,s.heap.IsCell c v
 free:H X.env.locals=none
 freeC:∀x c,X.env.cells.lookup x=some c->H c=none
 pin:∀p∈X.pn++pins,s.heap.get? p.1=some p.2/\H p.1=none/\p.1≠X.env.locals/\p.1∉X.fs/\∀v,p.2.data≠.cell v
 hok:HOk X.prog X.w H s.heap
 len:σ.length=X.N.length
section
variable {X:Cx}{pins:List (Addr×Obj)}{σ:List (Option V)}{H H':Hp}{s:Shared}{h':Heap}
theorem Cx.Ok.nofr(ok:X.Ok){b:Addr}{o:Obj}(e:X.base.get? b=some o):b∉X.fs:=λhb=>by have:=(ok.funs.mem hb).1;rw[e]at this;cases this
theorem Inv.bs(I:Inv X pins σ H s):∀b o,X.base.get? b=some o->s.heap.get? b=some o/\H b=none:=λb o e=>⟨I.base.keep b o (I.ok.bs b o e).1 (I.ok.bs b o e).2 (I.ok.nofr e) (I.ok.noex b o e),I.base.free b o (I.ok.bs b o e).1 (I.ok.bs b o e).2 (I.ok.noex b o e)⟩
theorem Inv.bk(I:Inv X pins σ H s):∀b o,X.base.get? b=some o->s.heap.get? b=some o:=λb o e=>(I.bs b o e).1
theorem Inv.mod(I:Inv X pins σ H s):Mod X.K X.mg X.base:=I.ok.mod
theorem Inv.kIn(I:Inv X pins σ H s):X.K.In s.heap:=I.ok.mod.kin.keeps I.bk
theorem Inv.lt(I:Inv X pins σ H s):X.env.locals<s.heap.objs.size:=let ⟨_,hn,_⟩:=I.loc;hn.lt
theorem Inv.sz(I:Inv X pins σ H s):X.s₀.heap.objs.size<=s.heap.objs.size:=Nat.le_trans I.ok.above (Nat.le_of_lt I.lt)
theorem Inv.nofs(I:Inv X pins σ H s){a:Addr}(h:s.heap.objs.size<=a):a∉X.fs:=λhb=>by obtain⟨_,o,ho,_⟩:=I.ok.funs.mem hb;exact absurd (Nat.lt_of_lt_of_le (Heap.lt_size ho) (Nat.le_trans I.sz h)) (Nat.lt_irrefl _)
theorem Inv.cne(I:Inv X pins σ H s):∀x c,X.env.cells.lookup x=some c->c≠X.env.locals:=λx c e z=>by obtain⟨v,o,ho,hd⟩:=I.cell x c e;obtain⟨m,⟨o',es,ep,ho',hd',_⟩,_⟩:=I.loc;rw[z,ho']at ho;cases ho;rw[hd']at hd;cases hd
theorem Inv.funs(I:Inv X pins σ H s):s.heap.FunFrames X.base X.outer:=by
 have all:∀(l:List Env),(∀b∈frs l,b∈X.fs)->X.s₀.heap.FunFrames X.base l->s.heap.FunFrames X.base l:=by
  intro l;induction l with
 |nil=>intro _ _;trivial
 |cons env r ih=>intro hs hl;obtain⟨hk,⟨L,o,hf,hn,ho,hd⟩,hr⟩:=hl;have hL:L∈X.fs:=hs L (by unfold frs;rw[List.filterMap_cons,hf];exact List.mem_cons_self);obtain⟨sl,e⟩:=I.base.slot L o ho (I.ok.frf L hL) hL λz=>I.ok.exfs L z hL;exact⟨hk,⟨L,_,hf,hn,e,hd⟩,ih (λb hb=>hs b (by unfold frs;rw[List.filterMap_cons,hf];exact List.mem_cons_of_mem _ hb)) hr⟩
 exact all X.outer (λ_ hb=>hb) I.ok.funs
theorem Inv.stack(I:Inv X pins σ H s):s.heap.FunFrames X.base X.stack:=by
 rcases I.ok.stk with e|⟨e,hf⟩
 ·rw[e];exact I.funs
 ·rw[e];obtain⟨m,hn,_⟩:=I.loc;refine .cons (by rw[I.ok.kind];decide) hf hn ?_ I.funs;exact Heap.get?_none_of_le (Nat.le_trans I.ok.bsz I.ok.above)
theorem Inv.stkSub(I:Inv X pins σ H s):∀b∈frs X.stack,b∈X.env.locals::X.fs:=λb hb=>by
 rcases I.ok.stk with e|⟨e,hf⟩
 ·rw[e]at hb;exact List.mem_cons_of_mem _ hb
 ·rw[e]at hb;unfold frs at hb;rw[List.filterMap_cons,hf]at hb;exact hb
theorem Inv.stkFree(I:Inv X pins σ H s):∀b∈frs X.stack,H b=none:=λb hb=>by
 rcases List.mem_cons.mp (I.stkSub b hb)with e|hb
 ·rw[e];exact I.free
 ·obtain⟨_,o,ho,_⟩:=I.ok.funs.mem hb;exact I.base.free b o ho (I.ok.frf b hb) λz=>I.ok.exfs b z hb
theorem Inv.step{g':Array GenState}{t':Nat}{d':Drawn}{ch:List Addr}(I:Inv X pins σ H s)(hch:∀b∈ch,(b∈X.ex\/X.s₀.heap.objs.size<=b)/\b≠X.env.locals/\(∀x c,X.env.cells.lookup x=some c->c≠b)/\∀p∈X.pn++pins,p.1≠b)(keep:∀b o,b≠X.env.locals->b∉X.fs->b∉ch->s.heap.get? b=some o->H b=none->h'.get? b=some o)(slot:∀b o,b≠X.env.locals->b∈X.fs->b∉ch->s.heap.get? b=some o->H b=none->∃sl,h'.get? b=some {o with slots:=sl})(free:∀b o,b∉ch->s.heap.get? b=some o->H b=none->H' b=none)(there:∀b o,b∉ch->s.heap.get? b=some o->∃o',h'.get? b=some o')(tups:∀b xs,H b=some (.tup xs)->H' b=some (.tup xs))(frzs:∀b o u,H b=some (.frz o u)->H' b=some (.frz o u))(tbls:∀b ps,H b=some (.tbl ps)->∃more,H' b=some (.tbl (ps++more)))(ns:∀m,s.heap.Ns X.env.locals m->h'.Ns X.env.locals m)(hok:HOk X.prog X.w H' h')(hg:AllBare g'):Inv X pins σ H' {s with heap:=h',gens:=g',drawn:=d',toks:=t'}:=by
 have neL:∀b o,X.s₀.heap.get? b=some o->b≠X.env.locals:=λb o e=>Nat.ne_of_lt (Nat.lt_of_lt_of_le (Heap.lt_size e) I.ok.above);have neC:∀b o,X.s₀.heap.get? b=some o->b∉X.ex->b∉ch:=λb o e hx hb=>by
  rcases(hch b hb).1 with z|z
  ·exact hx z
  ·exact absurd (Nat.lt_of_lt_of_le (Heap.lt_size e) z) (Nat.lt_irrefl _)
 have cellK:∀x c,X.env.cells.lookup x=some c->∀v,s.heap.IsCell c v->h'.IsCell c v:=λx c e v⟨o,ho,hd⟩=>by
  have nch:c∉ch:=λz=>(hch c z).2.2.1 x c e rfl;by_cases hc:c∈X.fs
  ·obtain⟨sl,q⟩:=slot c o (I.cne x c e) hc nch ho (I.freeC x c e);exact⟨_,q,hd⟩
  ·exact⟨o,keep c o (I.cne x c e) hc nch ho (I.freeC x c e),hd⟩
 refine⟨I.ok,I.os,hg,⟨λb o e n hb hx=>?_,λb o e n hb hx=>?_,λb o e n hx=>?_,λb o e hx=>?_,λb xs e=>tups b xs (I.base.tups b xs e),λb o xs e=>frzs b o xs (I.base.frzs b o xs e),λb ps e=>?_⟩,?_,λx c e=>?_,?_,λx c e=>?_,λp hp=>?_,hok,I.len⟩
 ·exact keep b o (neL b o e) hb (neC b o e hx) (I.base.keep b o e n hb hx) (I.base.free b o e n hx)
 ·obtain⟨sl,e1⟩:=I.base.slot b o e n hb hx;obtain⟨sl',e2⟩:=slot b _ (neL b o e) hb (neC b o e hx) e1 (I.base.free b o e n hx);exact⟨sl',e2⟩
 ·obtain⟨o',e1⟩:=I.base.there b o e hx;exact free b o' (neC b o e hx) e1 (I.base.free b o e n hx)
 ·obtain⟨o',e1⟩:=I.base.there b o e hx;exact there b o' (neC b o e hx) e1
 ·obtain⟨m1,e1⟩:=I.base.tbls b ps e;obtain⟨m2,e2⟩:=tbls b _ e1;exact⟨m1++m2,by rw[e2,Array.append_assoc]⟩
 ·obtain⟨m,hn,hl⟩:=I.loc;refine⟨m,ns m hn,λi x v e1 e2 e3=>?_⟩;obtain⟨u,r,l⟩:=hl i x v e1 e2 e3;refine⟨u,r,?_⟩;rcases l with l|⟨k,c,e,z⟩
  ·exact .inl l
  ·exact .inr ⟨k,c,e,cellK x c e _ z⟩
 ·obtain⟨v,z⟩:=I.cell x c e;exact⟨v,cellK x c e v z⟩
 ·obtain⟨m,⟨o,_,_,ho,_⟩,_⟩:=I.loc;exact free _ o (λz=>(hch _ z).2.1 rfl) ho I.free
 ·obtain⟨v,o,ho,hd⟩:=I.cell x c e;exact free c o (λz=>(hch c z).2.2.1 x c e rfl) ho (I.freeC x c e)
 ·obtain⟨e,n,ne,nf,d⟩:=I.pin p hp;have nch:p.1∉ch:=λz=>(hch p.1 z).2.2.2 p hp rfl;exact⟨keep p.1 p.2 ne nf nch e n,free p.1 p.2 nch e n,ne,nf,d⟩
theorem Inv.un{t':Nat}(I:Inv X pins σ H s)(u:Un X.fs [] H H' s.heap h')(hok:HOk X.prog X.w H' h'):Inv X pins σ H' {s with heap:=h',toks:=t'}:=by
 obtain⟨m,⟨o,es,ep,ho,r⟩,_⟩:=id I.loc;obtain⟨sl,hL⟩:=u.any ho I.free (by simp);exact I.step (g':=s.gens) (d':=s.drawn) (ch:=[]) (λ_ z=>nomatch z) (λb o _ hb _ e n=>u.keep b o e n hb (by simp)) (λb o _ hb _ e n=>u.slot b o e n hb (by simp)) (λb o _ e n=>u.free b o e n (by simp)) (λb o _ e=>u.there b o e (by simp)) u.tups u.frzs u.tbls (λm' hm=>by obtain⟨o',es',ep',ho',r'⟩:=hm;rw[ho]at ho';cases ho';exact⟨_,es',ep',hL,r'⟩) hok I.bare
theorem Inv.call{g':Array GenState}{t':Nat}{d':Drawn}{ch:List Addr}(I:Inv X pins σ H s)(u:Un (frs X.stack) ch H H' s.heap h')(hok:HOk X.prog X.w H' h')(hg:AllBare g')(hch:∀b∈ch,(b∈X.ex\/X.s₀.heap.objs.size<=b)/\b≠X.env.locals/\(∀x c,X.env.cells.lookup x=some c->c≠b)/\∀p∈X.pn++pins,p.1≠b):Inv X pins σ H' {s with heap:=h',gens:=g',drawn:=d',toks:=t'}:=by
 obtain⟨m,⟨o,es,ep,ho,r⟩,_⟩:=id I.loc;obtain⟨sl,hL⟩:=u.any ho I.free λz=>(hch _ z).2.1 rfl;exact I.step (ch:=ch) hch (λb o hL hb hc e n=>u.keep b o e n (λz=>(List.mem_cons.mp (I.stkSub b z)).elim hL hb) hc) (λb o _ _ hc e n=>u.any e n hc) (λb o hc e n=>u.free b o e n hc) (λb o hc e=>u.there b o e hc) u.tups u.frzs u.tbls (λm' hm=>by obtain⟨o',es',ep',ho',r'⟩:=hm;rw[ho]at ho';cases ho';exact⟨_,es',ep',hL,r'⟩) hok hg
theorem Inv.turned{t':Nat}{it:Addr}(I:Inv X pins σ H s)(k:∀b o,b≠it->s.heap.get? b=some o->h'.get? b=some o)(hn:H it=none)(hL:it≠X.env.locals)(h1:it∈X.ex\/X.s₀.heap.objs.size<=it)(h2:∀x c,X.env.cells.lookup x=some c->c≠it)(h3:∀p∈X.pn++pins,p.1≠it):Inv X pins σ H {s with heap:=h',toks:=t'}:=by
 have nit:∀b u,H b=some u->b≠it:=λb u e z=>by rw[z,hn]at e;cases e
 refine I.step (g':=s.gens) (d':=s.drawn) (ch:=[it]) (λb hb=>?_) (λb o _ _ hc e _=>k b o (λz=>hc (by simp[z])) e) (λb o _ _ hc e _=>⟨o.slots,k b o (λz=>hc (by simp[z])) e⟩) (λ_ _ _ _ n=>n) (λb o hc e=>⟨o,k b o (λz=>hc (by simp[z])) e⟩) (λ_ _ e=>e) (λ_ _ _ e=>e) (λb ps e=>⟨#[],by rw[e];simp⟩) (λm hm=>?_) (λb u e=>?_) I.bare
 ·have e:b=it:=by simpa using hb
  subst e;exact⟨h1,hL,h2,h3⟩
 ·obtain⟨o,es,ep,ho,r⟩:=hm;exact⟨o,es,ep,k _ o (Ne.symm hL) ho,r⟩
 ·refine(I.hok b u e).stay (λc v hc q=>k c v ?_ q) (λ_ q=>q) λ_ _ q=>q;rcases hc with z|z
  ·rw[z];exact nit b u e
  ·exact nit c _ z
theorem Inv.tok(I:Inv X pins σ H s)(t:Nat):Inv X pins σ H {s with toks:=t}:=I.un (h':=s.heap) (t':=t) Un.refl I.hok
theorem Inv.kept{t':Nat}(I:Inv X pins σ H s)(k:∀b u,s.heap.get? b=some u->h'.get? b=some u):Inv X pins σ H {s with heap:=h',toks:=t'}:=I.un (Un.kept k) (I.hok.kept k)
theorem Inv.laid{a:Addr}{o:HO}{t':Nat}(I:Inv X pins σ H s)(k:∀b u,s.heap.get? b=some u->h'.get? b=some u)(hp:s.heap.objs.size<=a)(new:ZJ X.prog X.w (upd H a o) h' a o):Inv X pins σ (upd H a o) {s with heap:=h',toks:=t'}:=I.un (Un.laid k hp (I.hok.fresh hp)) (I.hok.laid k hp new)
theorem Inv.write{x e:Addr}{o:HO}{t':Nat}(I:Inv X pins σ H s)(mu:Mut (H x))(he:e=x\/H e=some (.own x))(k:∀b u,b≠e->s.heap.get? b=some u->h'.get? b=some u)(heo:∃u,h'.get? e=some u)(new:ZJ X.prog X.w (upd H x o) h' x o):Inv X pins σ (upd H x o) {s with heap:=h',toks:=t'}:=I.un (Un.write mu he k heo) (I.hok.write mu he k heo new)
theorem Inv.pins_of{pins':List (Addr×Obj)}(I:Inv X pins σ H s)(h:∀p∈pins',s.heap.get? p.1=some p.2/\H p.1=none/\p.1≠X.env.locals/\p.1∉X.fs/\∀v,p.2.data≠.cell v):Inv X pins' σ H s:=⟨I.ok,I.os,I.bare,I.base,I.loc,I.cell,I.free,I.freeC,λp hp=>(List.mem_append.mp hp).elim (λz=>I.pin p (List.mem_append_left _ z)) (h p),I.hok,I.len⟩
theorem Pt{N:List Str}(hN:N.Nodup){i j:Nat}{x:Str}(a:N[i]?=some x)(b:N[j]?=some x):i=j:=by obtain⟨h1,e1⟩:=List.getElem?_eq_some_iff.mp a;obtain⟨h2,e2⟩:=List.getElem?_eq_some_iff.mp b;exact(List.getElem_inj hN).mp (e1.trans e2.symm)
theorem MI{M:Model}{A:Around}{E:Value->Shared->Prop}{i:Nat}{x:Str}{v:V}{u:Value}{Q:Unit->Shared->Prop}(I:Inv X pins σ H s)(hN:X.N.Nodup)(hi:X.N[i]?=some x)(hx:Loc X.env.scope x)(r:RelV v u)(h:∀s',Inv X pins (σ.set i (some v)) H s'->(∃a,Heap.SameBut a s.heap s'.heap/\(a=X.env.locals\/X.env.cells.lookup x=some a))->Q () s')(hf:X.fn x=true\/X.env.scope.names.lookup x=some .local:=by first|exact .inl rfl|exact .inr rfl|assumption):wpAny M A (storeName X.env x u) Q E s:=by
 obtain⟨m,hn,hl⟩:=id I.loc;have hcls:(X.env.scope.kind==.class||(X.env.scope.kind==.module&&X.env.locals != X.env.globals))=false:=by rw[I.ok.kind];rfl
 have hiσ:i<σ.length:=by rw[I.len];exact(List.getElem?_eq_some_iff.mp hi).1
 have cne:=I.cne;have tracked:∀{a:Addr}{h':Heap},(∃o,s.heap.get? a=some o/\H a=none)->Heap.SameBut a s.heap h'->HOk X.prog X.w H h':=λ{a h'}ha hs b ob e=>by
  obtain⟨_,_,hfree⟩:=ha;refine(I.hok b ob e).stay (λc w' hc q=>(hs.2 c ?_).trans q) (λ_ q=>q) λ_ _ q=>q;rintro rfl;rcases hc with rfl|hc
  ·rw[hfree]at e;cases e
  ·rw[hfree]at hc;cases hc
 rcases hx with hk|hk
 ·refine wpAny_storeName_local hk hn (λh' hn' hs=>?_) hcls;obtain⟨oL,_,_,hoL,_⟩:=id hn;refine h _ ⟨I.ok,I.os,I.bare,⟨λb o e n hb hx=>?_,λb o e n hb hx=>?_,I.base.free,λb o e hx=>?_,I.base.tups,I.base.frzs,I.base.tbls⟩,⟨_,hn',λj y v' e1 e2 e3=>?_⟩,λy c e=>?_,I.free,I.freeC,λp hp=>?_,tracked ⟨oL,hoL,I.free⟩ hs,by simpa using I.len⟩ ⟨_,hs,.inl rfl⟩
  ·exact(hs.2 b (Nat.ne_of_lt (Nat.lt_of_lt_of_le (Heap.lt_size e) I.ok.above))).trans (I.base.keep b o e n hb hx)
  ·obtain⟨sl,e1⟩:=I.base.slot b o e n hb hx;exact⟨sl,(hs.2 b (Nat.ne_of_lt (Nat.lt_of_lt_of_le (Heap.lt_size e) I.ok.above))).trans e1⟩
  ·obtain⟨o',e1⟩:=I.base.there b o e hx;exact⟨o',(hs.2 b (Nat.ne_of_lt (Nat.lt_of_lt_of_le (Heap.lt_size e) I.ok.above))).trans e1⟩
  ·by_cases hj:j=i
   ·subst hj;rw[hi]at e1;cases e1;rw[List.getElem?_set_self hiσ]at e2;cases e2;exact⟨u,r,.inl ⟨hk,by simp⟩⟩
   ·rw[List.getElem?_set_ne (Ne.symm hj)]at e2;obtain⟨u',r',q⟩:=hl j y v' e1 e2 e3;refine⟨u',r',?_⟩;rcases q with⟨k,e⟩|⟨k,c,e,z⟩
    ·refine .inl ⟨k,?_⟩;have:y≠x:=λe=>hj (Pt hN e1 (e▸hi));simp[this,e]
    ·exact .inr ⟨k,c,e,z.sameBut hs (cne y c e)⟩
  ·obtain⟨w',z⟩:=I.cell y c e;exact⟨w',z.sameBut hs (cne y c e)⟩
  ·obtain⟨e,n,ne,nf,d⟩:=I.pin p hp;exact⟨(hs.2 p.1 ne).trans e,n,ne,nf,d⟩
 ·have hfn:X.fn x=true:=by
   rcases hf with z|z
   ·exact z
   ·rw[z]at hk;cases hk
  obtain⟨c,hc⟩:=I.ok.has x (.inl hk);obtain⟨w',z⟩:=I.cell x c hc;refine wpAny_storeName_cell I.ok.kind hk hc z (λh' hc' hs=>?_);obtain⟨oc,hoc,hocd⟩:=id z;refine h {s with heap:=h'} ⟨I.ok,I.os,I.bare,⟨λb o e n hb hx=>?_,λb o e n hb hx=>?_,I.base.free,λb o e hx=>?_,I.base.tups,I.base.frzs,I.base.tbls⟩,⟨m,hn.sameBut hs (Ne.symm (cne x c hc)),λj y v' e1 e2 e3=>?_⟩,λy c' e=>?_,I.free,I.freeC,λp hp=>?_,tracked ⟨oc,hoc,I.freeC x c hc⟩ hs,by simpa using I.len⟩ ⟨c,hs,.inr hc⟩
  ·exact(hs.2 b (Nat.ne_of_lt (Nat.lt_of_lt_of_le (Heap.lt_size e) (I.ok.cab x c hfn hc)))).trans (I.base.keep b o e n hb hx)
  ·obtain⟨sl,e1⟩:=I.base.slot b o e n hb hx;exact⟨sl,(hs.2 b (Nat.ne_of_lt (Nat.lt_of_lt_of_le (Heap.lt_size e) (I.ok.cab x c hfn hc)))).trans e1⟩
  ·obtain⟨o',e1⟩:=I.base.there b o e hx;exact⟨o',(hs.2 b (Nat.ne_of_lt (Nat.lt_of_lt_of_le (Heap.lt_size e) (I.ok.cab x c hfn hc)))).trans e1⟩
  ·by_cases hj:j=i
   ·subst hj;rw[hi]at e1;cases e1;rw[List.getElem?_set_self hiσ]at e2;cases e2;exact⟨u,r,.inr ⟨.inl hk,c,hc,hc'⟩⟩
   ·rw[List.getElem?_set_ne (Ne.symm hj)]at e2;obtain⟨u',r',q⟩:=hl j y v' e1 e2 e3;refine⟨u',r',?_⟩;rcases q with q|⟨k,c',e,z'⟩
    ·exact .inl q
    ·refine .inr ⟨k,c',e,z'.sameBut hs ?_⟩;rintro rfl;exact hj (Pt hN e1 (I.ok.inj _ _ _ e hc▸hi))
  ·by_cases hcc:c'=c
   ·subst hcc;exact⟨_,hc'⟩
   ·obtain⟨w2,z2⟩:=I.cell y c' e;exact⟨w2,z2.sameBut hs hcc⟩
  ·obtain⟨e,n,ne,nf,d⟩:=I.pin p hp;refine⟨(hs.2 p.1 ?_).trans e,n,ne,nf,d⟩;intro q;rw[q,hoc]at e;have q':oc=p.2:=Option.some.inj e;exact d w' (by rw[<-q'];exact hocd)
theorem NY{M:Model}{A:Around}{E:Value->Shared->Prop}{i:Nat}{x:Str}{v:V}{u:Value}{Q:Unit->Shared->Prop}(I:Inv X pins σ H s)(hN:X.N.Nodup)(hi:X.N[i]?=some x)(hx:Loc X.env.scope x)(r:RelV v u)(h:∀s',Inv X pins (σ.set i (some v)) H s'->Q () s')(hf:X.fn x=true\/X.env.scope.names.lookup x=some .local:=by first|exact .inl rfl|exact .inr rfl|assumption):wpAny M A (storeName X.env x u) Q E s:=MI I hN hi hx r (λs' I' _=>h s' I') hf
theorem Inv.call'{s':Shared}{ch:List Addr}(I:Inv X pins σ H s)(ho:s'.os=s.os)(u:Un (frs X.stack) ch H H' s.heap s'.heap)(hok:HOk X.prog X.w H' s'.heap)(hg:AllBare s'.gens)(hch:∀b∈ch,(b∈X.ex\/X.s₀.heap.objs.size<=b)/\b≠X.env.locals/\(∀x c,X.env.cells.lookup x=some c->c≠b)/\∀p∈X.pn++pins,p.1≠b):Inv X pins σ H' s':=by obtain⟨h',g',d',t',o'⟩:=s';have e:o'=s.os:=ho;subst e;exact I.call (g':=g') (t':=t') (d':=d') u hok hg hch
end
noncomputable abbrev XK:=Value->Option Addr->Hp->Prop
noncomputable abbrev St:=List (Option V)
noncomputable abbrev VK:=V->Hp->Prop
noncomputable abbrev TE:=St->Hp->VK->Prop
noncomputable abbrev TT:=St->Hp->(Bool->Hp->Prop)->Prop
noncomputable abbrev TA:=St->Hp->(List V->Hp->Prop)->Prop
structure Ends where
 nx:St->Hp->Prop
 rt:VK
 bk:St->Hp->Prop:=λ_ _=>False
 ct:St->Hp->Prop:=λ_ _=>False
noncomputable abbrev TS:=Ends->St->Hp->Prop
def EP(X:Cx)(pins:List (Addr×Obj))(σ:St)(Q:VK)(u:Value)(s':Shared):Prop:=∃v H',Inv X pins σ H' s'/\RelV v u/\Q v H'
def TP(X:Cx)(pins:List (Addr×Obj))(σ:St)(Q:Bool->Hp->Prop)(b:Bool)(s':Shared):Prop:=∃H',Inv X pins σ H' s'/\Q b H'
def AP(X:Cx)(pins:List (Addr×Obj))(σ:St)(Q:List V->Hp->Prop)(us:List Value)(s':Shared):Prop:=∃vs H',Inv X pins σ H' s'/\Vals vs us/\Q vs H'
def SP(X:Cx)(pins:List (Addr×Obj))(D:Ends)(f:Flow)(s':Shared):Prop:=match f with
|.next=>∃σ' H',Inv X pins σ' H' s'/\D.nx σ' H'
|.brk=>∃σ' H',Inv X pins σ' H' s'/\D.bk σ' H'
|.cont=>∃σ' H',Inv X pins σ' H' s'/\D.ct σ' H'
|.ret u=>∃v σ' H',Inv X pins σ' H' s'/\RelV v u/\D.rt v H'
def PE(X:Cx)(e:Expr)(t:TE):Prop:=∀(pins:List (Addr×Obj))(s:Shared)(σ:St)(H:Hp)(Q:VK),Inv X pins σ H s->t σ H Q->wpAny (model X.prog X.w) X.A (eval e X.env) (EP X pins σ Q) X.xe s
def PT(X:Cx)(e:Expr)(t:TT):Prop:=∀(pins:List (Addr×Obj))(s:Shared)(σ:St)(H:Hp)(Q:Bool->Hp->Prop),Inv X pins σ H s->t σ H Q->wpAny (model X.prog X.w) X.A (isTrue e X.env (eval e X.env)) (TP X pins σ Q) X.xe s
def PW(X:Cx)(e:Expr)(t:TT):Prop:=∀(whole:Sem Value)(pins:List (Addr×Obj))(s:Shared)(σ:St)(H:Hp)(Q:Bool->Hp->Prop),Inv X pins σ H s->t σ H Q->wpAny (model X.prog X.w) X.A (isTrue e X.env whole) (TP X pins σ Q) X.xe s
theorem PW.pt{X:Cx}{e:Expr}{t:TT}(h:PW X e t):PT X e t:=h _
def PA(X:Cx)(es:List Expr)(t:TA):Prop:=∀(pos:Pos)(pins:List (Addr×Obj))(s:Shared)(σ:St)(H:Hp)(Q:List V->Hp->Prop),Inv X pins σ H s->t σ H Q->wpAny (model X.prog X.w) X.A (spliced (backTo pos (starEach es X.env))) (AP X pins σ Q) X.xe s
def PS(X:Cx)(st:Stmt)(t:TS):Prop:=∀(pins:List (Addr×Obj))(s:Shared)(σ:St)(H:Hp)(D:Ends),Inv X pins σ H s->t D σ H->wpAny (model X.prog X.w) X.A (exec st X.env) (SP X pins D) X.xe s
def PSs(X:Cx)(st:List Stmt)(t:TS):Prop:=∀(pins:List (Addr×Obj))(s:Shared)(σ:St)(H:Hp)(D:Ends),Inv X pins σ H s->t D σ H->wpAny (model X.prog X.w) X.A (execs st X.env) (SP X pins D) X.xe s
theorem thn{α:Type}{t:Sem α}{Q Q':α->Shared->Prop}{M:Model}{A:Around}{E:Value->Shared->Prop}{s:Shared}(h:wpAny M A t Q E s)(hQ:∀a s,Q a s->Q' a s):wpAny M A t Q' E s:=wpAny_mono h hQ λ_ _ x=>x
open PySem PySem.Spec PyProof.Rows
section
variable {X:Cx}
theorem bin{a b:Expr}{ta tb:TE}(ha:PE X a ta)(hb:PE X b tb){pins:List (Addr×Obj)}{s:Shared}{σ:St}{H:Hp}{R:V->V->Hp->Prop}(I:Inv X pins σ H s)(h:ta σ H λx H1=>tb σ H1 λy H2=>R x y H2){α:Type}{Q:α->Shared->Prop}{f:Value->Value->Sem α}(hf:∀v u s2 x y H2,Inv X pins σ H2 s2->RelV x v->RelV y u->R x y H2->wpAny (model X.prog X.w) X.A (f v u) Q X.xe s2):wpAny (model X.prog X.w) X.A (eval a X.env) (λv s₁=>wpAny (model X.prog X.w) X.A (eval b X.env) (λu s₂=>wpAny (model X.prog X.w) X.A (f v u) Q X.xe s₂) X.xe s₁) X.xe s:=by refine thn (ha pins s σ H _ I h) λv s1⟨x,H1,I1,r1,q1⟩=>?_;refine thn (hb pins s1 σ H1 _ I1 q1) λu s2⟨y,H2,I2,r2,q2⟩=>?_;exact hf v u s2 x y H2 I2 r1 r2 q2
def tVar(i:Nat):TE:=λσ H Q=>∃v,σ[i]?=some (some v)/\Q v H
def tC(v:V):TE:=λ_ H Q=>Q v H
theorem J7{i:Nat}{x:Str}{pos:Pos}(hN:X.N[i]?=some x)(hv:Vis X.env.scope x)(hd:(x==("__debug__":Str))=false:=by decide)(hcd:(x==("__classdict__":Str))=false:=by decide):PE X (.Name x pos) (tVar i):=by
 intro pins s σ H Q I h;obtain⟨v,e,h⟩:=h;obtain⟨m,hn,hl⟩:=I.loc;obtain⟨u,r,l⟩:=hl i x v hN e hv;have fin:EP X pins σ Q u s:=⟨v,H,I,r,h⟩;rcases l with⟨hk,hm⟩|⟨hk,c,hc,hcell⟩
 ·exact wpAny_Name (wpAny_loadName_local I.ok.kind hk hn hm fin) hd
 ·rcases hk with hk|hk
  ·exact wpAny_Name (wpAny_loadName_cell I.ok.kind hk hc hcell fin) hd
  ·exact wpAny_Name (wpAny_loadName_free I.ok.kind hk hc hcell fin hcd) hd
theorem Zi{i j pos}:PE X (.Constant (.int i) j pos) (tC (.int i)):=λ_ _ _ H _ I h=>wpAny_Constant_int ⟨.int i,H,I.tok _,⟨_,rfl⟩,h⟩
theorem Pn{b j pos}:PE X (.Constant (.bool b) j pos) (tC (.bl b)):=λ_ _ _ H _ I h=>Constant_bool ⟨.bl b,H,I,rfl,h⟩
theorem ZR{j pos}:PE X (.Constant .none j pos) (tC .non):=λ_ _ _ H _ I h=>Constant_none ⟨.non,H,I,rfl,h⟩
theorem Zn{x j pos}:PE X (.Constant (.str x) j pos) (tC (.str x)):=λ_ _ _ H _ I h=>Calls.Constant_str ⟨.str x,H,I.tok _,⟨_,rfl⟩,h⟩
def Gl(X:Cx)(x:Str):Prop:=X.env.kindOf x=some .globalImplicit
theorem VP{E:Value->Shared->Prop}{pins:List (Addr×Obj)}{s:Shared}{σ:St}{H:Hp}{x:Str}{u:Value}{pos:Pos}{Q:Value->Shared->Prop}(I:Inv X pins σ H s)(hg:Gl X x)(hm:X.mg x=some u)(h:Q u s)(hd:(x==("__debug__":Str))=false:=by decide):wpAny (model X.prog X.w) X.A (eval (.Name x pos) X.env) Q E s:=Calls.Name_function_global I.ok.kind hg (Calls.loadGlobal_global (by rw[I.ok.glob];exact I.mod.glob.keeps I.bk) hm h) hd
theorem Jl{E:Value->Shared->Prop}{pins:List (Addr×Obj)}{s:Shared}{σ:St}{H:Hp}{x:Str}{u:Value}{pos:Pos}{Q:Value->Shared->Prop}(I:Inv X pins σ H s)(hg:Gl X x)(hm:X.mg x=none)(hv:bootBuiltins x=some u)(h:Q u s)(hn:x≠"__name__":=by decide)(hd:(x==("__debug__":Str))=false:=by decide):wpAny (model X.prog X.w) X.A (eval (.Name x pos) X.env) Q E s:=by obtain⟨mb,h1,h2⟩:=I.mod.blt;exact Calls.Name_function_global I.ok.kind hg (Calls.loadGlobal_builtin (by rw[I.ok.glob];exact I.mod.glob.keeps I.bk) hm (by rw[I.ok.blt];exact h1.keeps I.bk) ((h2 x hn).trans hv) h) hd
theorem ZW{x:Str}{v:V}{u:Value}{pos:Pos}(hg:Gl X x)(hm:X.mg x=some u)(r:RelV v u)(hd:(x==("__debug__":Str))=false:=by decide):PE X (.Name x pos) (tC v):=λ_ _ _ H _ I h=>VP I hg hm ⟨v,H,I,r,h⟩ hd
theorem Nx{x:Str}{v:V}{u:Value}{pos:Pos}(hg:Gl X x)(hm:X.mg x=none)(hv:bootBuiltins x=some u)(r:RelV v u)(hn:x≠"__name__":=by decide)(hd:(x==("__debug__":Str))=false:=by decide):PE X (.Name x pos) (tC v):=λ_ _ _ H _ I h=>Jl I hg hm hv ⟨v,H,I,r,h⟩ hn hd
variable {a b:Expr}{ta tb:TE}{pos:Pos}
def PC(X:Cx)(op:CmpOp)(a b:Expr)(t:TE):Prop:=∀(pins:List (Addr×Obj))(s:Shared)(σ:St)(H:Hp)(Q:VK),Inv X pins σ H s->t σ H Q ->wpAny (model X.prog X.w) X.A (eval a X.env) (λv s₁=>wpAny (model X.prog X.w) X.A (eval b X.env) (λu s₂=>wpAny (model X.prog X.w) X.A (compareOp op v u) (EP X pins σ Q) X.xe s₂) X.xe s₁) X.xe s
theorem Pu(b:Expr){op:CmpOp}(h:op≠.In)(h2:op≠.NotIn):behindInMarks op b=false:=by
 have e1:(op==CmpOp.In)=false:=by cases op<;>first|rfl|exact absurd rfl h
 have e2:(op==CmpOp.NotIn)=false:=by cases op<;>first|rfl|exact absurd rfl h2
 cases b<;>simp[behindInMarks,e1,e2]
def tB(t:TE):TT:=λσ H Q=>t σ H λx H1=>∃c,x=.bl c/\Q c H1
theorem DM{op:CmpOp}{t:TE}(h:PC X op a b t)(h1:behindInMarks op b=false:=by first|exact Pu _ (by decide) (by decide)|rfl):PE X (.Compare a [op] [b] pos) t:=λpins s σ H Q I hw=>wpAny_Compare1 (h pins s σ H Q I hw) h1
theorem DI{op:CmpOp}{t:TE}(h:PC X op a b t)(h1:behindInMarks op b=false:=by first|exact Pu _ (by decide) (by decide)|rfl):PT X (.Compare a [op] [b] pos) (tB t):=by intro pins s σ H Q I hw;refine wpAny_isTrue_Compare1 (thn (h pins s σ H _ I hw) λv s1 h1=>thn h1 λu s2 h2=>thn h2 λc s3⟨x,H1,I1,r1,q1⟩=>?_) h1;obtain⟨d,rfl,q⟩:=q1;cases r1;exact wpAny_truthy_bool ⟨H1,I1,q⟩
theorem Z0{e:Expr}{t:TE}(h:PE X e t)(he:∀whole,isTrue e X.env whole=(do let v <-whole;standAt e.pos;holding [v] (truthy v)):=by intro _;rfl):PT X e (tB t):=by
 intro pins s σ H Q I hw
 refine isTrue_plain (thn (h pins s σ H _ I hw) λv s1⟨x,H1,I1,r1,q1⟩=>?_) (he _)
 obtain⟨d,rfl,q⟩:=q1
 cases r1
 exact wpAny_truthy_bool ⟨H1,I1,q⟩
variable {tA tB':TT}{rest:List Expr}
def tAnd(t u:TT):TT:=λσ H Q=>t σ H λc H1=>if c=true then u σ H1 Q else Q false H1
def tOr(t u:TT):TT:=λσ H Q=>t σ H λc H1=>if c=true then Q true H1 else u σ H1 Q
def tNot(t:TT):TT:=λσ H Q=>t σ H λc H1=>Q (!c) H1
theorem Nq(ha:PT X a tA):PW X (.BoolOp .And [a] pos) tA:=by
 intro wh pins s σ H Q I h;refine isTrue_and (thn (ha pins s σ H Q I h) λc s1 e=>?_);cases c with
|true=>exact isTrue_and_nil e
|false=>exact e
theorem XW(ha:PT X a tA):PW X (.BoolOp .Or [a] pos) tA:=by
 intro wh pins s σ H Q I h;refine isTrue_or (thn (ha pins s σ H Q I h) λc s1 e=>?_);cases c with
|false=>exact isTrue_or_nil e
|true=>exact e
theorem QE(ha:PT X a tA)(hb:PW X (.BoolOp .And (b::rest) pos) tB'):PW X (.BoolOp .And (a::b::rest) pos) (tAnd tA tB'):=by
 intro wh pins s σ H Q I h;refine isTrue_and (thn (ha pins s σ H _ I h) λc s1⟨H1,I1,q1⟩=>?_);cases c with
|true=>exact hb wh pins s1 σ H1 Q I1 q1
|false=>exact⟨H1,I1,q1⟩
theorem JY(ha:PT X a tA)(hb:PW X (.BoolOp .Or (b::rest) pos) tB'):PW X (.BoolOp .Or (a::b::rest) pos) (tOr tA tB'):=by
 intro wh pins s σ H Q I h;refine isTrue_or (thn (ha pins s σ H _ I h) λc s1⟨H1,I1,q1⟩=>?_);cases c with
|true=>exact⟨H1,I1,q1⟩
|false=>exact hb wh pins s1 σ H1 Q I1 q1
theorem Ye(ha:PT X a tA):PT X (.UnaryOp .Not a pos) (tNot tA):=by intro pins s σ H Q I h;exact isTrue_not (ha pins s σ H (λc H1=>Q (!c) H1) I h)
def EI(ta tb:TE):TE:=λσ H Q=>ta σ H λx H1=>∃c,x=.bl c/\if c=true then tb σ H1 Q else Q (.bl false) H1
def EB(ta:TE):TE:=λσ H Q=>ta σ H λx H1=>∃c,x=.bl c/\Q (.bl (!c)) H1
theorem Y4{op}{t:TE}(h:PE X a t):PE X (.BoolOp op [a] pos) t:=λpins s σ H Q I hw=>BoolOp_one (h pins s σ H Q I hw)
theorem JE(ha:PE X a ta)(hb:PE X (.BoolOp .And (b::rest) pos) tb):PE X (.BoolOp .And (a::b::rest) pos) (EI ta tb):=by
 intro pins s σ H Q I h;refine BoolOp_and (thn (ha pins s σ H _ I h) λv s1⟨x,H1,I1,r1,q1⟩=>?_);obtain⟨c,rfl,q1⟩:=q1;cases r1;refine wpAny_truthy_bool ?_;cases c with
|true=>exact hb pins s1 σ H1 Q I1 q1
|false=>exact⟨.bl false,H1,I1,rfl,q1⟩
theorem DL(ha:PE X a ta):PE X (.UnaryOp .Not a pos) (EB ta):=by intro pins s σ H Q I h;refine UnaryOp_ (thn (ha pins s σ H _ I h) λv s1⟨x,H1,I1,r1,q1⟩=>?_);obtain⟨c,rfl,q1⟩:=q1;cases r1;exact not_of (wpAny_truthy_bool ⟨.bl (!c),H1,I1,rfl,q1⟩)
def tIf(t:TT)(ta tb:TE):TE:=λσ H Q=>t σ H λc H1=>if c=true then ta σ H1 Q else tb σ H1 Q
theorem JC{c:Expr}(hc:PT X c tA)(ha:PE X a ta)(hb:PE X b tb):PE X (.IfExp c a b pos) (tIf tA ta tb):=by
 intro pins s σ H Q I h;refine wpAny_IfExp (thn (hc pins s σ H _ I h) λd s1⟨H1,I1,q1⟩=>?_);cases d with
|true=>exact ha pins s1 σ H1 Q I1 q1
|false=>exact hb pins s1 σ H1 Q I1 q1
end
open PySem PySem.Spec PyProof.Rows
def SqL(K:PySem.W.Frag)(H:Hp)(a:Addr)(xs:List V):Prop:=Rd H a (.lst xs) \/∃(o:Obj)(its:Array Value)(n:Nat),K.lookup a=some o/\o.cls=.type "list"/\o.dict=none/\o.data=.seq its n/\its.size<=sizeLine/\Vals xs its.toList
def SqT(K:PySem.W.Frag)(H:Hp)(a:Addr)(xs:List V):Prop:=Rd H a (.tup xs) \/∃(o:Obj)(its:Array Value)(n:Nat),K.lookup a=some o/\o.cls=.type "tuple"/\o.data=.seq its n/\its.size<=sizeLine/\Vals xs its.toList
noncomputable def absV:Value->Option V
|.none=>some .non
|.bool b=>some (.bl b)
|.int i _=>some (.int i)
|.str x _=>some (.str x)
|.bytes b _=>some (.byt b)
|.float b _=>some (.flt b)
|.ref a=>some (.ref a)
|.type n=>some (.ty n)
|_=>none
theorem RelV.abs{x:V}{u:Value}(r:RelV x u):absV u=some x:=by
 cases x with
|non=>cases r;rfl
|bl _=>cases r;rfl
|int _=>obtain⟨t,rfl⟩:=r;rfl
|str _=>obtain⟨t,rfl⟩:=r;rfl
|byt _=>obtain⟨t,rfl⟩:=r;rfl
|flt _=>obtain⟨t,rfl⟩:=r;rfl
|ref _=>cases r;rfl
|ty _=>cases r;rfl
theorem RelV.inj{x y:V}{u:Value}(r:RelV x u)(q:RelV y u):x=y:=Option.some.inj (r.abs.symm.trans q.abs)
theorem Vals.inj:∀{xs ys:List V}{us:List Value},Vals xs us->Vals ys us->xs=ys
|_,_,_,.nil,.nil=>rfl
|_,_,_,.cons r t,.cons r' t'=>by rw[r.inj r',Vals.inj t t']
section
variable {X:Cx}{pins:List (Addr×Obj)}{σ:St}{H:Hp}{s:Shared}{a:Addr}{xs ys:List V}
theorem SqL.of{K:PySem.W.Frag}(h:H a=some (.lst xs)):SqL K H a xs:=.inl (.inl h)
theorem SqT.of{K:PySem.W.Frag}(h:H a=some (.tup xs)):SqT K H a xs:=.inl (.inl h)
theorem Inv.list(I:Inv X pins σ H s)(h:SqL X.K H a xs):∃its:List Value,Vals xs its/\PlainL s.heap a its.toArray/\xs.length<=sizeLine:=by
 rcases h with h|⟨o,its,n,hk,hc,hd,hs,hz,r⟩
 ·obtain⟨z,its,n,r,e⟩:=h.ok I.hok;exact⟨its,r,⟨_,n,e,rfl,rfl,rfl⟩,z⟩
 ·refine⟨its.toList,r,⟨o,n,I.kIn a o hk,hc,hd,by simpa using hs⟩,?_⟩;have e:=r.length;simp only[Array.length_toList]at e;omega
theorem Inv.tuple(I:Inv X pins σ H s)(h:SqT X.K H a xs):∃its:List Value,Vals xs its/\IsTup s.heap a its.toArray/\xs.length<=sizeLine:=by
 rcases h with h|⟨o,its,n,hk,hc,hs,hz,r⟩
 ·obtain⟨z,its,r,p⟩:=h.ok I.hok;exact⟨its,r,p,z⟩
 ·refine⟨its.toList,r,⟨o,I.kIn a o hk,hc,n,by simpa using hs⟩,?_⟩;have e:=r.length;simp only[Array.length_toList]at e;omega
theorem Inv.list_inj(I:Inv X pins σ H s)(h:SqL X.K H a xs)(h':SqL X.K H a ys):xs=ys:=by
 obtain⟨its,r,⟨o,n,e,_,_,d⟩,_⟩:=I.list h;obtain⟨its',r',⟨o',n',e',_,_,d'⟩,_⟩:=I.list h';rw[e]at e';cases e';rw[d]at d';injection d' with d1 _;have:its=its':=by simpa using congrArg Array.toList d1
 subst this;exact r.inj r'
theorem Inv.tuple_inj(I:Inv X pins σ H s)(h:SqT X.K H a xs)(h':SqT X.K H a ys):xs=ys:=by
 obtain⟨its,r,⟨o,e,_,n,d⟩,_⟩:=I.tuple h;obtain⟨its',r',⟨o',e',_,n',d'⟩,_⟩:=I.tuple h';rw[e]at e';cases e';rw[d]at d';injection d' with d1 _;have:its=its':=by simpa using congrArg Array.toList d1
 subst this;exact r.inj r'
end
noncomputable abbrev Cx.wish(X:Cx)(E:Value->Shared->Prop):Cx:={X with xe:=E}
noncomputable abbrev Cx.nox(X:Cx):Cx:=X.wish λ_ _=>False
theorem Cx.Ok.wish{X:Cx}(ok:X.Ok)(E:Value->Shared->Prop):(X.wish E).Ok:=⟨ok.mod,ok.kind,ok.glob,ok.blt,ok.above,ok.inj,ok.has,ok.cab,ok.hd,ok.frames,ok.stk,ok.exf,ok.bs,ok.bsz,ok.noex,ok.exfs,ok.funs,ok.frf⟩
theorem Cx.Ok.unwish{X:Cx}{E:Value->Shared->Prop}(ok:(X.wish E).Ok):X.Ok:=⟨ok.mod,ok.kind,ok.glob,ok.blt,ok.above,ok.inj,ok.has,ok.cab,ok.hd,ok.frames,ok.stk,ok.exf,ok.bs,ok.bsz,ok.noex,ok.exfs,ok.funs,ok.frf⟩
section
variable {X:Cx}{pins:List (Addr×Obj)}{σ:St}{H:Hp}{s:Shared}{E:Value->Shared->Prop}
theorem Inv.wish(I:Inv X pins σ H s)(E:Value->Shared->Prop):Inv (X.wish E) pins σ H s:=⟨I.ok.wish E,I.os,I.bare,I.base,I.loc,I.cell,I.free,I.freeC,I.pin,I.hok,I.len⟩
theorem Inv.unwish(I:Inv (X.wish E) pins σ H s):Inv X pins σ H s:=⟨I.ok.unwish,I.os,I.bare,I.base,I.loc,I.cell,I.free,I.freeC,I.pin,I.hok,I.len⟩
theorem SP.unwish{D:Ends}{f:Flow}{s':Shared}(h:SP (X.wish E) pins D f s'):SP X pins D f s':=by
 cases f with
|next=>obtain⟨σ',H',I,q⟩:=h;exact⟨σ',H',I.unwish,q⟩
|brk=>obtain⟨σ',H',I,q⟩:=h;exact⟨σ',H',I.unwish,q⟩
|cont=>obtain⟨σ',H',I,q⟩:=h;exact⟨σ',H',I.unwish,q⟩
|ret u=>obtain⟨v,σ',H',I,r,q⟩:=h;exact⟨v,σ',H',I.unwish,r,q⟩
theorem PSs.nox{st:List Stmt}{t:TS}(h:PSs X.nox st t):PSs X st t:=λpins s σ H D I hw=>wpAny_mono (h pins s σ H D (I.wish _) hw) (λ_ _ q=>q.unwish) λ_ _ z=>False.elim z
end
section
variable {X:Cx}{st:Stmt}{rest:List Stmt}{t u:TS}{e:Expr}{te:TE}{pos:Pos}
def EC:TS:=λD σ H=>D.nx σ H
def tSeq(t u:TS):TS:=λD σ H=>t {D with nx:=u D} σ H
theorem Zx:PSs X [] EC:=λ_ _ σ H _ I h=>wpAny_execs_nil ⟨σ,H,I,h⟩
theorem Zd(h1:PS X st t)(h2:PSs X rest u):PSs X (st::rest) (tSeq t u):=by
 intro pins s σ H D I h;refine wpAny_execs_cons (thn (h1 pins s σ H {D with nx:=u D} I h) λf s1 q=>?_);cases f with
|next=>obtain⟨σ',H',I',q⟩:=q;exact h2 pins s1 σ' H' D I' q
|ret v=>exact q
|brk=>exact q
|cont=>exact q
theorem Zk(h1:PS X st t):PSs X [st] t:=by
 intro pins s σ H D I h;refine wpAny_execs_cons (thn (h1 pins s σ H D I h) λf s1 q=>?_);cases f with
|next=>exact wpAny_execs_nil q
|ret v=>exact q
|brk=>exact q
|cont=>exact q
theorem Inv.quiet{pins:List (Addr×Obj)}{σ:St}{H:Hp}{s:Shared}(I:Inv X pins σ H s):interactive X.env=false:=by simp[interactive,I.ok.kind]
def EF(te:TE):TS:=λD σ H=>te σ H λ_ H1=>D.nx σ H1
theorem ZU(he:PE X e te)(hs:swapsWith e none pos.line X.env=pure false:=by rfl):PS X (.Expr e pos) (EF te):=by intro pins s σ H D I h;exact wpAny_Expr_any (thn (he pins s σ H _ I h) λv s1⟨x,H1,I1,r1,q1⟩=>⟨σ,H1,I1,q1⟩) I.quiet hs
def tRet(te:TE):TS:=λD σ H=>te σ H D.rt
theorem Zq(he:PE X e te):PS X (.Return (some e) pos) (tRet te):=by intro pins s σ H D I h;exact wpAny_Return_some (thn (he pins s σ H _ I h) λv s1⟨x,H1,I1,r1,q1⟩=>⟨x,σ,H1,I1,r1,q1⟩)
def tIfS(c:TT)(t u:TS):TS:=λD σ H=>c σ H λb H1=>if b=true then t D σ H1 else u D σ H1
theorem ZP{c:Expr}{a b:List Stmt}{tc:TT}(hc:PT X c tc)(ha:PSs X a t)(hb:PSs X b u):PS X (.If c a b pos) (tIfS tc t u):=by
 intro pins s σ H D I h;refine wpAny_If (thn (hc pins s σ H _ I h) λd s1⟨H1,I1,q1⟩=>?_);cases d with
|true=>exact ha pins s1 σ H1 D I1 q1
|false=>exact hb pins s1 σ H1 D I1 q1
def T8:TS:=λ_ _ _=>False
theorem G7:PS X st T8:=λ_ _ _ _ _ _ h=>h.elim
theorem Su{sts:List Stmt}:PSs X sts T8:=λ_ _ _ _ _ _ h=>h.elim
end
noncomputable abbrev TG:=V->St->Hp->(St->Hp->Prop)->Prop
noncomputable abbrev TGs:=List V->St->Hp->(St->Hp->Prop)->Prop
def PG(X:Cx)(target:Expr)(t:TG):Prop:=∀(pins:List (Addr×Obj))(s:Shared)(σ:St)(H:Hp)(v:V)(u:Value)(Q:St->Hp->Prop),Inv X pins σ H s->RelV v u->t v σ H Q ->wpAny (model X.prog X.w) X.A (assign target X.env u) (λ_ s'=>∃σ' H',Inv X pins σ' H' s'/\Q σ' H') X.xe s
def PGs(X:Cx)(ts:List Expr)(t:TGs):Prop:=∀(pins:List (Addr×Obj))(s:Shared)(σ:St)(H:Hp)(vs:List V)(us:List Value)(Q:St->Hp->Prop),Inv X pins σ H s->Vals vs us->t vs σ H Q ->wpAny (model X.prog X.w) X.A (assignInOrder ((assignEach ts X.env).map (·.2)) us) (λ_ s'=>∃σ' H',Inv X pins σ' H' s'/\Q σ' H') X.xe s
noncomputable abbrev TSet:=V->V->V->Hp->(Hp->Prop)->Prop
def PSet(X:Cx)(t:TSet):Prop:=∀(pins:List (Addr×Obj))(s:Shared)(σ:St)(H:Hp)(o i v:V)(ov iv u:Value)(Q:Hp->Prop),Inv X pins σ H s->RelV o ov->RelV i iv->RelV v u->t o i v H Q ->wpAny (model X.prog X.w) X.A (setItem ov iv u) (λ_ s'=>∃H',Inv X pins σ H' s'/\Q H') X.xe s
section
variable {X:Cx}{pos:Pos}
def PU(i:Nat):TG:=λv σ H Q=>Q (σ.set i (some v)) H
theorem Zo{i:Nat}{x:Str}(hN:X.N.Nodup)(hi:X.N[i]?=some x)(hx:Loc X.env.scope x)(hf:X.fn x=true\/X.env.scope.names.lookup x=some .local:=by first|exact .inl rfl|exact .inr rfl|assumption):PG X (.Name x pos) (PU i):=by intro pins s σ H v u Q I r h;exact wpAny_assign_Name (NY I hN hi hx r (λs' I'=>⟨_,H,I',h⟩) hf)
noncomputable def gNil:TGs:=λvs σ H Q=>vs=[]/\Q σ H
noncomputable def Fb(t:TG)(u:TGs):TGs:=λvs σ H Q=>∃v r,vs=v::r/\t v σ H λσ' H'=>u r σ' H' Q
theorem ZV:PGs X [] gNil:=by intro pins s σ H vs us Q I r h;obtain⟨e,h⟩:=h;subst e;cases r;exact assignInOrder_nil ⟨σ,H,I,h⟩
theorem Zp{e:Expr}{es:List Expr}{t:TG}{u:TGs}(h1:PG X e t)(h2:PGs X es u)(hs:(assignEach (e::es) X.env).map (·.2)=assign e X.env::(assignEach es X.env).map (·.2):=by rfl):PGs X (e::es) (Fb t u):=by
 intro pins s σ H vs us Q I r h;obtain⟨v,vr,e1,h⟩:=h;subst e1;cases r with
|cons r rr=>rw[hs];refine assignInOrder_cons (thn (h1 pins s σ H _ _ _ I r h) λ_ s1⟨σ1,H1,I1,q1⟩=>?_);exact h2 pins s1 σ1 H1 _ _ Q I1 rr q1
def gTup(K:PySem.W.Frag)(n:Nat)(t:TGs):TG:=λv σ H Q=>∃a xs,v=.ref a/\SqT K H a xs/\xs.length=n/\t xs σ H Q
theorem YS{es:List Expr}{k:Nat}{t:TGs}{n:Nat}(hc:X.calm=true)(h:PGs X es t)(hn:(assignEach es X.env).length=n:=by rfl)(hst:(assignEach es X.env).findIdx? (·.1)=none:=by rfl):PG X (.Tuple es k pos) (gTup X.K n t):=by intro pins s σ H v u Q I r hw;obtain⟨a,xs,e1,hq,hl,hw⟩:=hw;subst e1;cases r;obtain⟨its,rv,ht,hz⟩:=I.tuple hq;refine assign_Tuple_tuple (I.ok.hd hc) ht (by simp[hn,<-hl,rv.length]) hst λh' hx=>?_;have I1:Inv X pins σ H {s with heap:=h'}:=I.kept (t':=s.toks) λb o e=>hx b o (Nat.ne_of_lt (Heap.lt_size e)) e;exact h pins _ σ H xs _ Q I1 (by simpa using rv) hw
def gSub(to ti:TE)(t:TSet):TG:=λv σ H Q=>to σ H λo H1=>ti σ H1 λi H2=>t o i v H2 λH3=>Q σ H3
theorem WO{o i:Expr}{to ti:TE}{t:TSet}(ho:PE X o to)(hi:PE X i ti)(hs:PSet X t)
  (ha:∀v,assign (.Subscript o i pos) X.env v=(do
   let ov <-holding [v] (eval o X.env)
   let iv <-holding [v,ov] (eval i X.env)
   standAt pos
   holding [v,ov,iv] (setItem ov iv v)
   release [v,ov,iv] []):=by intro _;rfl):PG X (.Subscript o i pos) (gSub to ti t):=by
 intro pins s σ H v u Q I r h
 rw[ha]
 refine wpAny_bind (wpAny_holding (thn (ho pins s σ H _ I h) λov s1⟨x,H1,I1,r1,q1⟩=>?_))
 refine wpAny_bind (wpAny_holding (thn (hi pins s1 σ H1 _ I1 q1) λiv s2⟨y,H2,I2,r2,q2⟩=>?_))
 refine wpAny_bind (wpAny_standAt (wpAny_bind (wpAny_holding (thn (hs pins s2 σ H2 x y v ov iv u _ I2 r1 r2 r q2) λ_ s3⟨H3,I3,q3⟩=>?_))))
 exact wpAny_release ⟨σ,H3,I3,q3⟩
def tAsg(te:TE)(g:TG):TS:=λD σ H=>te σ H λx H1=>g x σ H1 D.nx
theorem UJ{tg e:Expr}{te:TE}{g:TG}(he:PE X e te)(hg:PG X tg g)(hs:swapsWithSole [tg] e pos.line X.env=pure false:=by rfl)(hw:swappedStores [tg] e X.env=pure none:=by rfl)(h1:(assignEach [tg] X.env).map (·.2)=[assign tg X.env]:=by rfl):PS X (.Assign [tg] e pos) (tAsg te g):=by intro pins s σ H D I h;refine wpAny_Assign_stores (thn (he pins s σ H _ I h) λv s1⟨x,H1,I1,r1,q1⟩=>?_) hs hw;rw[h1];exact thn (hg pins s1 σ H1 x v _ I1 r1 q1) λ_ s2 q=>q
theorem Yn{i:Nat}{x:Str}{e:Expr}{te:TE}{pos':Pos}(hN:X.N.Nodup)(hi:X.N[i]?=some x)(hx:Loc X.env.scope x)(he:PE X e te)(hs:swapsWith e (some (.Name x pos')) pos.line X.env=pure false:=by rfl)(hf:X.fn x=true\/X.env.scope.names.lookup x=some .local:=by first|exact .inl rfl|exact .inr rfl|assumption):PS X (.Assign [.Name x pos'] e pos) (tAsg te (PU i)):=by intro pins s σ H D I h;refine wpAny_Assign_Name (thn (he pins s σ H _ I h) λv s1⟨y,H1,I1,r1,q1⟩=>?_) hs;exact NY I1 hN hi hx r1 (λs2 I2=>⟨_,H1,I2,q1⟩) hf
def T6(c:TT)(tb:TS):TS:=λD σ H=>∃W:Nat->St->Hp->Prop,(∃m,W m σ H)/\∀m σ H,W m σ H ->c σ H λb H1=>if b=true then ∃N:St->Hp->Prop,(∀σ' H',N σ' H'->∃m',m'<m/\W m' σ' H')/\tb {D with nx:=N,ct:=N,bk:=D.nx} σ H1 else D.nx σ H1
theorem Ph{c:Expr}{body:List Stmt}{tc:TT}{tb:TS}(hp:PassesOwn (model X.prog X.w) X.A X.env X.xe)(hc:PT X c tc)(hb:PSs X body tb):PS X (.While c body [] pos) (T6 tc tb):=by
 intro pins s σ H D I h;obtain⟨W,⟨m0,w0⟩,turn⟩:=h;refine wpAny_While (codeAny_whileLoop (λn s'=>∃σ' H',Inv X pins σ' H' s'/\W n σ' H') ?_ m0 ⟨σ,H,I,w0⟩);rintro n s1 ⟨σ1,H1,I1,w1⟩;refine wpAny_passesOwn hp (thn (hc pins s1 σ1 H1 _ I1 (turn n σ1 H1 w1)) λb s2⟨H2,I2,q2⟩=>?_);cases b with
|true=>
  obtain⟨N,hN,q2⟩:=q2;rw[if_pos rfl];refine wpAny_passesOwn hp (thn (hb pins s2 σ1 H2 _ I2 q2) λf s3 q3=>?_);cases f with
 |next=>obtain⟨σ3,H3,I3,n3⟩:=q3;obtain⟨m',hm,w3⟩:=hN σ3 H3 n3;exact⟨m',hm,σ3,H3,I3,w3⟩
 |cont=>obtain⟨σ3,H3,I3,n3⟩:=q3;obtain⟨m',hm,w3⟩:=hN σ3 H3 n3;exact⟨m',hm,σ3,H3,I3,w3⟩
 |brk=>exact q3
 |ret v=>exact q3
|false=>rw[if_neg Bool.false_ne_true];exact wpAny_execs_nil ⟨σ1,H2,I2,q2⟩
end
structure It where
 go:Nat->Hp->Prop
 yld:Nat->Hp->V->Hp->Prop
 stop:Nat->Hp->Prop
def FpOk(X:Cx)(pins:List (Addr×Obj))(H:Hp)(b:Addr):Prop:=H b=none/\b≠X.env.locals/\b∉X.fs/\(b∈X.ex\/X.s₀.heap.objs.size<=b)/\(∀x c,X.env.cells.lookup x=some c->c≠b)/\∀p∈X.pn++pins,p.1≠b
theorem Inv.fpOk{X:Cx}{pins:List (Addr×Obj)}{σ:St}{H H':Hp}{s:Shared}{b:Addr}(I:Inv X pins σ H s)(hb:s.heap.objs.size<=b)(hn:H' b=none):FpOk X pins H' b:=by
 refine⟨hn,Nat.ne_of_gt (Nat.lt_of_lt_of_le I.lt hb),I.nofs hb,.inr (Nat.le_trans I.sz hb),λx c e z=>?_,λp hp z=>?_⟩
 ·obtain⟨v,q⟩:=I.cell x c e;exact absurd (Nat.lt_of_lt_of_le q.lt (by rw[z];exact hb)) (Nat.lt_irrefl _)
 ·exact absurd (Nat.lt_of_lt_of_le (Heap.lt_size (I.pin p hp).1) (by rw[z];exact hb)) (Nat.lt_irrefl _)
structure Turn(P:Program)(w:World)(K:PySem.W.Frag)(tg:Expr)(J:It)(fp:List Addr)(it:Addr)(tn:Nat->Heap->Prop):Prop where
 mem:it∈fp
 obj:∀i h,tn i h->∀b∈fp,∃o,h.get? b=some o/\∀v,o.data≠.cell v
 keep:∀i h h',tn i h->(∀b∈fp,∀o,h.get? b=some o->h'.get? b=some o)->tn i h'
 item:∀(X:Cx),X.prog=P->X.w=w->X.K=K->X.calm=true->∀(i:Nat)(pins:List (Addr×Obj))(s:Shared)(σ:St)(H:Hp)(E:Value->Shared->Prop),Inv X pins σ H s->(∀b∈fp,FpOk X pins H b)->tn i s.heap->J.go i H ->
  wpAny (model P w) X.A (pyNext (.ref it)) (λr s1=>∃u,r=some u /\
   wpAny (model P w) X.A (letOwnedTupleGo tg (.ref it) u) (λ_ s2=>∃x H',Inv X pins σ H' s2/\RelV x u/\J.yld i H x H'/\tn (i+1) s2.heap/\∀b∈fp,H' b=none) E s1) E s
 done:∀(X:Cx),X.prog=P->X.w=w->X.K=K->X.calm=true->∀(i:Nat)(pins:List (Addr×Obj))(s:Shared)(σ:St)(H:Hp)(E:Value->Shared->Prop),Inv X pins σ H s->(∀b∈fp,FpOk X pins H b)->tn i s.heap->J.stop i H ->
  wpAny (model P w) X.A (pyNext (.ref it)) (λr s1=>r=none/\Inv X pins σ H s1) E s
 self:∀(A:Around)(i:Nat)(s:Shared)(Q:Value->Shared->Prop)(E:Value->Shared->Prop),tn i s.heap->Q (.ref it) s->wpAny (model P w) A (pyIter (.ref it)) Q E s
noncomputable abbrev TI:=St->Hp->(It->Hp->Prop)->Prop
def PIE(X:Cx)(pins:List (Addr×Obj))(σ:St)(tg:Expr)(R:It->Hp->Prop)(itv:Value)(s2:Shared):Prop:=∃(it:Addr)(fp:List Addr)(tn:Nat->Heap->Prop)(J:It)(H':Hp),itv=.ref it/\Inv X pins σ H' s2/\Turn X.prog X.w X.K tg J fp it tn/\tn 0 s2.heap/\(∀b∈fp,FpOk X pins H' b)/\R J H'
def PI(X:Cx)(tg iter:Expr)(wi:TI):Prop:=∀(pins:List (Addr×Obj))(s:Shared)(σ:St)(H:Hp)(R:It->Hp->Prop),Inv X pins σ H s->wi σ H R ->wpAny (model X.prog X.w) X.A (eval iter X.env) (λv s1=>wpAny (model X.prog X.w) X.A (pyIter v) (PIE X pins σ tg R) X.xe s1) X.xe s
theorem PN{M:Model}{A:Around}{E:Value->Shared->Prop}{s:Shared}{tg:Expr}{it:Addr}{u:Value}{o:Obj}{n:String}{vs:Array Value}{Q:Unit->Shared->Prop}(ho:s.heap.get? it=some o)(hc:o.cls=.type n)(hd:o.data=.fields vs)(hn:["enumerate","zip","dict_itemiterator","dict_reverseitemiterator","odict_iterator","itertools.zip_longest","itertools.pairwise"].contains n=false)(hQ:Q () s):wpAny M A (letOwnedTupleGo tg (.ref it) u) Q E s:=by
 unfold letOwnedTupleGo;cases tg<;>first
 |exact wpAny_pure hQ
 |(cases u<;>first
   |exact wpAny_pure hQ
   |(refine wpAny_bind (wpAny_load ho ?_);rw[hc,hd];show wpAny M A (if(["enumerate","zip","dict_itemiterator","dict_reverseitemiterator","odict_iterator","itertools.zip_longest","itertools.pairwise"].contains n&&vs[0]?==some (rawInt _))=true then _ else _) Q E s;rw[if_neg (by intro h;rw[hn,Bool.false_and]at h;cases h)];exact wpAny_pure hQ))
noncomputable def Itl(K:PySem.W.Frag)(a:Addr):It:=⟨λi H=>∃xs x,SqL K H a xs/\xs[i]?=some x,λi H x H'=>H'=H/\∀xs,SqL K H a xs->xs[i]?=some x,λi H=>∃xs,SqL K H a xs/\xs.length<=i⟩
noncomputable def Itt(K:PySem.W.Frag)(a:Addr):It:=⟨λi H=>∃xs x,SqT K H a xs/\xs[i]?=some x,λi H x H'=>H'=H/\∀xs,SqT K H a xs->xs[i]?=some x,λi H=>∃xs,SqT K H a xs/\xs.length<=i⟩
noncomputable def Itr(lo:Int)(n:Nat):It:=⟨λi _=>i<n,λi H x H'=>H'=H/\x=.int (lo+i),λi _=>n<=i⟩
theorem MG{P:Program}{w:World}{K:PySem.W.Frag}{tg:Expr}(a it:Addr):Turn P w K tg (Itl K a) [it] it (λi h=>h.IsListIter it a i) where
 mem:=by simp
 obj:=λi h st b hb=>by
  have e:b=it:=by simpa using hb
  subst e
  obtain⟨o,e,c,d⟩:=st
  exact⟨o,e,λv z=>by rw[d]at z;cases z⟩
 keep:=λi h h' st k=>st.at λo e=>k it (by simp) o e
 item:=by
  intro X hP hw hK hc i pins s σ H E I hf st hg
  subst hP hw hK
  obtain⟨xs,x,hq,hx⟩:=hg
  obtain⟨its,rv,p,hz⟩:=I.list hq
  obtain⟨u,hu,ru⟩:=rv.get hx
  obtain⟨f0,f1,f2,f3,f4,f5⟩:=hf it (by simp)
  refine wpAny_pyNext_list_item st p.isList (x:=u) (by simpa using hu) λh' st' sb=>?_
  have I1:Inv X pins σ H {s with heap:=h'}:=I.turned (t':=s.toks) (λb o hb e=>(sb.2 b hb).trans e) f0 f1 f3 f4 f5
  obtain⟨o,e,c,d⟩:=id st'
  exact⟨u,rfl,PN (s:={s with heap:=h'}) e c d (by decide) ⟨x,H,I1,ru,⟨rfl,λys hy=>by rw[I.list_inj hy hq];exact hx⟩,st',λb hb=>(hf b hb).1⟩⟩
 done:=by
  intro X hP hw hK hc i pins s σ H E I hf st hg
  subst hP hw hK
  obtain⟨xs,hq,hx⟩:=hg
  obtain⟨its,rv,p,hz⟩:=I.list hq
  obtain⟨f0,f1,f2,f3,f4,f5⟩:=hf it (by simp)
  have hl:=rv.length
  exact wpAny_pyNext_list_end (I.ok.hd hc) st p.isList (by simp;omega) λh' eb=>⟨rfl,I.turned (t':=s.toks) (λb o hb e=>eb b o hb e) f0 f1 f3 f4 f5⟩
 self:=λ_ _ _ _ _ st h=>wpAny_pyIter_listiter st h
theorem GP{P:Program}{w:World}{K:PySem.W.Frag}{tg:Expr}(a it:Addr):Turn P w K tg (Itt K a) [it] it (λi h=>h.IsTupleIter it a i) where
 mem:=by simp
 obj:=λi h st b hb=>by
  have e:b=it:=by simpa using hb
  subst e
  obtain⟨o,e,c,d⟩:=st
  exact⟨o,e,λv z=>by rw[d]at z;cases z⟩
 keep:=λi h h' st k=>st.at λo e=>k it (by simp) o e
 item:=by
  intro X hP hw hK hc i pins s σ H E I hf st hg
  subst hP hw hK
  obtain⟨xs,x,hq,hx⟩:=hg
  obtain⟨its,rv,p,hz⟩:=I.tuple hq
  obtain⟨u,hu,ru⟩:=rv.get hx
  obtain⟨f0,f1,f2,f3,f4,f5⟩:=hf it (by simp)
  refine wpAny_pyNext_tuple_item st (show s.heap.IsTuple a its.toArray from p) (x:=u) (by simpa using hu) λh' st' sb=>?_
  have I1:Inv X pins σ H {s with heap:=h'}:=I.turned (t':=s.toks) (λb o hb e=>(sb.2 b hb).trans e) f0 f1 f3 f4 f5
  obtain⟨o,e,c,d⟩:=id st'
  exact⟨u,rfl,PN (s:={s with heap:=h'}) e c d (by decide) ⟨x,H,I1,ru,⟨rfl,λys hy=>by rw[I.tuple_inj hy hq];exact hx⟩,st',λb hb=>(hf b hb).1⟩⟩
 done:=by
  intro X hP hw hK hc i pins s σ H E I hf st hg
  subst hP hw hK
  obtain⟨xs,hq,hx⟩:=hg
  obtain⟨its,rv,p,hz⟩:=I.tuple hq
  obtain⟨f0,f1,f2,f3,f4,f5⟩:=hf it (by simp)
  have hl:=rv.length
  exact wpAny_pyNext_tuple_end (I.ok.hd hc) st (show s.heap.IsTuple a its.toArray from p) (by simp;omega) λh' eb=>⟨rfl,I.turned (t':=s.toks) (λb o hb e=>eb b o hb e) f0 f1 f3 f4 f5⟩
 self:=λ_ _ _ _ _ st h=>wpAny_pyIter_tupleiter st h
theorem Ql{P:Program}{w:World}{K:PySem.W.Frag}{tg:Expr}(it:Addr)(lo:Int)(n:Nat):Turn P w K tg (Itr lo n) [it] it (λi h=>IsRangeIter h it (lo+(i:Nat)*1) ((n:Int)-(i:Nat)) 1) where
 mem:=by simp
 obj:=λi h st b hb=>by
  have e:b=it:=by simpa using hb
  subst e
  exact⟨_,st,λv z=>by
   have z':Data.fields _=Data.cell v:=z
   cases z'⟩
 keep:=λi h h' st k=>k it (by simp) _ st
 item:=by
  intro X hP hw hK hc i pins s σ H E I hf st hg
  subst hP hw hK
  obtain⟨f0,f1,f2,f3,f4,f5⟩:=hf it (by simp)
  have W:=Walks.range (prog:=X.prog) (w:=X.w) (I.ok.hd hc) it lo 1 n
  refine W.item i s _ _ hg st λv h' tk hv st' kk=>?_
  obtain⟨t,rfl⟩:=hv
  have I1:Inv X pins σ H {s with heap:=h',toks:=tk}:=I.turned (λb o hb e=>kk b o (by simpa using hb) e) f0 f1 f3 f4 f5
  refine⟨_,rfl,PN (s:={s with heap:=h',toks:=tk}) (n:="range_iterator") st' rfl rfl (by decide) ⟨.int (lo+i),H,I1,⟨t,?_⟩,⟨rfl,rfl⟩,st',λb hb=>(hf b hb).1⟩⟩
  rw[Int.mul_one]
 done:=by
  intro X hP hw hK hc i pins s σ H E I hf st hg
  subst hP hw hK
  obtain⟨f0,f1,f2,f3,f4,f5⟩:=hf it (by simp)
  exact wpAny_pyNext_range_end (I.ok.hd hc) st (by have:n<=i:=hg;omega) λh' eb=>⟨rfl,I.turned (t':=s.toks) (λb o hb e=>eb b o hb e) f0 f1 f3 f4 f5⟩
 self:=λ_ _ _ _ _ st h=>wpAny_pyIter_rangeiter st h
open PySem PySem.Spec PyProof.Rows
section
variable {X:Cx}{tg:Expr}
noncomputable def E6(K:PySem.W.Frag)(tl:TE):TI:=λσ H R=>tl σ H λx H1=>∃a,x=.ref a/\(∃xs,SqL K H1 a xs)/\R (Itl K a) H1
noncomputable def iTup(K:PySem.W.Frag)(tl:TE):TI:=λσ H R=>tl σ H λx H1=>∃a,x=.ref a/\(∃xs,SqT K H1 a xs)/\R (Itt K a) H1
theorem Yc{l:Expr}{tl:TE}(hl:PE X l tl):PI X tg l (E6 X.K tl):=by
 intro pins s σ H R I h;refine thn (hl pins s σ H _ I h) λv s1⟨x,H1,I1,r1,q1⟩=>?_;obtain⟨a,e,⟨xs,hq⟩,q⟩:=q1;subst e;cases r1;obtain⟨its,rv,p,hz⟩:=I1.list hq;refine wpAny_pyIter_list p.isList ?_;refine⟨s1.heap.objs.size,[s1.heap.objs.size],_,_,H1,rfl,I1.kept (t':=s1.toks) λb o e=>Heap.get?_push_of_some _ e,MG a _,⟨_,Heap.get?_push_size _ rfl,rfl,rfl⟩,λb hb=>?_,q⟩;have e:b=s1.heap.objs.size:=by simpa using hb
 subst e;exact I1.fpOk (Nat.le_refl _) (I1.hok.fresh (Nat.le_refl _))
theorem Nu{l:Expr}{tl:TE}(hl:PE X l tl):PI X tg l (iTup X.K tl):=by
 intro pins s σ H R I h;refine thn (hl pins s σ H _ I h) λv s1⟨x,H1,I1,r1,q1⟩=>?_;obtain⟨a,e,⟨xs,hq⟩,q⟩:=q1;subst e;cases r1;obtain⟨its,rv,p,hz⟩:=I1.tuple hq;refine wpAny_pyIter_tuple (show s1.heap.IsTuple a its.toArray from p) ?_;refine⟨s1.heap.objs.size,[s1.heap.objs.size],_,_,H1,rfl,I1.kept (t':=s1.toks) λb o e=>Heap.get?_push_of_some _ e,GP a _,⟨_,Heap.get?_push_size _ rfl,rfl,rfl⟩,λb hb=>?_,q⟩;have e:b=s1.heap.objs.size:=by simpa using hb
 subst e;exact I1.fpOk (Nat.le_refl _) (I1.hok.fresh (Nat.le_refl _))
theorem WH{pins:List (Addr×Obj)}{σ:St}{H:Hp}{s:Shared}{R:It->Hp->Prop}{E:Value->Shared->Prop}{lo hi:Int}{t u v:Tok}{tk:Nat}(I:Inv X pins σ H s)(h1:-(2 ^ 62)<=lo)(h2:lo<2 ^ 62)(h3:-(2 ^ 62)<=hi)(h4:hi<2 ^ 62)(q:R (Itr lo (hi-lo).toNat) H):wpAny (model X.prog X.w) X.A (pyIter (.ref s.heap.objs.size)) (PIE X pins σ tg R) E {s with heap:=s.heap.push {cls:=.type "range",data:=.fields #[.int lo t,.int hi u,.int 1 v]},toks:=tk}:=by
 refine wpAny_pyIter_range (IsRange.new ..) (small_one h1 h2 h3 h4) ?_;have I1:Inv X pins σ H {s with heap:=s.heap.push {cls:=.type "range",data:=.fields #[.int lo t,.int hi u,.int 1 v]},toks:=tk}:=I.kept λb o e=>Heap.get?_push_of_some _ e;refine⟨(s.heap.push {cls:=.type "range",data:=.fields #[.int lo t,.int hi u,.int 1 v]}).objs.size,[(s.heap.push {cls:=.type "range",data:=.fields #[.int lo t,.int hi u,.int 1 v]}).objs.size],_,_,H,rfl,I1.kept (t':=tk) λb o e=>Heap.get?_push_of_some _ e,Ql _ lo (hi-lo).toNat,?_,λb hb=>?_,q⟩
 ·have e1:lo+((0:Nat):Int)*1=lo:=by simp
  have e2:(((hi-lo).toNat:Nat):Int)-((0:Nat):Int)=Builtin.Range.rangeSize lo hi 1:=by rw[rangeSize_one];split<;>omega
  show IsRangeIter _ _ (lo+((0:Nat):Int)*1) ((((hi-lo).toNat:Nat):Int)-((0:Nat):Int)) 1;rw[e1,e2];exact Heap.get?_push_size _ rfl
 ·have e:b=(s.heap.push {cls:=.type "range",data:=.fields #[.int lo t,.int hi u,.int 1 v]}).objs.size:=by simpa using hb
  subst e;exact I1.fpOk (Nat.le_refl _) (I1.hok.fresh (Nat.le_refl _))
noncomputable def E5(ta:TA):TI:=λσ H R=>ta σ H λvs H1=>∃j:Int,vs=[.int j]/\-(2 ^ 62)<=j/\j<2 ^ 62/\R (Itr 0 j.toNat) H1
theorem YR{a:Expr}{ta:TA}{p pos:Pos}(hg:Gl X "range")(hm:X.mg "range"=none)(ha:PA X [a] ta)(hs:starEach [a] X.env=[(false,eval a X.env)]:=by rfl):PI X tg (.Call (.Name "range" p) [a] [] pos) (E5 ta):=by
 intro pins s σ H R I h;refine Call_ (Jl I hg hm boot_range (PyProof.Rows.callWith_type1 (thn (ha pos pins s σ H _ I h) λus s1⟨vs,H1,I1,r1,q1⟩=>?_) hs rfl));obtain⟨j,e,q1,q2,q⟩:=q1;subst e;cases r1 with
|cons r rr=>cases rr;obtain⟨t,rfl⟩:=r;exact call_range_1 (WH I1 (by omega) (by omega) q1 q2 (by simpa using q))
def tFor(wi:TI)(g:TG)(tb:TS):TS:=λD σ H=>wi σ H λJ H1=>∃W:Nat->Nat->St->Hp->Prop,(∃m,W 0 m σ H1)/\∀i m σ H,W i m σ H ->(J.stop i H/\D.nx σ H)\/(J.go i H/\∃N:St->Hp->Prop,(∀σ' H',N σ' H'->∃m',m'<m/\W (i+1) m' σ' H')/\∀x H',J.yld i H x H'->g x σ H' λσ2 H2=>tb {D with nx:=N,ct:=N,bk:=D.nx} σ2 H2)
noncomputable def UK(fp:List Addr)(h:Heap):List (Addr×Obj):=fp.filterMap λb=>(h.get? b).map λo=>(b,o)
theorem mem_pinsAt{fp:List Addr}{h:Heap}{b:Addr}{o:Obj}(hb:b∈fp)(e:h.get? b=some o):(b,o)∈UK fp h:=List.mem_filterMap.mpr ⟨b,hb,by rw[e];rfl⟩
theorem Sz{fp:List Addr}{h:Heap}{p:Addr×Obj}(hp:p∈UK fp h):p.1∈fp/\h.get? p.1=some p.2:=by
 obtain⟨b,hb,e⟩:=List.mem_filterMap.mp hp;cases q:h.get? b with
|none=>rw[q]at e;cases e
|some o=>rw[q]at e;have e':(b,o)=p:=Option.some.inj e;subst e';exact⟨hb,q⟩
theorem Inv.pinned{pins:List (Addr×Obj)}{σ:St}{H:Hp}{s:Shared}{fp:List Addr}(I:Inv X pins σ H s)(hf:∀b∈fp,FpOk X pins H b)(ho:∀b∈fp,∃o,s.heap.get? b=some o/\∀v,o.data≠.cell v):Inv X (pins++UK fp s.heap) σ H s:=I.pins_of λp hp=>(List.mem_append.mp hp).elim (λz=>I.pin p (List.mem_append_right _ z)) λz=>by obtain⟨hb,e⟩:=Sz z;obtain⟨f0,f1,f2,_⟩:=hf p.1 hb;obtain⟨o,e',d⟩:=ho p.1 hb;rw[e]at e';cases e';exact⟨e,f0,f1,f2,d⟩
theorem Inv.unpinned{pins pl:List (Addr×Obj)}{σ:St}{H:Hp}{s:Shared}(I:Inv X (pins++pl) σ H s):Inv X pins σ H s:=I.pins_of λp hp=>I.pin p (List.mem_append_right _ (List.mem_append_left _ hp))
theorem Y3{iter:Expr}{body:List Stmt}{wi:TI}{g:TG}{tb:TS}{pos:Pos}(hp:PassesOwn (model X.prog X.w) X.A X.env X.xe)(hc:X.calm=true)(hi:PI X tg iter wi)(hg:PG X tg g)(hb:PSs X body tb)(hs:∀x,foldedSetIterable iter X.env x=pure x:=by intro _;rfl):PS X (.For tg iter body [] pos) (tFor wi g tb):=by
 intro pins s σ H D I h;refine wpAny_For (thn (hi pins s σ H _ I h) λv s1 h1=>thn h1 λitv s2 h2=>?_) hs;obtain⟨it,fp,tn,J,H2,e,I2,T,st2,f2,W,⟨m0,w0⟩,turn⟩:=h2;subst e;have stat:∀{H':Hp},(∀b∈fp,H' b=none)->∀b∈fp,FpOk X pins H' b:=λhn b hb=>⟨hn b hb,(f2 b hb).2⟩;refine codeAny_forLoop_any (λn s'=>∃i σ' H',Inv X pins σ' H' s'/\tn i s'.heap/\(∀b∈fp,H' b=none)/\W i n σ' H') ?_ m0 ⟨0,σ,H2,I2,st2,λb hb=>(f2 b hb).1,w0⟩;rintro n s3 ⟨i,σ3,H3,I3,st3,fr3,w3⟩;rcases turn i n σ3 H3 w3 with⟨stop,qn⟩|⟨go,N,hN,step⟩
 ·refine wpAny_passesOwn hp (thn (T.done X rfl rfl rfl hc i pins s3 σ3 H3 X.xe I3 (stat fr3) st3 stop) λr s4⟨hr,I4⟩=>?_);subst hr;exact wpAny_execs_nil ⟨σ3,H3,I4,qn⟩
 ·refine wpAny_passesOwn hp (thn (T.item X rfl rfl rfl hc i pins s3 σ3 H3 X.xe I3 (stat fr3) st3 go) λr s4⟨u,hr,h4⟩=>?_);subst hr;refine wpAny_passesOwn hp (thn h4 λ_ s5⟨x,H5,I5,r5,y5,st5,fr5⟩=>?_);have I5':=I5.pinned (stat fr5) (T.obj _ _ st5);refine wpAny_passesOwn hp (thn (hg _ s5 σ3 H5 x u _ I5' r5 (step x H5 y5)) λ_ s6⟨σ6,H6,I6,q6⟩=>?_);refine wpAny_passesOwn hp (thn (hb _ s6 σ6 H6 _ I6 q6) λf s7 q7=>?_);have again:∀{σ7:St}{H7:Hp},Inv X (pins++UK fp s5.heap) σ7 H7 s7->N σ7 H7->∃m,m<n/\∃i σ' H',Inv X pins σ' H' s7/\tn i s7.heap/\(∀b∈fp,H' b=none)/\W i m σ' H':=λ{σ7 H7}I7 n7=>by obtain⟨m',hm,w7⟩:=hN σ7 H7 n7;refine⟨m',hm,i+1,σ7,H7,I7.unpinned,T.keep _ _ _ st5 λb hb o e=>(I7.pin (b,o) (List.mem_append_right _ (List.mem_append_right _ (mem_pinsAt hb e)))).1,λb hb=>?_,w7⟩;obtain⟨o,e,d⟩:=T.obj _ _ st5 b hb;exact(I7.pin (b,o) (List.mem_append_right _ (List.mem_append_right _ (mem_pinsAt hb e)))).2.1
  cases f with
 |next=>obtain⟨σ7,H7,I7,n7⟩:=q7;exact again I7 n7
 |cont=>obtain⟨σ7,H7,I7,n7⟩:=q7;exact again I7 n7
 |brk=>obtain⟨σ7,H7,I7,q7⟩:=q7;exact⟨σ7,H7,I7.unpinned,q7⟩
 |ret v=>obtain⟨x7,σ7,H7,I7,r7,q7⟩:=q7;exact⟨x7,σ7,H7,I7.unpinned,r7,q7⟩
end
theorem Ke{K:PySem.W.Frag}{a:Addr}{xs:List V}{g:TG}{tb:TS}{D:Ends}{σ:St}{H:Hp}(Pv:Nat->St->Hp->Prop)(h0:Pv 0 σ H)(hl:∀i σ H,i<=xs.length->Pv i σ H->SqL K H a xs)(hs:∀i x σ H,xs[i]?=some x->Pv i σ H->g x σ H λσ2 H2=>tb {D with nx:=Pv (i+1),ct:=Pv (i+1),bk:=D.nx} σ2 H2)(hd:∀σ H,Pv xs.length σ H->D.nx σ H):∃W:Nat->Nat->St->Hp->Prop,(∃m,W 0 m σ H)/\∀i m σ H,W i m σ H ->((Itl K a).stop i H/\D.nx σ H)\/((Itl K a).go i H/\∃N:St->Hp->Prop,(∀σ' H',N σ' H'->∃m',m'<m/\W (i+1) m' σ' H')/\∀x H',(Itl K a).yld i H x H'->g x σ H' λσ2 H2=>tb {D with nx:=N,ct:=N,bk:=D.nx} σ2 H2):=by
 refine⟨λi m σ H=>m=xs.length-i/\i<=xs.length/\Pv i σ H,⟨xs.length,by simp,Nat.zero_le _,h0⟩,?_⟩;rintro i m σ H ⟨rfl,hi,p⟩;have q:=hl i σ H hi p;by_cases hlt:i<xs.length
 ·refine .inr ⟨⟨xs,xs[i],q,by simp[hlt]⟩,Pv (i+1),λσ' H' p'=>⟨xs.length-(i+1),by omega,rfl,hlt,p'⟩,λx H' y=>?_⟩;obtain⟨e,y⟩:=y;subst e;exact hs i x σ _ (y xs q) p
 ·have e:i=xs.length:=by omega
  subst e;exact .inl ⟨⟨xs,q,Nat.le_refl _⟩,hd σ H p⟩
theorem SR{lo:Int}{n:Nat}{g:TG}{tb:TS}{D:Ends}{σ:St}{H:Hp}(Pv:Nat->St->Hp->Prop)(h0:Pv 0 σ H)(hs:∀i σ H,i<n->Pv i σ H->g (.int (lo+i)) σ H λσ2 H2=>tb {D with nx:=Pv (i+1),ct:=Pv (i+1),bk:=D.nx} σ2 H2)(hd:∀σ H,Pv n σ H->D.nx σ H):∃W:Nat->Nat->St->Hp->Prop,(∃m,W 0 m σ H)/\∀i m σ H,W i m σ H ->((Itr lo n).stop i H/\D.nx σ H)\/((Itr lo n).go i H/\∃N:St->Hp->Prop,(∀σ' H',N σ' H'->∃m',m'<m/\W (i+1) m' σ' H')/\∀x H',(Itr lo n).yld i H x H'->g x σ H' λσ2 H2=>tb {D with nx:=N,ct:=N,bk:=D.nx} σ2 H2):=by
 refine⟨λi m σ H=>m=n-i/\i<=n/\Pv i σ H,⟨n,by simp,Nat.zero_le _,h0⟩,?_⟩;rintro i m σ H ⟨rfl,hi,p⟩;by_cases hlt:i<n
 ·refine .inr ⟨hlt,Pv (i+1),λσ' H' p'=>⟨n-(i+1),by omega,rfl,hlt,p'⟩,λx H' y=>?_⟩;obtain⟨e,y⟩:=y;subst e y;exact hs i σ _ hlt p
 ·have e:i=n:=by omega
  subst e;exact .inl ⟨Nat.le_refl _,hd σ H p⟩
theorem NW{c:TT}{tb:TS}{D:Ends}{σ:St}{H:Hp}(Pv:St->Hp->Prop)(μ:St->Hp->Nat)(h0:Pv σ H)(hs:∀σ H,Pv σ H->c σ H λb H1=>if b=true then tb {D with nx:=λσ' H'=>Pv σ' H'/\μ σ' H'<μ σ H,ct:=λσ' H'=>Pv σ' H'/\μ σ' H'<μ σ H,bk:=D.nx} σ H1 else D.nx σ H1)(mono:∀σ H Q Q',(∀b H1,Q b H1->Q' b H1)->c σ H Q->c σ H Q'):T6 c tb D σ H:=by
 refine⟨λm σ H=>m=μ σ H/\Pv σ H,⟨_,rfl,h0⟩,?_⟩;rintro m σ H ⟨rfl,p⟩;refine mono σ H _ _ (λb H1 q=>?_) (hs σ H p);cases b with
|true=>exact⟨_,λσ' H'⟨p',l⟩=>⟨_,l,rfl,p'⟩,q⟩
|false=>exact q
open PySem PySem.Spec PyProof.Rows
noncomputable abbrev R2:=V->V->Hp->VK->Prop
def OpR(X:Cx)(f:Value->Value->Sem Value)(r:R2):Prop:=∀(pins:List (Addr×Obj))(s:Shared)(σ:St)(H:Hp)(x y:V)(v u:Value)(Q:VK),Inv X pins σ H s->RelV x v->RelV y u->r x y H Q ->wpAny (model X.prog X.w) X.A (f v u) (EP X pins σ Q) X.xe s
def UnR(X:Cx)(f:Value->Sem Value)(r:V->Hp->VK->Prop):Prop:=∀(pins:List (Addr×Obj))(s:Shared)(σ:St)(H:Hp)(x:V)(v:Value)(Q:VK),Inv X pins σ H s->RelV x v->r x H Q ->wpAny (model X.prog X.w) X.A (f v) (EP X pins σ Q) X.xe s
def YM(X:Cx)(f:Value)(r:List V->Hp->VK->Prop):Prop:=∀(pins:List (Addr×Obj))(s:Shared)(σ:St)(H:Hp)(xs:List V)(us:List Value)(Q:VK),Inv X pins σ H s->Vals xs us->r xs H Q ->wpAny (model X.prog X.w) X.A (call f us) (EP X pins σ Q) X.xe s
def TruR(X:Cx)(r:V->Hp->(Bool->Hp->Prop)->Prop):Prop:=∀(pins:List (Addr×Obj))(s:Shared)(σ:St)(H:Hp)(x:V)(v:Value)(Q:Bool->Hp->Prop),Inv X pins σ H s->RelV x v->r x H Q ->wpAny (model X.prog X.w) X.A (truthy v) (TP X pins σ Q) X.xe s
def tOp(r:R2)(ta tb:TE):TE:=λσ H Q=>ta σ H λx H1=>tb σ H1 λy H2=>r x y H2 Q
def tUn(r:V->Hp->VK->Prop)(ta:TE):TE:=λσ H Q=>ta σ H λx H1=>r x H1 Q
def rI(C:Int->Int->Prop)(g:Int->Int->V):R2:=λx y H Q=>∃i j,x=.int i/\y=.int j/\C i j/\Q (g i j) H
def rI0(g:Int->Int->V):R2:=λx y H Q=>∃i j,x=.int i/\y=.int j/\Q (g i j) H
noncomputable def rU(g:Int->V):V->Hp->VK->Prop:=λx H Q=>∃i,x=.int i/\Q (g i) H
section
variable {X:Cx}{a b c:Expr}{ta tb tc:TE}{pos:Pos}
theorem binT(ha:PE X a ta)(hb:PE X b tb){pins:List (Addr×Obj)}{s:Shared}{σ:St}{H:Hp}{R:V->V->Hp->Prop}(I:Inv X pins σ H s)(h:ta σ H λx H1=>tb σ H1 λy H2=>R x y H2){Q:Value->Shared->Prop}{f:Value->Value->Sem Value}(hf:∀v u s2 x y H2,Inv X pins σ H2 s2->RelV x v->RelV y u->R x y H2->wpAny (model X.prog X.w) X.A (f v u) Q X.xe s2):wpAny (model X.prog X.w) X.A (eval a X.env) (λv s₁=>wpAny (model X.prog X.w) X.A (eval b X.env) (λu s₂=>wpAny (model X.prog X.w) X.A (f v u) Q X.xe s₂) X.xe s₁) X.xe s:=by refine thn (ha pins s σ H _ I h) λv s1⟨x,H1,I1,r1,q1⟩=>?_;refine thn (hb pins s1 σ H1 _ I1 q1) λu s2⟨y,H2,I2,r2,q2⟩=>?_;exact hf v u s2 x y H2 I2 r1 r2 q2
theorem Zv{op:Operator}{r:R2}(ho:OpR X (binaryOp op) r)(ha:PE X a ta)(hb:PE X b tb):PE X (.BinOp a op b pos) (tOp r ta tb):=by intro pins s σ H Q I h;exact wpAny_BinOp (binT ha hb I h λv u s2 x y H2 I2 rx ry q=>ho pins s2 σ H2 x y v u Q I2 rx ry q)
theorem EY{op:UnaryOp}{r:V->Hp->VK->Prop}(ho:UnR X (unaryOp op) r)(ha:PE X a ta):PE X (.UnaryOp op a pos) (tUn r ta):=by intro pins s σ H Q I h;exact UnaryOp_ (thn (ha pins s σ H _ I h) λv s1⟨x,H1,I1,r1,q1⟩=>ho pins s1 σ H1 x v Q I1 r1 q1)
theorem opI{f:Value->Value->Sem Value}{C:Int->Int->Prop}{g:Int->Int->Int}(rule:∀(i j:Int)(t u:Tok)(s:Shared)(Q:Value->Shared->Prop)(E:Value->Shared->Prop),C i j->Q (.int (g i j) s.toks) {s with toks:=s.toks+1}->wpAny (model X.prog X.w) X.A (f (.int i t) (.int j u)) Q E s):OpR X f (rI C λi j=>.int (g i j)):=by intro pins s σ H x y v u Q I rx ry h;obtain⟨i,j,rfl,rfl,hc,q⟩:=h;obtain⟨t,rfl⟩:=rx;obtain⟨t',rfl⟩:=ry;exact rule i j t t' s _ _ hc ⟨.int (g i j),H,I.tok _,⟨_,rfl⟩,q⟩
theorem opI0{f:Value->Value->Sem Value}{g:Int->Int->Int}(rule:∀(i j:Int)(t u:Tok)(s:Shared)(Q:Value->Shared->Prop)(E:Value->Shared->Prop),Q (.int (g i j) s.toks) {s with toks:=s.toks+1}->wpAny (model X.prog X.w) X.A (f (.int i t) (.int j u)) Q E s):OpR X f (rI0 λi j=>.int (g i j)):=by intro pins s σ H x y v u Q I rx ry h;obtain⟨i,j,rfl,rfl,q⟩:=h;obtain⟨t,rfl⟩:=rx;obtain⟨t',rfl⟩:=ry;exact rule i j t t' s _ _ ⟨.int (g i j),H,I.tok _,⟨_,rfl⟩,q⟩
theorem opB0{f:Value->Value->Sem Value}{g:Int->Int->Bool}(rule:∀(i j:Int)(t u:Tok)(s:Shared)(Q:Value->Shared->Prop)(E:Value->Shared->Prop),Q (.bool (g i j)) s->wpAny (model X.prog X.w) X.A (f (.int i t) (.int j u)) Q E s):OpR X f (rI0 λi j=>.bl (g i j)):=by intro pins s σ H x y v u Q I rx ry h;obtain⟨i,j,rfl,rfl,q⟩:=h;obtain⟨t,rfl⟩:=rx;obtain⟨t',rfl⟩:=ry;exact rule i j t t' s _ _ ⟨.bl (g i j),H,I,rfl,q⟩
def CDiv(i j:Int):Prop:=0<j/\j<1073741824
def CPow(i j:Int):Prop:=0<=j/\j<=1000000/\i.natAbs<2 ^ 64
def CMul(i j:Int):Prop:=(-(2 ^ 64)<i/\i<2 ^ 64)\/(-(2 ^ 64)<j/\j<2 ^ 64)
theorem CMul.ok{i j:Int}(h:CMul i j):IntMulOk i j:=by
 rcases h with⟨h1,h2⟩|⟨h1,h2⟩
 ·exact .of_left (intBits_le_64 h1 h2)
 ·exact .of_right (intBits_le_64 h1 h2)
theorem Yp:OpR X (binaryOp .Add) (rI0 λi j=>.int (i+j)):=opI0 λ_ _ _ _ _ _ _ q=>add_int q
theorem Ny:OpR X (binaryOp .Sub) (rI0 λi j=>.int (i-j)):=opI0 λ_ _ _ _ _ _ _ q=>sub_int q
theorem UM:OpR X (binaryOp .Mult) (rI CMul λi j=>.int (i*j)):=opI λ_ _ _ _ _ _ _ hc q=>mul_int q hc.ok
theorem Ln:OpR X (binaryOp .FloorDiv) (rI CDiv λi j=>.int (i / j)):=opI λi j _ _ _ _ _ hc q=>by have h1:(0:Int)<j:=hc.1;have h2:j<1073741824:=hc.2;exact floordiv_int (by omega) (by rw[Int.fdiv_eq_ediv_of_nonneg i (by omega)];exact q) (.inl (PyProof.noPylong_small (by omega)))
theorem XX:OpR X (binaryOp .Mod) (rI (λ_ j=>0<j) λi j=>.int (i % j)):=opI λi j _ _ _ _ _ hc q=>by have h1:(0:Int)<j:=hc;exact mod_int' (by omega) (by rw[Int.fmod_eq_emod_of_nonneg i (by omega)];exact q)
theorem DP:OpR X (binaryOp .Pow) (rI CPow λi j=>.int (i ^ j.toNat)):=opI λ_ _ _ _ _ _ _ hc q=>pow_int_small hc.1 hc.2.1 hc.2.2 q
theorem unI{f:Value->Sem Value}{g:Int->Int}(rule:∀(i:Int)(t:Tok)(s:Shared)(Q:Value->Shared->Prop)(E:Value->Shared->Prop),Q (.int (g i) s.toks) {s with toks:=s.toks+1}->wpAny (model X.prog X.w) X.A (f (.int i t)) Q E s):UnR X f (rU λi=>.int (g i)):=by intro pins s σ H x v Q I rx h;obtain⟨i,rfl,q⟩:=h;obtain⟨t,rfl⟩:=rx;exact rule i t s _ _ ⟨.int (g i),H,I.tok _,⟨_,rfl⟩,q⟩
theorem Dp:UnR X (unaryOp .USub) (rU λi=>.int (-i)):=unI λ_ _ _ _ _ q=>neg_int q
noncomputable def scal:V->V->Bool
|.non,.non=>true|.non,.int _=>true|.int _,.non=>true|.non,.bl _=>true|.bl _,.non=>true|.non,.str _=>true|.str _,.non=>true
|.int _,.int _=>true|.bl _,.bl _=>true|.str _,.str _=>true|.byt _,.byt _=>true
|.int _,.str _=>true|.str _,.int _=>true|.bl _,.str _=>true|.str _,.bl _=>true
|_,_=>false
def rEq:R2:=λx y H Q=>scal x y=true/\Q (.bl (decide (x=y))) H
def rNe:R2:=λx y H Q=>scal x y=true/\Q (.bl (!decide (x=y))) H
theorem RX{i j:Int}:decide (V.int i=V.int j)=(i==j):=by rw[Bool.eq_iff_iff];simp
theorem Kg{i j:Bool}:decide (V.bl i=V.bl j)=(i==j):=by rw[Bool.eq_iff_iff];simp
theorem RW{i j:Str}:decide (V.str i=V.str j)=(i==j):=by rw[Bool.eq_iff_iff];simp
theorem RY{i j:Array UInt8}:decide (V.byt i=V.byt j)=(i.toList==j.toList):=by rw[Bool.eq_iff_iff];cases i;cases j;simp
theorem ZK{pins:List (Addr×Obj)}{σ:St}{H:Hp}{s:Shared}{Q:VK}{k k':Bool}(I:Inv X pins σ H s)(q:Q (.bl k) H)(e:k=k'):EP X pins σ Q (.bool k') s:=by subst e;exact⟨.bl k,H,I,rfl,q⟩
theorem Xl:OpR X (compareOp .Eq) rEq:=by
 intro pins s σ H x y v u Q I rx ry h;obtain⟨hs,q⟩:=h;cases x with
|non=>
  cases rx;cases y with
 |non=>cases ry;exact PySem.EqNone.eq_none_none (ZK I q (by simp))
 |bl j=>cases ry;exact PySem.EqNone.eq_none_bool (ZK I q (by simp))
 |int j=>obtain⟨t',rfl⟩:=ry;exact PySem.EqNone.eq_none_int (ZK I q (by simp))
 |str j=>obtain⟨t',rfl⟩:=ry;exact PySem.EqNone.eq_none_str (ZK I q (by simp))
 |_=>exact absurd (show false=true from hs) Bool.false_ne_true
|bl i=>
  cases rx;cases y with
 |non=>cases ry;exact PySem.EqNone.eq_bool_none (ZK I q (by simp))
 |bl j=>cases ry;exact eq_bool (ZK I q Kg)
 |str j=>obtain⟨t',rfl⟩:=ry;exact PySem.EqMixed.eq_bool_str (ZK I q (by simp))
 |_=>exact absurd (show false=true from hs) Bool.false_ne_true
|int i=>
  obtain⟨t,rfl⟩:=rx;cases y with
 |non=>cases ry;exact PySem.EqNone.eq_int_none (ZK I q (by simp))
 |int j=>obtain⟨t',rfl⟩:=ry;exact eq_int (ZK I q RX)
 |str j=>obtain⟨t',rfl⟩:=ry;exact PySem.EqMixed.eq_int_str (ZK I q (by simp))
 |_=>exact absurd (show false=true from hs) Bool.false_ne_true
|str i=>
  obtain⟨t,rfl⟩:=rx;cases y with
 |non=>cases ry;exact PySem.EqNone.eq_str_none (ZK I q (by simp))
 |bl j=>cases ry;exact PySem.EqMixed.eq_str_bool (ZK I q (by simp))
 |int j=>obtain⟨t',rfl⟩:=ry;exact PySem.EqMixed.eq_str_int (ZK I q (by simp))
 |str j=>obtain⟨t',rfl⟩:=ry;exact eq_str (ZK I q RW)
 |_=>exact absurd (show false=true from hs) Bool.false_ne_true
|byt i=>
  obtain⟨t,rfl⟩:=rx;cases y with
 |byt j=>obtain⟨t',rfl⟩:=ry;exact PySem.W.eq_bytes (ZK I q RY)
 |_=>exact absurd (show false=true from hs) Bool.false_ne_true
|_=>cases y<;>exact absurd (show false=true from hs) Bool.false_ne_true
theorem Ma:OpR X (compareOp .NotEq) rNe:=by
 intro pins s σ H x y v u Q I rx ry h;obtain⟨hs,q⟩:=h;cases x with
|non=>
  cases rx;cases y with
 |non=>cases ry;exact PySem.EqNone.ne_none_none (ZK I q (by simp))
 |bl j=>cases ry;exact PySem.EqNone.ne_none_bool (ZK I q (by simp))
 |int j=>obtain⟨t',rfl⟩:=ry;exact PySem.EqNone.ne_none_int (ZK I q (by simp))
 |str j=>obtain⟨t',rfl⟩:=ry;exact PySem.EqNone.ne_none_str (ZK I q (by simp))
 |_=>exact absurd (show false=true from hs) Bool.false_ne_true
|bl i=>
  cases rx;cases y with
 |non=>cases ry;exact PySem.EqNone.ne_bool_none (ZK I q (by simp))
 |bl j=>cases ry;exact ne_bool (ZK I q (congrArg not Kg))
 |str j=>obtain⟨t',rfl⟩:=ry;exact PySem.EqMixed.ne_bool_str (ZK I q (by simp))
 |_=>exact absurd (show false=true from hs) Bool.false_ne_true
|int i=>
  obtain⟨t,rfl⟩:=rx;cases y with
 |non=>cases ry;exact PySem.EqNone.ne_int_none (ZK I q (by simp))
 |int j=>obtain⟨t',rfl⟩:=ry;exact ne_int (ZK I q (congrArg not RX))
 |str j=>obtain⟨t',rfl⟩:=ry;exact PySem.EqMixed.ne_int_str (ZK I q (by simp))
 |_=>exact absurd (show false=true from hs) Bool.false_ne_true
|str i=>
  obtain⟨t,rfl⟩:=rx;cases y with
 |non=>cases ry;exact PySem.EqNone.ne_str_none (ZK I q (by simp))
 |bl j=>cases ry;exact PySem.EqMixed.ne_str_bool (ZK I q (by simp))
 |int j=>obtain⟨t',rfl⟩:=ry;exact PySem.EqMixed.ne_str_int (ZK I q (by simp))
 |str j=>obtain⟨t',rfl⟩:=ry;exact ne_str (ZK I q (congrArg not RW))
 |_=>exact absurd (show false=true from hs) Bool.false_ne_true
|byt i=>
  obtain⟨t,rfl⟩:=rx;cases y with
 |byt j=>obtain⟨t',rfl⟩:=ry;exact PySem.W.ne_bytes (ZK I q (congrArg not RY))
 |_=>exact absurd (show false=true from hs) Bool.false_ne_true
|_=>cases y<;>exact absurd (show false=true from hs) Bool.false_ne_true
theorem WW:OpR X (compareOp .Lt) (rI0 λi j=>.bl (decide (i<j))):=opB0 λ_ _ _ _ _ _ _ q=>lt_int q
theorem RJ:OpR X (compareOp .LtE) (rI0 λi j=>.bl (decide (i<=j))):=opB0 λ_ _ _ _ _ _ _ q=>le_int q
theorem RK:OpR X (compareOp .Gt) (rI0 λi j=>.bl (decide (j<i))):=opB0 λ_ _ _ _ _ _ _ q=>gt_int q
theorem UO:OpR X (compareOp .In) (λx y H Q=>∃i j,x=.str i/\y=.str j/\Q (.bl (!(Builtin.Str.occurrences j i 0 j.length 1).isEmpty)) H):=by intro pins s σ H x y v u Q I rx ry h;obtain⟨i,j,rfl,rfl,q⟩:=h;obtain⟨t,rfl⟩:=rx;obtain⟨t',rfl⟩:=ry;exact in_str (ZK I q rfl)
theorem UN:OpR X (compareOp .Is) (λx y H Q=>y=.non/\Q (.bl (decide (x=.non))) H):=by
 intro pins s σ H x y v u Q I rx ry h;obtain⟨rfl,q⟩:=h;cases ry;refine is_none_gen (ZK I q ?_);cases x<;>first
 |(cases rx;rfl)
 |(obtain⟨t,rfl⟩:=rx;rfl)
theorem GA:OpR X (compareOp .IsNot) (λx y H Q=>y=.non/\Q (.bl (!decide (x=.non))) H):=by
 intro pins s σ H x y v u Q I rx ry h;obtain⟨rfl,q⟩:=h;cases ry;refine isnot_none_gen (ZK I q ?_);cases x<;>first
 |(cases rx;rfl)
 |(obtain⟨t,rfl⟩:=rx;rfl)
theorem ZD(b:Expr){op:CmpOp}(h:op≠.In:=by decide)(h2:op≠.NotIn:=by decide):behindInMarks op b=false:=by
 have e1:(op==CmpOp.In)=false:=by cases op<;>first|rfl|exact absurd rfl h
 have e2:(op==CmpOp.NotIn)=false:=by cases op<;>first|rfl|exact absurd rfl h2
 cases b<;>simp[behindInMarks,e1,e2]
theorem YY{op:CmpOp}{r:R2}(ho:OpR X (compareOp op) r)(ha:PE X a ta)(hb:PE X b tb)(hm:behindInMarks op b=false):PE X (.Compare a [op] [b] pos) (tOp r ta tb):=by intro pins s σ H Q I h;exact wpAny_Compare1 (binT ha hb I h λv u s2 x y H2 I2 rx ry q=>ho pins s2 σ H2 x y v u Q I2 rx ry q) hm
def LU(t:TE):TT:=λσ H Q=>t σ H λx H'=>∃k,x=.bl k/\Q k H'
theorem ZC{op:CmpOp}{r:R2}(ho:OpR X (compareOp op) r)(ha:PE X a ta)(hb:PE X b tb)(hm:behindInMarks op b=false):PT X (.Compare a [op] [b] pos) (LU (tOp r ta tb)):=by
 intro pins s σ H Q I h;refine wpAny_isTrue_Compare1 (thn (ha pins s σ H _ I h) λv s1⟨x,H1,I1,r1,q1⟩=>thn (hb pins s1 σ H1 _ I1 q1) λu s2⟨y,H2,I2,r2,q2⟩=>thn (ho pins s2 σ H2 x y v u _ I2 r1 r2 q2) λc s3⟨z,H3,I3,r3,k,e,q3⟩=>?_) hm;subst e;cases r3;exact wpAny_truthy_bool ⟨H3,I3,q3⟩
def T9(r r':R2)(ta tb tc:TE):TE:=λσ H Q=>ta σ H λx H1=>tb σ H1 λy H2=>r x y H2 λz H3=>∃k,z=.bl k /\(if k=true then tc σ H3 λw' H4=>r' y w' H4 Q else Q (.bl false) H3)
theorem WT{op op':CmpOp}{r r':R2}(ho:OpR X (compareOp op) r)(ho':OpR X (compareOp op') r')(ha:PE X a ta)(hb:PE X b tb)(hc:PE X c tc)(hm:lastMarks [op,op'] [b,c]=false:=by with_unfolding_all rfl):PE X (.Compare a [op,op'] [b,c] pos) (T9 r r' ta tb tc):=by
 intro pins s σ H Q I h;refine Compare_chain (thn (ha pins s σ H _ I h) λv s1⟨x,H1,I1,r1,q1⟩=>chain_link (thn (hb pins s1 σ H1 _ I1 q1) λu s2⟨y,H2,I2,r2,q2⟩=>
  thn (ho pins s2 σ H2 x y v u _ I2 r1 r2 q2) λd s3⟨z,H3,I3,r3,k,e,q3⟩=>?_)) hm;subst e;cases r3;refine wpAny_truthy_bool ?_;cases k with
|false=>exact ite_ff ⟨.bl false,H3,I3,rfl,q3⟩
|true=>exact ite_tt (chain_last (thn (hc pins s3 σ H3 _ I3 q3) λw' s4⟨z',H4,I4,r4,q4⟩=>ho' pins s4 σ H4 y z' u w' Q I4 r2 r4 q4))
theorem WI{op op':CmpOp}{r r':R2}(ho:OpR X (compareOp op) r)(ho':OpR X (compareOp op') r')(ha:PE X a ta)(hb:PE X b tb)(hc:PE X c tc)(hm:lastMarks [op,op'] [b,c]=false:=by with_unfolding_all rfl):PT X (.Compare a [op,op'] [b,c] pos) (LU (T9 r r' ta tb tc)):=by
 intro pins s σ H Q I h;refine isTrue_chain (thn (ha pins s σ H _ I h) λv s1⟨x,H1,I1,r1,q1⟩=>test_link (thn (hb pins s1 σ H1 _ I1 q1) λu s2⟨y,H2,I2,r2,q2⟩=>
  thn (ho pins s2 σ H2 x y v u _ I2 r1 r2 q2) λd s3⟨z,H3,I3,r3,k,e,q3⟩=>?_)) hm;subst e;cases r3;refine wpAny_truthy_bool ?_;cases k with
|false=>obtain⟨k',e',q'⟩:=q3;cases e';exact ite_ff ⟨H3,I3,q'⟩
|true=>refine ite_tt (test_last (thn (hc pins s3 σ H3 _ I3 q3) λw' s4⟨z',H4,I4,r4,q4⟩=>thn (ho' pins s4 σ H4 y z' u w' _ I4 r2 r4 q4) λd' s5⟨z2,H5,I5,r5,k2,e2,q5⟩=>?_));subst e2;cases r5;exact wpAny_truthy_bool ⟨H5,I5,q5⟩
def TruV(K:PySem.W.Frag)(x:V)(H:Hp)(k:Bool):Prop:=match x with
|.non=>k=false
|.bl b=>k=b
|.int i=>k=(i != 0)
|.str y=>y.length<=sizeLine/\k=((y.length:Int) != 0)
|.byt y=>y.size<=sizeLine/\k=((y.size:Int) != 0)
|.ref p=>(∃xs,SqL K H p xs/\k=!xs.isEmpty)\/(∃xs,SqT K H p xs/\k=!xs.isEmpty)\/∃kvs,H p=some (.dK kvs)/\k=!kvs.isEmpty
|_=>False
theorem QO{κ:Type}{kvs:List (κ×V)}{vs:List (κ×Value)}(r:KV kvs vs):(!vs.isEmpty)=!kvs.isEmpty:=by cases r<;>rfl
theorem Mg{xs:List V}{its:List Value}(r:Vals xs its):(!its.toArray.isEmpty)=!xs.isEmpty:=by cases r<;>simp
theorem J8:(sizeLine:Nat)<2 ^ 63:=by rw[sizeLine_eq];decide
theorem Dr:TruR X (λx H Q=>∃k,TruV X.K x H k/\Q k H):=by
 intro pins s σ H x v Q I rx h;obtain⟨k,e,q⟩:=h;have hl:=J8;have hs:sizeLine=16777216:=sizeLine_eq;cases x with
|non=>cases rx;have e':k=false:=e;subst e';exact truthy_none ⟨H,I,q⟩
|bl b=>cases rx;have e':k=b:=e;subst e';exact wpAny_truthy_bool ⟨H,I,q⟩
|int i=>obtain⟨t,rfl⟩:=rx;have e':k=(i != 0):=e;subst e';exact PySem.P.truthy_int ⟨H,I,q⟩
|str y=>obtain⟨t,rfl⟩:=rx;obtain⟨hy,e'⟩:y.length<=sizeLine/\k=((y.length:Int) != 0):=e;subst e';exact PySem.P.truthy_str (by omega) ⟨H,I.tok _,q⟩
|byt y=>obtain⟨t,rfl⟩:=rx;obtain⟨hy,e'⟩:y.size<=sizeLine/\k=((y.size:Int) != 0):=e;subst e';exact PySem.W.truthy_bytes (by omega) ⟨H,I.tok _,q⟩
|ref p=>
  cases rx;have e':(∃xs,SqL X.K H p xs/\k=!xs.isEmpty)\/(∃xs,SqT X.K H p xs/\k=!xs.isEmpty)\/∃kvs,H p=some (.dK kvs)/\k=!kvs.isEmpty:=e;rcases e' with⟨xs,hx,e'⟩|⟨xs,hx,e'⟩|⟨kvs,hx,e'⟩
  ·subst e';obtain⟨its,r,pl,hz⟩:=I.list hx;have hlen:=r.length;exact wpAny_truthy_list pl.isList (by simp only[List.size_toArray];omega) ⟨H,I.tok _,by rw[Mg r];exact q⟩
  ·subst e';obtain⟨its,r,pl,hz⟩:=I.tuple hx;have hlen:=r.length;exact truthy_tuple pl (by simp only[List.size_toArray];omega) ⟨H,I.tok _,by rw[Mg r];exact q⟩
  ·subst e';obtain⟨hz,hS,vs,r,m⟩:kvs.length<=sizeLine/\(p==sysModules)=false/\∃vs,KV kvs vs/\s.heap.DictOf (Yd X.prog X.w) p vs:=I.hok p _ hx;have hlen:kvs.length=vs.length:=Paired.length r;exact wpAny_truthy_dict hS m (by omega) ⟨H,I.tok _,by rw[QO r];exact q⟩
|_=>exact(show False from e).elim
theorem Zy:OpR X (binaryOp .Add) (λx y H Q=>∃i j,x=.str i/\y=.str j/\i.length+j.length<=sizeLine/\Q (.str (i++j)) H):=by intro pins s σ H x y v u Q I rx ry h;obtain⟨i,j,rfl,rfl,hz,q⟩:=h;obtain⟨t,rfl⟩:=rx;obtain⟨t',rfl⟩:=ry;exact add_str (λt' tk=>⟨.str (i++j),H,I.tok _,⟨_,rfl⟩,q⟩) hz
theorem vals1{x:V}{us:List Value}(r:Vals [x] us):∃u,us=[u]/\RelV x u:=by
 cases r with
|cons r1 r2=>cases r2;exact⟨_,rfl,r1⟩
theorem vals2{x y:V}{us:List Value}(r:Vals [x,y] us):∃u w',us=[u,w']/\RelV x u/\RelV y w':=by
 cases r with
|cons r1 r2=>
  cases r2 with
 |cons r3 r4=>cases r4;exact⟨_,_,rfl,r1,r3⟩
theorem TF(hc:X.calm=true):YM X (.builtin "max") (λxs H Q=>∃i j,xs=[.int i,.int j]/\Q (.int (if j>i then j else i)) H):=by
 intro pins s σ H xs us Q I r h;obtain⟨i,j,rfl,q⟩:=h;obtain⟨u,w',rfl,⟨t,rfl⟩,⟨t',rfl⟩⟩:=vals2 r;refine max_two_ints (I.ok.hd hc) λh' tk k=>⟨_,H,I.kept k,?_,q⟩;by_cases hj:j>i
 ·rw[if_pos hj,if_pos hj];exact⟨_,rfl⟩
 ·rw[if_neg hj,if_neg hj];exact⟨_,rfl⟩
theorem Gb:YM X (.type "int") (λxs H Q=>(∃i,xs=[.int i]/\Q (.int i) H)\/∃k,xs=[.bl k]/\Q (.int (if k then 1 else 0)) H):=by
 intro pins s σ H xs us Q I r h;rcases h with⟨i,rfl,q⟩|⟨k,rfl,q⟩
 ·obtain⟨u,rfl,t,rfl⟩:=vals1 r;exact call_int_int ⟨.int i,H,I,⟨_,rfl⟩,q⟩
 ·obtain⟨u,rfl,r1⟩:=vals1 r;cases r1;exact call_int_bool ⟨.int (if k then 1 else 0),H,I.tok _,⟨_,rfl⟩,q⟩
theorem Z1:YM X (.type "str") (λxs H Q=>∃i,xs=[.int i]/\i.natAbs.log2<1920/\Q (.str (toString i)) H):=by intro pins s σ H xs us Q I r h;obtain⟨i,rfl,hz,q⟩:=h;obtain⟨u,rfl,t,rfl⟩:=vals1 r;exact PySem.P.str_of_int hz ⟨.str _,H,I.tok _,⟨_,rfl⟩,q⟩
def LenV(K:PySem.W.Frag)(x:V)(H:Hp)(n:Nat):Prop:=match x with
|.str y=>y.length<=sizeLine/\n=y.length
|.byt y=>y.size<=sizeLine/\n=y.size
|.ref p=>(∃xs,SqL K H p xs/\n=xs.length)\/∃xs,SqT K H p xs/\n=xs.length
|_=>False
theorem Kz:YM X (.builtin "len") (λxs H Q=>∃x n,xs=[x]/\LenV X.K x H n/\Q (.int n) H):=by
 intro pins s σ H xs us Q I r h;obtain⟨x,n,rfl,e,q⟩:=h;obtain⟨u,rfl,rx⟩:=vals1 r;have hl:=J8;have hs:sizeLine=16777216:=sizeLine_eq;cases x with
|str y=>obtain⟨t,rfl⟩:=rx;obtain⟨hy,e'⟩:y.length<=sizeLine/\n=y.length:=e;subst e';exact len_str (by omega) ⟨.int _,H,I.tok _,⟨_,rfl⟩,q⟩
|byt y=>obtain⟨t,rfl⟩:=rx;obtain⟨hy,e'⟩:y.size<=sizeLine/\n=y.size:=e;subst e';exact PySem.W.len_bytes (by omega) ⟨.int _,H,I.tok _,⟨_,rfl⟩,q⟩
|ref p=>
  cases rx;have e':(∃xs,SqL X.K H p xs/\n=xs.length)\/∃xs,SqT X.K H p xs/\n=xs.length:=e;rcases e' with⟨xs,hx,e'⟩|⟨xs,hx,e'⟩
  ·subst e';obtain⟨its,r',pl,hz⟩:=I.list hx;have hlen:=r'.length;exact Calls.call_len_list pl.isList (by simp only[List.size_toArray];omega) ⟨.int xs.length,H,I.tok _,⟨_,by simp only[List.size_toArray];rw[hlen]⟩,q⟩
  ·subst e';obtain⟨its,r',pl,hz⟩:=I.tuple hx;have hlen:=r'.length;exact len_tuple pl (by simp only[List.size_toArray];omega) ⟨.int xs.length,H,I.tok _,⟨_,by simp only[List.size_toArray];rw[hlen]⟩,q⟩
|_=>exact(show False from e).elim
end
open PySem PySem.Spec PyProof.Rows
structure ObjM(h:Heap)(x dx C:Addr)(mA:Str->Option Value):Prop where
 obj:h.get? x=some (PySem.W.instObj C dx)
 ns:h.Ns1 dx mA
 ne:dx≠x
theorem SE{h:Heap}{dx:Addr}{mA:Str->Option Value}(n:h.Ns1 dx mA):∃od,h.get? dx=some od/\∀name,PySem.W.lookIn name od=some (mA name):=by
 obtain⟨o,es,ep,ho,hd,hk,_,hm⟩:=n;refine⟨o,ho,λname=>?_⟩;have e:=hm name;unfold nsFind findBy at e;rw[<-Array.find?_toList]at e;unfold PySem.W.lookIn;rw[hd];dsimp only;split
 ·rename_i y q;rw[q]at e;exact congrArg some e
 ·rename_i q;rw[q]at e;have a:es.toList.any (·.refKey)=false:=by rw[List.any_eq_false];intro y hy;obtain⟨z,t,hkey⟩:=hk y (Array.mem_toList_iff.mp hy);simp[DictEntry.refKey,hkey]
  have a':¬es.toList.any (·.refKey)=true:=by rw[a];exact Bool.false_ne_true
  rw[if_neg a'];exact congrArg some e
theorem ObjM.look{h:Heap}{x dx C:Addr}{mA:Str->Option Value}(I:ObjM h x dx C mA):∃od,PySem.W.InstAt h x (PySem.W.instObj C dx) C (some od)/\∀name,PySem.W.lookIn name od=some (mA name):=let ⟨od,ho,hl⟩:=SE I.ns
 ⟨od,⟨I.obj,rfl,rfl,ho⟩,hl⟩
section
variable {prog:Program}{w:World}{A:Around}{E:Value->Shared->Prop}{s:Shared}{K:PySem.W.Frag}{x dx C f:Addr}{mA:Str->Option Value}{name:Str}{v:Value}
theorem get_map{expr:Bool}{Q:Value->Shared->Prop}(X:K.In s.heap)(I:ObjM s.heap x dx C mA)(hg:PySem.W.plainGet K C name=true)(hh:PySem.W.hasDictIn K C=true)(ha:PySem.W.findIn K (.ref C) name=some none)(hv:mA name=some v)(hv':PySem.W.handedIn v=true)(h:Q v {s with toks:=s.toks+1}):wpAny (model prog w) A (getAttr (.ref x) name expr) Q E s:=by obtain⟨od,J,hl⟩:=I.look;exact PySem.W.get_value X J (PySem.W.plainGet_of hg).1 (PySem.W.findObj_own hh ha rfl (by rw[hl,hv])) hv' h
theorem Kd{pl:Sem Bool}{Q:Value×List Value->Shared->Prop}(X:K.In s.heap)(I:ObjM s.heap x dx C mA)(hg:PySem.W.plainGet K C name=true)(hf:PySem.W.findIn K (.ref C) name=some (some (.ref f)))(ht:PySem.W.isFn K (.ref f)=true)(hv:mA name=none)(h:Q (.ref f,[.ref x]) s):wpAny (model prog w) A (getMethod (.ref x) name pl) Q E s:=by obtain⟨od,J,hl⟩:=I.look;exact PySem.W.method_fn X J (PySem.W.plainGet_of hg).1 (PySem.W.plainGet_of hg).2 hf (beq_iff_eq.mp ht) (by show(PySem.W.lookIn name od).map (·.isSome)=some false;rw[hl,hv];rfl) h
theorem K0{ns:List Str}{Q:Unit->Shared->Prop}(X:K.In s.heap)(I:ObjM s.heap x dx C mA)(hs:PySem.W.findIn K (.ref C) "__setattr__"=some (some (.builtin "object.__setattr__")))(hp:PySem.W.plainOver K C=true)(ht:PySem.W.takerIn K C name=some none)(hh:PySem.W.hasDictIn K C=true)(hw:PySem.Within mA ns)(hsz:ns.length<=sizeLine)(h:∀h',ObjM h' x dx C (λy=>if y=name then some v else mA y)->Heap.SameBut dx s.heap h'->Q () {s with heap:=h',toks:=s.toks+2}):wpAny (model prog w) A (setAttr (.ref x) name v) Q E s:=by obtain⟨od,J,hl⟩:=I.look;refine PySem.W.set_plain X J hs (PySem.W.osa_open (s:={s with toks:=s.toks+1}) (r:=none) X J hp ht λb=>?_);obtain⟨cd,hc,hd'⟩:=PySem.W.any_some hh;have hx:s.heap.get? x=some ⟨.ref C,some dx,.plain,#[]⟩:=I.obj;refine wpAny_bind (wpAny_pure (wpAny_bind (wpAny_bind (wpAny_loadPart hx (wpAny_bind (PySem.W.Looks.here (s:={s with toks:=s.toks+1}) (PySem.W.looks_clsIn X hc) ?_))))));rw[hd'];refine wpAny_pure (a:=some dx) (wpAny_bind (wpAny_pure (wpAny_bind ?_)));refine wpAny_nsSet1 (s:={s with toks:=s.toks+1}) I.ns λh' hn2 hs2=>?_;obtain⟨oD,esD,epD,hoD,hdD,hcD⟩:=hn2.count (PySem.Within.cons name v hw);refine wpAny_bind (wpAny_lookBehind hoD (by rw[hdD];exact pastItsLine_dict (Nat.le_trans hcD (by rw[List.length_cons];omega))) ?_);exact wpAny_pure (h _ ⟨(hs2.2 _ (Ne.symm I.ne)).trans I.obj,hn2,I.ne⟩ hs2)
theorem PB{R:Result->Shared->Prop}{vs:List Value}{kw:List (Str×Value)}(X:K.In s.heap)(hm:PySem.W.makesIn K C=true)(hi:PySem.W.findIn K (.ref C) "__init__"=some (some (.ref f)))(hf:PySem.W.typeIn K (.ref f)=some (.type "function"))(h:codeAny (model prog w) (A.under (.builtin "type.__call__" ⟨.ref C::vs,kw⟩)) (.call (.ref f) ⟨.ref (s.heap.objs.size+1)::vs,kw⟩) (PySem.W.InitBack (s.heap.objs.size+1) R) {s with heap:=(s.heap.push PySem.W.emptyDict).push (PySem.W.instObj C s.heap.objs.size)}):codeAny (model prog w) A (.call (.ref C) ⟨vs,kw⟩) R s:=by obtain⟨hh,g,d,t,os⟩:=s;exact PySem.W.make_core (PySem.W.makes_of X hm) (PySem.W.looks_findIn X hi) (λself=>PySem.W.bind_fn X self hf) (.inl rfl) h
end
noncomputable def putF(f:Str)(v:V):List (Str×V)->List (Str×V)
|[]=>[(f,v)]
|(g,x)::r=>if g=f then(g,v)::r else(g,x)::putF f v r
theorem Zl(f g:Str)(v:V):∀fs:List (Str×V),(putF f v fs).lookup g=if g=f then some v else fs.lookup g
|[]=>by
  show List.lookup g [(f,v)]=_;by_cases h:g=f
  ·have hb:(g==f)=true:=beq_iff_eq.mpr h;simp only[List.lookup,hb,if_pos h]
  ·have hb:(g==f)=false:=beq_eq_false_iff_ne.mpr h;simp only[List.lookup,hb,if_neg h]
|(k,x)::r=>by
  have ih:=Zl f g v r;rw[show putF f v ((k,x)::r)=(if k=f then(k,v)::r else(k,x)::putF f v r)from rfl];by_cases hk:k=f
  ·rw[if_pos hk];by_cases h:g=k
   ·have hb:(g==k)=true:=beq_iff_eq.mpr h;simp only[List.lookup,hb,if_pos (h.trans hk)]
   ·have hb:(g==k)=false:=beq_eq_false_iff_ne.mpr h;simp only[List.lookup,hb,if_neg (λe:g=f=>h (e.trans hk.symm))]
  ·rw[if_neg hk];by_cases h:g=k
   ·have hb:(g==k)=true:=beq_iff_eq.mpr h;simp only[List.lookup,hb,if_neg (λe:g=f=>hk (h.symm.trans e))]
   ·have hb:(g==k)=false:=beq_eq_false_iff_ne.mpr h;simp only[List.lookup,hb];exact ih
theorem Jb(f:Str)(v:V):∀fs:List (Str×V),f∈(putF f v fs).map (·.1)/\∀g,g∈fs.map (·.1)->g∈(putF f v fs).map (·.1)
|[]=>⟨by simp[putF],λg h=>by simp at h⟩
|(k,x)::r=>by
  obtain⟨i1,i2⟩:=Jb f v r;rw[show putF f v ((k,x)::r)=(if k=f then(k,v)::r else(k,x)::putF f v r)from rfl];by_cases hk:k=f
  ·rw[if_pos hk];subst hk;exact⟨by simp,λg h=>by simpa using h⟩
  ·rw[if_neg hk];refine⟨?_,λg h=>?_⟩
   ·rw[List.map_cons];exact List.mem_cons_of_mem _ i1
   ·rw[List.map_cons]at h ⊢;rcases List.mem_cons.mp h with e|e
    ·exact List.mem_cons.mpr (.inl e)
    ·exact List.mem_cons_of_mem _ (i2 g e)
theorem Yi(f:Str)(v:V):∀fs:List (Str×V),(putF f v fs).length<=fs.length+1
|[]=>by simp[putF]
|(k,x)::r=>by
  have ih:=Yi f v r;rw[show putF f v ((k,x)::r)=(if k=f then(k,v)::r else(k,x)::putF f v r)from rfl];by_cases hk:k=f
  ·rw[if_pos hk,List.length_cons,List.length_cons];omega
  ·rw[if_neg hk,List.length_cons,List.length_cons];omega
theorem RelO.some_of{v:V}{o:Option Value}(r:RelO (some v) o):∃u,o=some u/\RelV v u:=by
 cases o with
|none=>exact(show False from r).elim
|some u=>exact⟨u,rfl,r⟩
theorem RelO.none_of{o:Option Value}(r:RelO none o):o=none:=by
 cases o with
|none=>rfl
|some u=>exact(show False from r).elim
theorem SK{v:V}{u:Value}(r:RelV v u):PySem.W.handedIn u=true:=by
 cases v with
|non=>cases(show u=Value.none from r);rfl
|bl b=>cases(show u=Value.bool b from r);rfl
|int i=>obtain⟨t,e⟩:=(show ∃t,u=Value.int i t from r);cases e;rfl
|str x=>obtain⟨t,e⟩:=(show ∃t,u=Value.str x t from r);cases e;rfl
|byt b=>obtain⟨t,e⟩:=(show ∃t,u=Value.bytes b t from r);cases e;rfl
|flt b=>obtain⟨t,e⟩:=(show ∃t,u=Value.float b t from r);cases e;rfl
|ref a=>cases(show u=Value.ref a from r);rfl
|ty n=>cases(show u=Value.type n from r);rfl
section
variable {P:Program}{w:World}{H H':Hp}{h h':Heap}{a C dx:Addr}{fs fs':List (Str×V)}
theorem GD(hok:HOk P w H h)(e:H a=some (.ins C dx fs)):∃mA,ObjM h a dx C mA/\(∀f,RelO (fs.lookup f) (mA f))/\PySem.Within mA (fs.map (·.1))/\fs.length<=1000/\H dx=some (.own a):=by obtain⟨d,z,ne,ob,mA,n,r,q⟩:=(show ZJ P w H h a (.ins C dx fs)from hok a _ e);exact⟨mA,⟨ob,n,ne⟩,r,q,z,d⟩
end
structure Cls(K:PySem.W.Frag)(C:Addr):Prop where
 pg:PySem.W.plainGet K C Str.empty=true
 hd:PySem.W.hasDictIn K C=true
 po:PySem.W.plainOver K C=true
 sa:PySem.W.findIn K (.ref C) "__setattr__"=some (some (.builtin "object.__setattr__"))
theorem Cls.get{K:PySem.W.Frag}{C:Addr}(c:Cls K C)(f:Str):PySem.W.plainGet K C f=true:=c.pg
def Yl(K:PySem.W.Frag)(C:Addr)(f:Str):Prop:=PySem.W.findIn K (.ref C) f=some none
theorem Yl.taker{K:PySem.W.Frag}{C:Addr}{f:Str}(n:Yl K C f):PySem.W.takerIn K C f=some none:=by unfold PySem.W.takerIn;rw[show PySem.W.findIn K (.ref C) f=some none from n];rfl
structure Meth(K:PySem.W.Frag)(C:Addr)(m:Str)(f:Addr):Prop where
 at_:PySem.W.findIn K (.ref C) m=some (some (.ref f))
 fn:PySem.W.isFn K (.ref f)=true
 kp:PySem.W.keepIn K (.ref f)=true
section
variable {X:Cx}{pins:List (Addr×Obj)}{σ:St}{H:Hp}{s:Shared}{a C dx:Addr}{fs:List (Str×V)}{f:Str}{v:V}{A:Around}{E:Value->Shared->Prop}
theorem QS{b:Bool}{Q:Value->Shared->Prop}(I:Inv X pins σ H s)(e:H a=some (.ins C dx fs))(c:Cls X.K C)(n:Yl X.K C f)(l:fs.lookup f=some v)(h:∀u s',Inv X pins σ H s'->RelV v u->Q u s'):wpAny (model X.prog X.w) A (getAttr (.ref a) f b) Q E s:=by obtain⟨mA,O,r,_,_,_⟩:=GD I.hok e;obtain⟨u,hu,ru⟩:=RelO.some_of (v:=v) (o:=mA f) (by rw[<-l];exact r f);exact get_map I.kIn O (c.get f) c.hd n hu (SK ru) (h u _ (I.tok _) ru)
theorem J9{m:Str}{g:Addr}{pl:Sem Bool}{Q:Value×List Value->Shared->Prop}(I:Inv X pins σ H s)(e:H a=some (.ins C dx fs))(c:Cls X.K C)(k:Meth X.K C m g)(l:fs.lookup m=none)(h:Q (.ref g,[.ref a]) s):wpAny (model X.prog X.w) A (getMethod (.ref a) m pl) Q E s:=by obtain⟨mA,O,r,_,_,_⟩:=GD I.hok e;have hn:mA m=none:=RelO.none_of (by rw[<-l];exact r m);exact Kd I.kIn O (c.get m) k.at_ k.fn hn h
theorem Qz{y:V}{u:Value}{Q:Unit->Shared->Prop}(I:Inv X pins σ H s)(e:H a=some (.ins C dx fs))(c:Cls X.K C)(n:Yl X.K C f)(hl:fs.length<1000)(ry:RelV y u)(h:∀s',Inv X pins σ (upd H a (.ins C dx (putF f y fs))) s'->Q () s'):wpAny (model X.prog X.w) A (setAttr (.ref a) f u) Q E s:=by
 obtain⟨mA,O,r,wi,_,ho⟩:=GD I.hok e;have hz:(fs.map (·.1)).length<=sizeLine:=by rw[List.length_map,sizeLine_eq];omega
 refine K0 I.kIn O c.sa c.po n.taker c.hd wi hz λh' O' sb=>h _ ?_;have hd:∃o,h'.get? dx=some o:=let ⟨o,_,_,e',_⟩:=O'.ns;⟨o,e'⟩
 refine I.write (x:=a) (e:=dx) (by rw[e];exact True.intro) (.inr ho) (λb q hb z=>(sb.2 b hb).trans z) hd ?_;refine⟨by rw[Ze O.ne];exact ho,?_,O.ne,O'.obj,_,O'.ns,λg=>?_,λg hg=>?_⟩
 ·have:=Yi f y fs;omega
 ·show RelO ((putF f y fs).lookup g) (if g=f then some u else mA g);rw[Zl];by_cases q:g=f
  ·rw[if_pos q,if_pos q];exact ry
  ·rw[if_neg q,if_neg q];exact r g
 ·by_cases q:g=f
  ·rw[q];exact(Jb f y fs).1
  ·refine(Jb f y fs).2 g (wi g λz=>hg ?_);show(if g=f then some u else mA g)=none;rw[if_neg q];exact z
theorem Inv.made(I:Inv X pins σ H s):Inv X pins σ (upd (upd H s.heap.objs.size (.own (s.heap.objs.size+1))) (s.heap.objs.size+1) (.ins C s.heap.objs.size [])) {s with heap:=(s.heap.push PySem.W.emptyDict).push (PySem.W.instObj C s.heap.objs.size)}:=by
 have e1:(s.heap.push PySem.W.emptyDict).get? s.heap.objs.size=some PySem.W.emptyDict:=Heap.get?_push_size s.heap rfl;have e2:((s.heap.push PySem.W.emptyDict).push (PySem.W.instObj C s.heap.objs.size)).get? (s.heap.objs.size+1)=some (PySem.W.instObj C s.heap.objs.size):=by have:=Heap.get?_push_size (s.heap.push PySem.W.emptyDict) (o:=PySem.W.instObj C s.heap.objs.size) rfl;rwa [Heap.size_push]at this
 have e3:(s.heap.push PySem.W.emptyDict).Ns s.heap.objs.size (λ_=>none):=⟨PySem.W.emptyDict,#[],_,e1,rfl,(λe he=>absurd he (by simp)),λ_=>rfl⟩;have I1:=I.laid (a:=s.heap.objs.size) (o:=.own (s.heap.objs.size+1)) (h':=s.heap.push PySem.W.emptyDict) (t':=s.toks) (λb u q=>Heap.get?_push_of_some _ q) (Nat.le_refl _) ⟨_,e1⟩;refine I1.laid (a:=s.heap.objs.size+1) (o:=.ins C s.heap.objs.size []) (t':=s.toks) (λb u q=>Heap.get?_push_of_some _ q) (Nat.le_of_eq (Heap.size_push _ _)) ?_;have ne:s.heap.objs.size≠s.heap.objs.size+1:=Nat.ne_of_lt (Nat.lt_succ_self _);refine⟨by rw[Ze ne,Zc],Nat.zero_le _,ne,e2,λ_=>none,(Heap.Ns1.of_empty e3).at λo q=>Heap.get?_push_of_some _ q,λ_=>True.intro,λy hy=>absurd rfl hy⟩
theorem LQ{prog:Program}{w:World}{env:Env}{e:Expr}{f:Str}{pos:Pos}{s:Shared}{Q:Value->Shared->Prop}(hb:attributeBase e f env (eval e env)=eval e env)(h:wpAny (model prog w) A (eval e env) (λo s₁=>wpAny (model prog w) A (getAttr o f true) Q E s₁) E s):wpAny (model prog w) A (eval (.Attribute e f pos) env) Q E s:=Attribute_any_ h (by rw[arm_eval_Attribute,hb])
end
def tFld(K:PySem.W.Frag)(ta:TE)(f:Str):TE:=λσ H Q=>ta σ H λx H1=>∃a C dx fs v,x=.ref a/\H1 a=some (.ins C dx fs)/\Cls K C/\Yl K C f/\fs.lookup f=some v/\Q v H1
def sFld(K:PySem.W.Frag)(ta tv:TE)(f:Str):TS:=λD σ H=>tv σ H λy H1=>ta σ H1 λx H2=>∃a C dx fs,x=.ref a/\H2 a=some (.ins C dx fs)/\Cls K C/\Yl K C f/\fs.length<1000 /\D.nx σ (upd H2 a (.ins C dx (putF f y fs)))
section
variable {X:Cx}{o e value:Expr}{f:Str}{pos pos' tpos:Pos}{ta tv:TE}
theorem Z8(he:PE X e ta)(hb:attributeBase e f X.env (eval e X.env)=eval e X.env):PE X (.Attribute e f pos) (tFld X.K ta f):=by intro pins s σ H Q I h;refine LQ hb (thn (he pins s σ H _ I h) λu s1⟨x,H1,I1,rx,a,C,dx,fs,v,ex,ea,c,n,l,q⟩=>?_);subst ex;obtain rfl:u=Value.ref a:=rx;exact QS I1 ea c n l λu' s2 I2 ru=>⟨v,H1,I2,ru,q⟩
theorem Ji(ha:PE X o ta)(hv:PE X value tv)(hs:swapsWith value (some (.Attribute o f pos')) pos.line X.env=pure false):PS X (.Assign [.Attribute o f pos'] value pos) (sFld X.K ta tv f):=by intro pins s σ H D I h;refine plainObj_wpAny_Assign_Attribute (thn (hv pins s σ H _ I h) λu s1⟨y,H1,I1,ry,q⟩=>thn (ha pins s1 σ H1 _ I1 q) λov s2⟨x,H2,I2,rx,a,C,dx,fs,ex,ea,c,n,l,q2⟩=>?_) hs;subst ex;obtain rfl:ov=Value.ref a:=rx;exact Qz I2 ea c n l ry λs3 I3=>⟨σ,_,I3,q2⟩
theorem De{pl:Sem Bool}{m:Str}{apos:Pos}{args:List Expr}{pins:List (Addr×Obj)}{s:Shared}{σ:St}{H:Hp}{Q:Value->Shared->Prop}{te:TE}(he:PE X e te)(I:Inv X pins σ H s)
  (h:te σ H λx H1=>∃a C dx fs g,x=.ref a/\H1 a=some (.ins C dx fs)/\Cls X.K C/\Meth X.K C m g/\fs.lookup m=none /\
   ∀s1,Inv X pins σ H1 s1->wpAny (model X.prog X.w) X.A (callWith pos (.ref g) [.ref a] (backTo pos (starEach args X.env)) (backToKw pos (keywordEach [] X.env))) Q X.xe s1)
  (ht:eval (.Call (.Attribute e m apos) args [] pos) X.env=(do
   let ov <-eval e X.env
   standAt apos.atName
   let (f,first) <-holding [ov] (getMethod ov m pl)
   callWith pos f first (backTo pos (starEach args X.env)) (backToKw pos (keywordEach [] X.env)))):
  wpAny (model X.prog X.w) X.A (eval (.Call (.Attribute e m apos) args [] pos) X.env) Q X.xe s:=by
 refine PySem.W.methodCall_KW (pl:=pl) (thn (he pins s σ H _ I h) λu s1⟨x,H1,I1,rx,a,C,dx,fs,g,ex,ea,c,k,l,q⟩=>?_) ht
 subst ex
 obtain rfl:u=Value.ref a:=rx
 exact J9 I1 ea c k l (q s1 I1)
end
section
variable {X:Cx}{pins:List (Addr×Obj)}{σ:St}{H:Hp}{s:Shared}{A:Around}{E:Value->Shared->Prop}{Q:Value->Shared->Prop}{c:Value}{b:Bool}
inductive TyOf(K:PySem.W.Frag)(H:Hp):V->Value->Prop where
|non:TyOf K H .non (.type "NoneType")
|bl (x:Bool):TyOf K H (.bl x) (.type "bool")
|int (i:Int):TyOf K H (.int i) (.type "int")
|str (x:Str):TyOf K H (.str x) (.type "str")
|flt (x:UInt64):TyOf K H (.flt x) (.type "float")
|lst {a:Addr}{xs:List V} (e:H a=some (.lst xs)):TyOf K H (.ref a) (.type "list")
|frz {a:Addr}{o:Obj}{xs:List V} (e:H a=some (.frz o (.lst xs))):TyOf K H (.ref a) (.type "list")
|tup {a:Addr}{xs:List V} (e:H a=some (.tup xs)):TyOf K H (.ref a) (.type "tuple")
|dK {a:Addr}{kvs:List (Key×V)} (e:H a=some (.dK kvs)):TyOf K H (.ref a) (.type "dict")
|dT {a:Addr}{kvs:List (List Key×V)} (e:H a=some (.dT kvs)):TyOf K H (.ref a) (.type "dict")
|ins {a C dx:Addr}{fs:List (Str×V)} (e:H a=some (.ins C dx fs)) (cl:Cls K C) (ha:PySem.W.findIn K (.ref C) "__class__"=some (some (.builtin "object.__class__")))
   (hn:PySem.W.specialIn K (.builtin "object.__class__") "__get__"=some (some (.builtin "getset_descriptor.__get__"))) (htk:PySem.W.takesIn K (.builtin "object.__class__")=some true)
   (hm:PySem.W.mroIn K C (.type "object")=some true):TyOf K H (.ref a) (.ref C)
theorem MN{x:V}{u t:Value}(I:Inv X pins σ H s)(rx:RelV x u)(ty:TyOf X.K H x t)(e:PySem.W.kitOne X.K t c=some b)(h:∀tk,Q (.bool b) {s with toks:=tk}):wpAny (model X.prog X.w) A (call (.builtin "isinstance") [u,c]) Q E s:=by
 cases ty with
|non=>cases(show u=Value.none from rx);exact PySem.W.kia_one PySem.W.kitx_none I.kIn True.intro e (λz=>nomatch z) h
|bl y=>cases(show u=Value.bool y from rx);exact PySem.W.kia_one PySem.W.kitx_bool I.kIn True.intro e (λz=>nomatch z) h
|int i=>obtain⟨t,q⟩:=(show ∃t,u=Value.int i t from rx);cases q;exact PySem.W.kia_one PySem.W.kitx_int I.kIn True.intro e (λz=>nomatch z) h
|str y=>obtain⟨t,q⟩:=(show ∃t,u=Value.str y t from rx);cases q;exact PySem.W.kia_one PySem.W.kitx_str I.kIn True.intro e (λz=>nomatch z) h
|flt y=>obtain⟨t,q⟩:=(show ∃t,u=Value.float y t from rx);cases q;exact PySem.W.kia_one PySem.W.kitx_float I.kIn True.intro e (λz=>nomatch z) h
|@lst a xs ea=>cases(show u=Value.ref a from rx);obtain⟨_,_,n,_,h1⟩:=(show ZJ X.prog X.w H s.heap a (.lst xs)from I.hok a _ ea);exact PySem.W.kia_one PySem.W.kitx_list I.kIn ⟨_,h1,rfl⟩ e (λz=>nomatch z) h
|@frz a ob xs ea=>cases(show u=Value.ref a from rx);obtain⟨_,_,_,n,_,h1⟩:=(show ZJ X.prog X.w H s.heap a (.frz ob (.lst xs))from I.hok a _ ea);exact PySem.W.kia_one PySem.W.kitx_list I.kIn ⟨_,h1,rfl⟩ e (λz=>nomatch z) h
|@tup a xs ea=>cases(show u=Value.ref a from rx);obtain⟨_,_,_,p⟩:=(show ZJ X.prog X.w H s.heap a (.tup xs)from I.hok a _ ea);obtain⟨o,h1,h2,_⟩:=p;exact PySem.W.kia_one PySem.W.kitx_tuple I.kIn ⟨o,h1,h2⟩ e (λz=>nomatch z) h
|@dK a kvs ea=>cases(show u=Value.ref a from rx);obtain⟨_,_,vs,_,p⟩:=(show ZJ X.prog X.w H s.heap a (.dK kvs)from I.hok a _ ea);obtain⟨o,es,ep,h1,h2,_⟩:=p;exact PySem.W.kia_one PySem.W.kitx_dict I.kIn ⟨o,h1,h2.1⟩ e (λz=>nomatch z) h
|@dT a kvs ea=>cases(show u=Value.ref a from rx);obtain⟨_,_,xs,_,o,es,ep,h1,h2,_⟩:=(show ZJ X.prog X.w H s.heap a (.dT kvs)from I.hok a _ ea);exact PySem.W.kia_one PySem.W.kitx_dict I.kIn ⟨o,h1,h2.1⟩ e (λz=>nomatch z) h
|@ins a C dx fs ea cl ha hn htk hm=>cases(show u=Value.ref a from rx);obtain⟨mA,O,_⟩:=GD I.hok ea;obtain⟨od,J,_⟩:=O.look;exact PySem.W.kia_one (PySem.W.kitx_own (cl.get _) cl.hd ha hn htk hm) I.kIn J e (λz=>nomatch z) h
end
open PySem PySem.Spec PyProof.Rows
structure Room(k:Nat)(A:Around):Prop where
 hd:A.handled=none
 dp:A.depth+3*k+5<recursionLimit
 un:A.units+16*k+200<cLine
 gd:A.guards=some []
theorem Room.mono{j k:Nat}{A:Around}(r:Room k A)(h:j<=k):Room j A:=⟨r.hd,by have:=r.dp;omega,by have:=r.un;omega,r.gd⟩
theorem Room.deeper{k:Nat}{A:Around}(r:Room (k+1) A)(env:Env):Room k (A.deeper env):=⟨r.hd,by have:=r.dp;show A.depth+1+3*k+5<_;omega,by have:=r.un;show A.units+3+16*k+200<_;omega,r.gd⟩
theorem QL{A:Around}{C:Addr}{us:List Value}{kw:List (Str×Value)}:(A.under (.builtin "type.__call__" ⟨.ref C::us,kw⟩)).depth=A.depth+1:=by first|rfl|simp[Around.under,Code.weight,Code.isCreation,Code.isGuard,Code.isCaller,Code.frames,Code.isFrame,guardIds]
theorem QK{A:Around}{C:Addr}{us:List Value}{kw:List (Str×Value)}:(A.under (.builtin "type.__call__" ⟨.ref C::us,kw⟩)).units=A.units+1:=by first|rfl|simp[Around.under,Code.cUnits,Code.frames,Code.isFrame]
theorem PD{A:Around}{C:Addr}{us:List Value}{kw:List (Str×Value)}:(A.under (.builtin "type.__call__" ⟨.ref C::us,kw⟩)).guards=A.guards:=by first|rfl|simp[Around.under,Code.guards,Code.isGuard,pushGuards,guardIds]
theorem Room.make{k:Nat}{A:Around}(r:Room (k+1) A)(C:Addr)(us:List Value)(kw:List (Str×Value)):Room k (A.under (.builtin "type.__call__" ⟨.ref C::us,kw⟩)):=⟨r.hd,by have:=r.dp;rw[QL];omega,by have:=r.un;rw[QK];omega,by rw[PD];exact r.gd⟩
theorem Room.depth{k:Nat}{A:Around}(r:Room k A):A.depth<recursionLimit:=by have:=r.dp;omega
theorem Room.units{k:Nat}{A:Around}(r:Room k A):A.units+64<cLine:=by have:=r.un;omega
def tNil:TA:=λ_ H Q=>Q [] H
def MH(ta:TE)(tr:TA):TA:=λσ H Q=>ta σ H λx H1=>tr σ H1 λxs H2=>Q (x::xs) H2
section
variable {X:Cx}{e:Expr}{es:List Expr}{te:TE}{t:TA}{pos:Pos}
theorem Zb:PA X [] tNil:=λ_ _ _ _ H Q I h=>Calls.spliced_nil ⟨[],H,I,.nil,h⟩
theorem Zh(ha:PE X e te)(hr:PA X es t)(hs:starEach (e::es) X.env=(false,eval e X.env)::starEach es X.env:=by rfl):PA X (e::es) (MH te t):=by intro pos pins s σ H Q I h;rw[hs];show wpAny _ _ (spliced ((false,eval e X.env)::backTo pos (starEach es X.env))) _ _ s;refine Calls.spliced_cons (thn (ha pins s σ H _ I h) λu s1⟨x,H1,I1,r1,q1⟩=>?_);exact thn (hr pos pins s1 σ H1 _ I1 q1) λus s2⟨xs,H2,I2,r2,q2⟩=>⟨x::xs,H2,I2,.cons r1 r2,q2⟩
def tTup(t:TA):TE:=λσ H Q=>t σ H λxs H1=>xs.length<=sizeLine/\∀p,H1 p=none->Q (.ref p) (upd H1 p (.tup xs))
def tLst(t:TA):TE:=λσ H Q=>t σ H λxs H1=>xs.length<=sizeLine/\∀p,H1 p=none->Q (.ref p) (upd H1 p (.lst xs))
theorem Ys{x1}(h:PA X es t):PE X (.Tuple es x1 pos) (tTup t):=by intro pins s σ H Q I hq;refine wpAny_Tuple_spliced (thn (h pos pins s σ H _ I hq) λus s1⟨xs,H1,I1,r,z,q⟩=>⟨by rw[<-r.length];exact z,?_⟩);have hf:H1 s1.heap.objs.size=none:=I1.hok.fresh (Nat.le_refl _);refine⟨.ref s1.heap.objs.size,upd H1 s1.heap.objs.size (.tup xs),I1.laid (t':=s1.toks) (λb u e=>Heap.get?_push_of_some _ e) (Nat.le_refl _) ?_,rfl,q _ hf⟩;exact⟨z,us,r,⟨_,Heap.get?_push_size _ rfl,rfl,_,rfl⟩⟩
theorem ZQ(h:PA X es t):PE X (.List es pos) (tLst t):=by intro pins s σ H Q I hq;refine wpAny_List_spliced (thn (h pos pins s σ H _ I hq) λus s1⟨xs,H1,I1,r,z,q⟩=>⟨by rw[<-r.length];exact z,?_⟩);have hf:H1 s1.heap.objs.size=none:=I1.hok.fresh (Nat.le_refl _);refine⟨.ref s1.heap.objs.size,upd H1 s1.heap.objs.size (.lst xs),I1.laid (t':=s1.toks) (λb u e=>Heap.get?_push_of_some _ e) (Nat.le_refl _) ?_,rfl,q _ hf⟩;exact⟨z,us,0,r,Heap.get?_push_size _ rfl⟩
end
noncomputable abbrev Sp:=List V->Hp->VK->XK->Prop
noncomputable abbrev CXT:=List Env->Hp->Shared->XK->Value->Shared->Prop
structure Env0(P:Program)(w:World)(K:PySem.W.Frag)(mg:Str->Option Value)(base:Heap)(A:Around)(outer:List Env)(s:Shared)(H:Hp):Prop where
 frames:A.frames=some outer
 mod:Mod K mg base
 bs:∀b o,base.get? b=some o->s.heap.get? b=some o/\H b=none
 bsz:base.objs.size<=s.heap.objs.size
 funs:s.heap.FunFrames base outer
 frf:∀b∈frs outer,H b=none
 hok:HOk P w H s.heap
 bare:AllBare s.gens
def CE(outer:List Env)(P:Program)(w:World)(H:Hp)(s:Shared)(Q:VK)(u:Value)(s':Shared):Prop:=∃v H',s'.os=s.os/\AllBare s'.gens/\Un (frs outer) [] H H' s.heap s'.heap/\HOk P w H' s'.heap/\RelV v u/\Q v H'
def CR(CX:CXT)(outer:List Env)(P:Program)(w:World)(H:Hp)(s:Shared)(Q:VK)(E:XK)(r:Result)(s':Shared):Prop:=match r with
|.ok (.ret u)=>CE outer P w H s Q u s'
|.ok _=>False
|.error e=>CX outer H s E e s'
structure FnOk(P:Program)(w:World)(K:PySem.W.Frag)(mg:Str->Option Value)(base:Heap)(CX:CXT)(k:Nat)(f:Addr)(fd:FuncData)(ps:List Str)(sp:Sp):Prop where
 len:∀vs H Q E,sp vs H Q E->vs.length=ps.length
 run:∀(A:Around)(outer:List Env)(s:Shared)(H:Hp)(args:Args)(us:List Value)(vs:List V)(Q:VK)(E:XK),Room k A->Env0 P w K mg base A outer s H->BindsTo s fd args (ps.zip us)->Vals vs us->sp vs H Q E ->
  codeAny (model P w) A (.call (.ref f) args) (CR CX outer P w H s Q E) s
theorem FnOk.mono{P:Program}{w:World}{K:PySem.W.Frag}{mg:Str->Option Value}{base:Heap}{CX:CXT}{j k:Nat}{f:Addr}{fd:FuncData}{ps:List Str}{sp:Sp}(F:FnOk P w K mg base CX j f fd ps sp)(h:j<=k):FnOk P w K mg base CX k f fd ps sp:=⟨F.len,λA outer s H args us vs Q E hr=>F.run A outer s H args us vs Q E (hr.mono h)⟩
theorem Env0.make{P:Program}{w:World}{K:PySem.W.Frag}{mg:Str->Option Value}{base:Heap}{A:Around}{outer:List Env}{s:Shared}{H:Hp}(e:Env0 P w K mg base A outer s H)(C:Addr)(us:List Value)(kw:List (Str×Value)):Env0 P w K mg base (A.under (.builtin "type.__call__" ⟨.ref C::us,kw⟩)) outer s H:=⟨by first|exact e.frames|(simpa[Around.under,Code.envs,Code.isFrame,pushEnvs]using e.frames),e.mod,e.bs,e.bsz,e.funs,e.frf,e.hok,e.bare⟩
section
variable {X:Cx}{pins:List (Addr×Obj)}{σ:St}{H:Hp}{s s':Shared}
theorem Inv.env0(I:Inv X pins σ H s):Env0 X.prog X.w X.K X.mg X.base X.A X.stack s H:=⟨I.ok.frames,I.ok.mod,I.bs,Nat.le_trans I.ok.bsz I.sz,I.stack,I.stkFree,I.hok,I.bare⟩
theorem Inv.after{Q:VK}{u:Value}(I:Inv X pins σ H s)(h:CE X.stack X.prog X.w H s Q u s'):EP X pins σ Q u s':=by obtain⟨v,H',os,bare,un,hok,r,q⟩:=h;obtain⟨hh,g,d,t,os'⟩:=s';obtain rfl:os'=s.os:=os;exact⟨v,H',I.call (h':=hh) (g':=g) (d':=d) (t':=t) (ch:=[]) un hok bare (λb z=>absurd z (by simp)),r,q⟩
end
def Rk(sp:Sp)(dvs:List V)(E:XK)(t:TA):TE:=λσ H Q=>t σ H λvs H1=>sp (vs++dvs) H1 Q E
def Rj(C:Addr)(m:Str)(sp:Sp)(dvs:List V)(E:XK)(ta:TE)(t:TA):TE:=λσ H Q=>ta σ H λx H1=>∃a dx fs,x=.ref a/\H1 a=some (.ins C dx fs)/\fs.lookup m=none /\t σ H1 λvs H2=>sp (x::(vs++dvs)) H2 Q E
def LV(C:Addr)(sp:Sp)(dvs:List V)(E:XK)(t:TA):TE:=λσ H Q=>t σ H λvs H1=>∀x dx,H1 x=none->H1 dx=none->dx≠x ->sp (.ref x::(vs++dvs)) (upd (upd H1 dx (.own x)) x (.ins C dx [])) (λv H2=>v=.non/\Q (.ref x) H2) E
def Binds(K:PySem.W.Frag)(fd:FuncData)(ps:List Str)(ds:List Value):Prop:=∀(s:Shared)(us:List Value),K.In s.heap->(us++ds).length=ps.length->BindsTo s fd ⟨us,[]⟩ (ps.zip (us++ds))
theorem Binds.all{K:PySem.W.Frag}{fd:FuncData}{ps:List Str}(h:∀us:List Value,us.length=ps.length->bindArgs fd ⟨us,[]⟩=pure (ps.zip us)):Binds K fd ps []:=λs us _ hl=>by rw[List.append_nil]at hl ⊢;exact .of_eq (h us hl)
def Passes(CX:CXT)(X:Cx)(E:XK):Prop:=∀(pins:List (Addr×Obj))(σ:St)(H:Hp)(s:Shared)(e:Value)(s':Shared),Inv X pins σ H s->CX X.stack H s E e s'->X.xe e s'
section
variable {X:Cx}{CX:CXT}{k:Nat}{f C:Addr}{fd:FuncData}{ps:List Str}{sp:Sp}{dvs:List V}{ds:List Value}{E:XK}{x m:Str}{p pos apos:Pos}{e o:Expr}{es:List Expr}{ta:TE}{t:TA}
theorem QC{pins:List (Addr×Obj)}{σ:St}{H:Hp}{s:Shared}{Q:VK}{us:List Value}{vs:List V}(F:FnOk X.prog X.w X.K X.mg X.base CX k f fd ps sp)(hr:Room k X.A)(hb:Binds X.K fd ps ds)(hd:Vals dvs ds)(hx:Passes CX X E)(I:Inv X pins σ H s)(r:Vals vs us)(h:sp (vs++dvs) H Q E):wpAny (model X.prog X.w) X.A (call (.ref f) us) (EP X pins σ Q) X.xe s:=by
 have r2:Vals (vs++dvs) (us++ds):=r.append hd;have hl:(us++ds).length=ps.length:=by rw[<-r2.length];exact F.len _ _ _ _ h
 refine wpAny_call (codeAny_mono (F.run X.A X.stack s H ⟨us,[]⟩ (us++ds) (vs++dvs) Q E hr I.env0 (hb s us I.kIn hl) r2 h) λr s' hq=>?_);cases r with
|error e=>exact hx pins σ H s e s' I hq
|ok fl=>
  cases fl with
 |ret u=>exact I.after hq
 |next=>exact False.elim hq
 |brk=>exact False.elim hq
 |cont=>exact False.elim hq
theorem RI(F:FnOk X.prog X.w X.K X.mg X.base CX k f fd ps sp)(hr:Room k X.A)(hg:Gl X x)(hm:X.mg x=some (.ref f))(hk:PySem.W.keepIn X.K (.ref f)=true)(hb:Binds X.K fd ps ds)(hd:Vals dvs ds)(hx:Passes CX X E)(ha:PA X (e::es) t)(hdb:(x==("__debug__":Str))=false:=by decide)(he:starEach (e::es) X.env=(false,eval e X.env)::starEach es X.env:=by rfl)(hpl:(backTo pos (starEach es X.env)).any (·.1)=false:=by rfl):PE X (.Call (.Name x p) (e::es) [] pos) (Rk sp dvs E t):=by intro pins s σ H Q I h;refine wpAny_Call_Name_kw (VP I hg hm ?_ hdb);refine PySem.W.callWith_K (h₀:=X.base) I.ok.mod.kin hk (thn (ha pos pins s σ H _ I h) λus s1⟨vs,H1,I1,r,q⟩=>⟨I1.kIn,?_⟩) he hpl;exact QC F hr hb hd hx I1 r q
theorem Lk{pl:Sem Bool}(he:PE X o ta)(c:Cls X.K C)(hm:Meth X.K C m f)(F:FnOk X.prog X.w X.K X.mg X.base CX k f fd ps sp)(hr:Room k X.A)(hb:Binds X.K fd ps ds)(hd:Vals dvs ds)(hx:Passes CX X E)(ha:PA X (e::es) t)
  (hst:starEach (e::es) X.env=(false,eval e X.env)::starEach es X.env:=by rfl) (hpl:(backTo pos (starEach es X.env)).any (·.1)=false:=by rfl)
  (ht:eval (.Call (.Attribute o m apos) (e::es) [] pos) X.env=(do
   let ov <-eval o X.env
   standAt apos.atName
   let (f,first) <-holding [ov] (getMethod ov m pl)
   callWith pos f first (backTo pos (starEach (e::es) X.env)) (backToKw pos (keywordEach [] X.env))):=by rfl):
  PE X (.Call (.Attribute o m apos) (e::es) [] pos) (Rj C m sp dvs E ta t):=by
 intro pins s σ H Q I h
 refine PySem.W.methodCall_KW (pl:=pl) (thn (he pins s σ H _ I h) λu s1⟨x,H1,I1,rx,a,dx,fs,ex,ea,l,q⟩=>?_) ht
 subst ex
 obtain rfl:u=Value.ref a:=rx
 refine J9 I1 ea c hm l ?_
 refine PySem.W.callWith_K (first:=[.ref a]) (h₀:=X.base) I.ok.mod.kin hm.kp (thn (ha pos pins s1 σ H1 _ I1 q) λus s2⟨vs,H2,I2,r,q2⟩=>⟨I2.kIn,?_⟩) hst hpl
 exact QC (us:=.ref a::us) (vs:=.ref a::vs) F hr hb hd hx I2 (.cons rfl r) q2
theorem WR{pl:Sem Bool}(he:PE X o ta)(c:Cls X.K C)(hm:Meth X.K C m f)(F:FnOk X.prog X.w X.K X.mg X.base CX k f fd ps sp)(hr:Room k X.A)(hb:Binds X.K fd ps ds)(hd:Vals dvs ds)(hx:Passes CX X E)
  (ht:eval (.Call (.Attribute o m apos) [] [] pos) X.env=(do
   let ov <-eval o X.env
   standAt apos.atName
   let (f,first) <-holding [ov] (getMethod ov m pl)
   callWith pos f first (backTo pos (starEach [] X.env)) (backToKw pos (keywordEach [] X.env))):=by rfl):
  PE X (.Call (.Attribute o m apos) [] [] pos) (Rj C m sp dvs E ta tNil):=by
 intro pins s σ H Q I h
 refine PySem.W.methodCall_KW (pl:=pl) (thn (he pins s σ H _ I h) λu s1⟨x,H1,I1,rx,a,dx,fs,ex,ea,l,q⟩=>?_) ht
 subst ex
 obtain rfl:u=Value.ref a:=rx
 refine J9 I1 ea c hm l ?_
 exact PySem.W.callWith_K0 (first:=[.ref a]) I1.kIn hm.kp (QC (us:=[.ref a]) (vs:=[.ref a]) F hr hb hd hx I1 (.cons rfl .nil) q)
structure Mk(K:PySem.W.Frag)(C f:Addr):Prop where
 makes:PySem.W.makesIn K C=true
 init:PySem.W.findIn K (.ref C) "__init__"=some (some (.ref f))
 fn:PySem.W.isFn K (.ref f)=true
 kp:PySem.W.keepIn K (.ref C)=true
theorem WE{pins:List (Addr×Obj)}{σ:St}{H:Hp}{s:Shared}{Q:VK}{us:List Value}{vs:List V}(M:Mk X.K C f)(F:FnOk X.prog X.w X.K X.mg X.base CX k f fd ps sp)(hr:Room (k+1) X.A)(hb:Binds X.K fd ps ds)(hd:Vals dvs ds)(hx:Passes CX X E)(I:Inv X pins σ H s)(r:Vals vs us)(h:∀x dx,H x=none->H dx=none->dx≠x->sp (.ref x::(vs++dvs)) (upd (upd H dx (.own x)) x (.ins C dx [])) (λv H2=>v=.non/\Q (.ref x) H2) E):wpAny (model X.prog X.w) X.A (call (.ref C) us) (EP X pins σ Q) X.xe s:=by
 have hq:=h (s.heap.objs.size+1) s.heap.objs.size (I.hok.fresh (Nat.le_succ _)) (I.hok.fresh (Nat.le_refl _)) (Nat.ne_of_lt (Nat.lt_succ_self _));have I2:=Inv.made (C:=C) I;have r2:Vals (V.ref (s.heap.objs.size+1)::(vs++dvs)) (Value.ref (s.heap.objs.size+1)::(us++ds)):=.cons rfl (r.append hd);have hl:(Value.ref (s.heap.objs.size+1)::us++ds).length=ps.length:=by have e:=r2.length;rw[F.len _ _ _ _ hq]at e;exact e.symm
 refine wpAny_call (PB (f:=f) I.kIn M.makes M.init (beq_iff_eq.mp M.fn) (codeAny_mono (F.run _ X.stack _ _ ⟨Value.ref (s.heap.objs.size+1)::us,[]⟩ (Value.ref (s.heap.objs.size+1)::(us++ds)) _ _ E (hr.make C us []) (I2.env0.make C us []) (hb _ (Value.ref (s.heap.objs.size+1)::us) I2.kIn hl) r2 hq) λr s' hq'=>?_));cases r with
|error e=>exact hx pins σ _ _ e s' I2 hq'
|ok fl=>
  cases fl with
 |ret u=>obtain⟨v,H',I3,rv,ev,q3⟩:=I2.after hq';subst ev;exact⟨rv,⟨V.ref (s.heap.objs.size+1),H',I3,rfl,q3⟩⟩
 |next=>exact False.elim hq'
 |brk=>exact False.elim hq'
 |cont=>exact False.elim hq'
theorem Ll(M:Mk X.K C f)(F:FnOk X.prog X.w X.K X.mg X.base CX k f fd ps sp)(hr:Room (k+1) X.A)(hg:Gl X x)(hm:X.mg x=some (.ref C))(hb:Binds X.K fd ps ds)(hd:Vals dvs ds)(hx:Passes CX X E)(ha:PA X (e::es) t)(hdb:(x==("__debug__":Str))=false:=by decide)(he:starEach (e::es) X.env=(false,eval e X.env)::starEach es X.env:=by rfl)(hpl:(backTo pos (starEach es X.env)).any (·.1)=false:=by rfl):PE X (.Call (.Name x p) (e::es) [] pos) (LV C sp dvs E t):=by intro pins s σ H Q I h;refine wpAny_Call_Name_kw (VP I hg hm ?_ hdb);refine PySem.W.callWith_K (h₀:=X.base) I.ok.mod.kin M.kp (thn (ha pos pins s σ H _ I h) λus s1⟨vs,H1,I1,r,q⟩=>⟨I1.kIn,?_⟩) he hpl;exact WE M F hr hb hd hx I1 r q
end
structure FnScope(N P:List Str)(sc:Scope):Prop where
 kind:sc.kind=.function
 co:sc.isCoroutine=false
 gen:sc.isGenerator=false
 nd:N.Nodup
 pre:N.take P.length=P
 par:∀x∈P,sc.names.lookup x=some .local\/sc.names.lookup x=some .cell
 nofree:∀y∈sc.names,y.2≠.free
theorem MT{kindOf:Str->Option NameKind}{x:Str}:∀{binds:List (Str×Value)}{m:Str->Option Value},(∀v,(x,v)∉binds)->bindL kindOf binds m x=m x
|[],_,_=>rfl
|(n,v)::r,m,h=>by
  unfold bindL;rw[MT λw hw=>h w (List.mem_cons_of_mem _ hw)];split
  ·have:x≠n:=by rintro rfl;exact h v List.mem_cons_self
   simp[this]
  ·rfl
theorem MV{kindOf:Str->Option NameKind}{x:Str}:∀{binds:List (Str×Value)}{m:Str->Option Value},(∀v,(x,v)∉binds)->bindC kindOf binds m x=m x
|[],_,_=>rfl
|(n,v)::r,m,h=>by
  unfold bindC;rw[MV λw hw=>h w (List.mem_cons_of_mem _ hw)];split
  ·rfl
  ·have:x≠n:=by rintro rfl;exact h v List.mem_cons_self
   simp[this]
theorem MU{kindOf:Str->Option NameKind}{x:Str}{v:Value}:∀{P:List Str}{vs:List Value}{i:Nat}{m:Str->Option Value},P.Nodup->P[i]?=some x->vs[i]?=some v->kindOf x=some .local ->bindL kindOf (P.zip vs) m x=some v
|[],_,_,_,_,h,_,_=>by simp at h
|_::_,[],_,_,_,_,h,_=>by simp at h
|p::P,w::vs,0,m,nd,h1,h2,hk=>by simp at h1 h2;subst h1;subst h2;show bindL kindOf ((p,w)::P.zip vs) m p=_;unfold bindL;rw[MT λv hv=>(List.nodup_cons.mp nd).1 (List.of_mem_zip hv).1,if_pos hk];simp
|p::P,w::vs,i+1,m,nd,h1,h2,hk=>by show bindL kindOf ((p,w)::P.zip vs) m x=_;unfold bindL;exact MU (i:=i) (List.nodup_cons.mp nd).2 (by simpa using h1) (by simpa using h2) hk
theorem MW{kindOf:Str->Option NameKind}{x:Str}{v:Value}:∀{P:List Str}{vs:List Value}{i:Nat}{m:Str->Option Value},P.Nodup->P[i]?=some x->vs[i]?=some v->kindOf x≠some .local ->bindC kindOf (P.zip vs) m x=some v
|[],_,_,_,_,h,_,_=>by simp at h
|_::_,[],_,_,_,_,h,_=>by simp at h
|p::P,w::vs,0,m,nd,h1,h2,hk=>by simp at h1 h2;subst h1;subst h2;show bindC kindOf ((p,w)::P.zip vs) m p=_;unfold bindC;rw[MV λv hv=>(List.nodup_cons.mp nd).1 (List.of_mem_zip hv).1,if_neg hk];simp
|p::P,w::vs,i+1,m,nd,h1,h2,hk=>by show bindC kindOf ((p,w)::P.zip vs) m x=_;unfold bindC;exact MW (i:=i) (List.nodup_cons.mp nd).2 (by simpa using h1) (by simpa using h2) hk
noncomputable def start(N:List Str)(vs:List V):St:=vs.map some++List.replicate (N.length-vs.length) none
noncomputable def cxOf(CX:CXT)(P:Program)(w:World)(K:PySem.W.Frag)(mg:Str->Option Value)(base:Heap)(N:List Str)(qual:Str)(scope:Scope)(f:Addr)(cd:Value)(A:Around)(outer:List Env)(s:Shared)(H:Hp)(E:XK):Cx where
 prog:=P
 w:=w
 K:=K
 mg:=mg
 base:=base
 A:=A.deeper (envOfC qual scope s.heap.objs.size f cd)
 N:=N
 s₀:=s
 H₀:=H
 env:=envOfC qual scope s.heap.objs.size f cd
 outer:=outer
 stack:=envOfC qual scope s.heap.objs.size f cd::outer
 ex:=[]
 calm:=true
 fn:=λ_=>true
 pn:=[]
 xe:=λe s'=>wpAny (model P w) (A.deeper (envOfC qual scope s.heap.objs.size f cd)) (leaving (envOfC qual scope s.heap.objs.size f cd) e) (λ_ s''=>CX outer H s E e s'') (λe' s''=>CX outer H s E e' s'') s'
theorem Qb{sc:Scope}{n:Nat}{x:Str}(h:sc.names.lookup x=some .cell):∃c,(cellsFrom n sc.names []).lookup x=some c:=by have q:=PySem.W.cellsFrom_some sc.names n [] (.inl h);exact Option.isSome_iff_exists.mp q
theorem SI{CX:CXT}{P:Program}{w:World}{K:PySem.W.Frag}{mg:Str->Option Value}{base:Heap}{N ps:List Str}{qual:Str}{scope:Scope}{f:Addr}{cd:Value}{A:Around}{outer:List Env}{s s1:Shared}{H:Hp}{E:XK}{us:List Value}{vs:List V}(S:FnScope N ps scope)(hd:A.handled=none)(e0:Env0 P w K mg base A outer s H)(hl:vs.length=ps.length)(r:Vals vs us)(x:InCallC s s.heap.objs.size (bindL (envOfC qual scope s.heap.objs.size f cd).kindOf (ps.zip us) λ_=>none) (cellsFrom (s.heap.objs.size+1) scope.names []) (bindC (envOfC qual scope s.heap.objs.size f cd).kindOf (ps.zip us) λ_=>none) s1):Inv (cxOf CX P w K mg base N qual scope f cd A outer s H E) [] (start N vs) H s1:=by
 have hpl:ps.length<=N.length:=by have:=congrArg List.length S.pre;rw[List.length_take]at this;omega
 obtain⟨h1,tk,rfl,hk⟩:=x.done;have noA:∀b:Addr,b∉(cxOf CX P w K mg base N qual scope f cd A outer s H E).ex:=λb z=>absurd (show b∈([]:List Addr)from z) (by simp);refine⟨⟨e0.mod,S.kind,rfl,rfl,Nat.le_refl _,λy z c h1 h2=>?_,λy hy=>?_,λy c _ h=>?_,λ_=>hd,Around.frames_deeper e0.frames,.inr ⟨rfl,rfl⟩,λb z=>absurd z (noA b),e0.bs,e0.bsz,λb _ _=>noA b,λb z=>absurd z (noA b),e0.funs,e0.frf⟩,rfl,e0.bare,Un.kept hk,⟨_,x.toInCall.ns,λi y v h1 h2 h3=>?_⟩,λy c h=>⟨_,x.cell y c h⟩,e0.hok.fresh (Nat.le_refl _),λy c h=>?_,λp hp=>absurd (show p∈([]:List (Addr×Obj))from hp) (by simp),e0.hok.kept hk,?_⟩
 ·exact name_of_addr x.apart (PySem.mem_of_lookup h1) (PySem.mem_of_lookup h2)
 ·have hy:scope.names.lookup y=some .cell\/scope.names.lookup y=some .free:=hy;rcases hy with hy|hy
  ·exact Qb hy
  ·exact absurd rfl (S.nofree _ (PySem.mem_of_lookup hy))
 ·exact Nat.le_of_lt (x.above y c (PySem.mem_of_lookup h))
 ·have hi:i<vs.length:=by
   unfold start at h2;by_cases hi:i<vs.length
   ·exact hi
   ·rw[List.getElem?_append_right (by simpa using hi)]at h2;rw[List.getElem?_replicate]at h2;split at h2<;>cases h2
  have ha:vs[i]?=some v:=by
   unfold start at h2;rw[List.getElem?_append_left (by simpa using hi),List.getElem?_map]at h2;cases e:vs[i]? with
  |none=>rw[e]at h2;cases h2
  |some a=>rw[e]at h2;cases h2;rfl
  obtain⟨u,hu,rv⟩:=r.get ha;have hp:ps[i]?=some y:=by rw[<-S.pre,List.getElem?_take_of_lt (by omega)];exact h1
  have ndP:ps.Nodup:=by rw[<-S.pre];exact S.nd.sublist (List.take_sublist _ _)
  refine⟨u,rv,?_⟩;rcases S.par y (List.mem_of_getElem? hp)with k|k
  ·exact .inl ⟨k,MU ndP hp hu k⟩
  ·obtain⟨c,e⟩:=Qb (n:=s.heap.objs.size+1) k;refine .inr ⟨.inl k,c,e,?_⟩;have q:=x.cell y c e;rw[MW ndP hp hu (by show scope.names.lookup y≠_;rw[k];decide)]at q;exact q
 ·exact e0.hok.fresh (Nat.le_of_lt (x.above y c (PySem.mem_of_lookup h)))
 ·unfold start;show _=N.length;rw[List.length_append,List.length_map,List.length_replicate];omega
theorem Dh{CX:CXT}{P:Program}{w:World}{K:PySem.W.Frag}{mg:Str->Option Value}{base:Heap}{k:Nat}{f:Addr}{name qual:Str}{params:Arguments}{body:List Stmt}{scope:Scope}{dV kV doc pm cdv ct oc:Value}{an od:Option Addr}{osl:Array (Option Value)}{N ps:List Str}{sp:Sp}(lk:K.lookup f=some ⟨oc,od,.func (PySem.W.fnOf name qual params body scope dV kV doc pm an cdv ct),osl⟩)(hcd:PySem.W.codeIn K cdv qual=true)(S:FnScope N ps scope)(len:∀vs H Q E,sp vs H Q E->vs.length=ps.length)(hbody:∀(A:Around)(outer:List Env)(s:Shared)(H:Hp)(vs:List V)(Q:VK)(E:XK),Room k (A.deeper (envOfC qual scope s.heap.objs.size f cdv))->sp vs H Q E ->∃t,PSs (cxOf CX P w K mg base N qual scope f cdv A outer s H E) body t/\t {nx:=λ_ H'=>Q .non H',rt:=Q} (start N vs) H):FnOk P w K mg base CX (k+1) f (PySem.W.fnOf name qual params body scope dV kV doc pm an cdv ct) ps sp:=by
 refine⟨len,λA outer s H args us vs Q E hr e0 hb r hsp=>?_⟩;have hl:=len _ _ _ _ hsp;have KX:K.In s.heap:=e0.mod.kin.keeps λb o e=>(e0.bs b o e).1;have lim:s.heap.NoLimit:=e0.mod.nolimit.keeps λb o e=>(e0.bs b o e).1;have hkind:∀y∈ps.zip us,scope.names.lookup y.1=some .local\/(scope.names.lookup y.1=some .cell/\((cellsFrom (s.heap.objs.size+1) scope.names []).lookup y.1).isSome=true):=λ⟨n,v⟩hy=>by
  rcases S.par n (List.of_mem_zip hy).1 with q|q
  ·exact .inl q
  ·exact .inr ⟨q,PySem.W.cellsFrom_some _ _ _ (.inl q)⟩
 refine codeAny_call_function hr.depth (KX _ _ lk) rfl S.co S.gen rfl (PySem.W.codeRec_of KX hcd) (hb _ _ _ _ ?_);refine wpAny_newFunctionEnv_cells S.kind hkind λenv he s1 x=>?_;subst he;refine⟨lim.keeps x.toInCall.keep,codeAny_func ?_⟩;obtain⟨t,ht,hq⟩:=hbody A outer s H vs Q E (hr.deeper _) hsp;have I:Inv (cxOf CX P w K mg base N qual scope f cdv A outer s H E) [] (start N vs) H s1:=SI S hr.hd e0 hl r x;refine wpAny_mono (ht [] s1 (start N vs) H _ I hq) (λfl s' hs=>?_) λe s' hs=>hs;have fin:∀{σ':St}{H':Hp}{v:V}{u:Value},Inv (cxOf CX P w K mg base N qual scope f cdv A outer s H E) [] σ' H' s'->RelV v u->Q v H'->CE outer P w H s Q u s':=λ{σ' H' v u}J rv q=>⟨v,H',J.os,J.bare,J.base,J.hok,rv,q⟩;cases fl with
|ret u=>obtain⟨v,σ',H',J,rv,q⟩:=hs;exact fin J rv q
|next=>obtain⟨σ',H',J,q⟩:=hs;exact fin (v:=V.non) (u:=Value.none) J rfl q
|brk=>obtain⟨_,_,_,q⟩:=hs;exact False.elim q
|cont=>obtain⟨_,_,_,q⟩:=hs;exact False.elim q
open PySem PySem.Spec PyProof.Rows
section
variable {X:Cx}{x:Str}{p pos:Pos}{e:Expr}{es:List Expr}{t:TA}{id T:String}{r:List V->Hp->VK->Prop}
def tCB(r:List V->Hp->VK->Prop)(t:TA):TE:=λσ H Q=>t σ H λvs H1=>r vs H1 Q
theorem ZI(hc:YM X (.builtin id) r)(hg:Gl X x)(hm:X.mg x=none)(hv:bootBuiltins x=some (.builtin id))(ha:PA X (e::es) t)(hn:x≠"__name__":=by decide)(hdb:(x==("__debug__":Str))=false:=by decide)(he:starEach (e::es) X.env=(false,eval e X.env)::starEach es X.env:=by rfl)(hpl:(backTo pos (starEach es X.env)).any (·.1)=false:=by rfl):PE X (.Call (.Name x p) (e::es) [] pos) (tCB r t):=by intro pins s σ H Q I h;refine wpAny_Call_Name_kw (Jl I hg hm hv ?_ hn hdb);exact PyProof.Rows.callWith_builtin1 (thn (ha pos pins s σ H _ I h) λus s1⟨vs,H1,I1,r1,q1⟩=>hc pins s1 σ H1 vs us Q I1 r1 q1) he hpl
theorem ZE(hc:YM X (.type T) r)(hg:Gl X x)(hm:X.mg x=none)(hv:bootBuiltins x=some (.type T))(ha:PA X (e::es) t)(hn:x≠"__name__":=by decide)(hdb:(x==("__debug__":Str))=false:=by decide)(he:starEach (e::es) X.env=(false,eval e X.env)::starEach es X.env:=by rfl)(hpl:(backTo pos (starEach es X.env)).any (·.1)=false:=by rfl):PE X (.Call (.Name x p) (e::es) [] pos) (tCB r t):=by intro pins s σ H Q I h;refine wpAny_Call_Name_kw (Jl I hg hm hv ?_ hn hdb);exact PyProof.Rows.callWith_type1 (thn (ha pos pins s σ H _ I h) λus s1⟨vs,H1,I1,r1,q1⟩=>hc pins s1 σ H1 vs us Q I1 r1 q1) he hpl
end
end L2
namespace HT
open PySem PyProof.Rows
section
variable {prog:Program}{w:World}{A:Around}{E:Value->Shared->Prop}{s:Shared}
noncomputable def sIx(n d:Nat):Option Int->Nat
|none=>d
|some v=>if v<0 then(v+(n:Int)).toNat else min v.toNat n
theorem DD(n d:Nat)(hd:d<=n)(o:Option Int):sIx n d o<=n:=by
 cases o with
|none=>exact hd
|some v=>
  show(if v<0 then(v+(n:Int)).toNat else min v.toNat n)<=n;by_cases hv:v<0
  ·rw[if_pos hv];omega
  ·rw[if_neg hv];exact Nat.min_le_right _ _
theorem R5(v:Int)(n d:Nat):(if v<0 then max (v+(n:Int)) 0 else min v (n:Int))=((sIx n d (some v):Nat):Int):=by
 show(if v<0 then max (v+(n:Int)) 0 else min v (n:Int))=(((if v<0 then(v+(n:Int)).toNat else min v.toNat n):Nat):Int);by_cases hv:v<0
 ·simp only[if_pos hv];omega
 ·simp only[if_neg hv];omega
theorem Rf(lo hi:Option Int)(n:Nat):Builtin.Slice.sliceAdjust lo hi 1 (n:Int)=(((sIx n 0 lo:Nat):Int),((sIx n n hi:Nat):Int)):=by
 have h1:¬((1:Int)<0):=by omega
 unfold Builtin.Slice.sliceAdjust;simp only[h1,if_false];refine Prod.ext ?_ ?_
 ·cases lo with
 |none=>rfl
 |some v=>exact R5 v n 0
 ·cases hi with
 |none=>rfl
 |some v=>exact R5 v n n
theorem QF(i j:Nat):Builtin.Slice.slicePlaces (i:Int) (j:Int) 1=j-i:=by
 unfold Builtin.Slice.slicePlaces;have h1:(1:Int)>0:=by omega
 simp only[h1,if_true,Int.ediv_one];split<;>omega
theorem GX{v:Value}{o:Option Int}{Q:Option Int->Shared->Prop}(p:IsPart v o)(h:Q o s):wpAny (model prog w) A (Builtin.Slice.slicePartIndex v) Q E s:=by
 cases p with
|none=>exact slicePart_none h
|int i t=>exact slicePart_int h
theorem UG{sl:Addr}{vl vu:Value}{lo hi:Option Int}{n:Nat}{Q:Int×Int×Nat->Shared->Prop}(hs:s.heap.IsSliceOf sl vl vu .none)(pl:IsPart vl lo)(pu:IsPart vu hi)(h:Q (((sIx n 0 lo:Nat):Int),1,sIx n n hi-sIx n 0 lo) s):wpAny (model prog w) A (Builtin.Slice.sliceApplied (.ref sl) (pure (n:Int))) Q E s:=by
 obtain⟨os,hos,hcs,hds⟩:=id hs;unfold Builtin.Slice.sliceApplied Builtin.Slice.sliceFields;refine wpAny_bind (wpAny_bind (wpAny_field hos hds (x:=vl) rfl (wpAny_bind (wpAny_field hos hds (x:=vu) rfl (wpAny_bind (wpAny_field hos hds (x:=.none) rfl (wpAny_pure ?_)))))));refine wpAny_bind (slicePart_none ?_);show wpAny _ _ (if((1:Int)==0)=true then _ else _) _ _ s;rw[if_neg (by decide)];refine wpAny_bind (GX pl (wpAny_bind (GX pu (wpAny_bind (wpAny_pure ?_)))));show wpAny _ _ (match Builtin.Slice.sliceAdjust lo hi 1 (n:Int)with|(lo,hi)=>pure (lo,(1:Int),Builtin.Slice.slicePlaces lo hi 1)) _ _ s
 rw[Rf lo hi n];show wpAny _ _ (pure (((sIx n 0 lo:Nat):Int),(1:Int),Builtin.Slice.slicePlaces ((sIx n 0 lo:Nat):Int) ((sIx n n hi:Nat):Int) 1)) _ _ s;rw[QF];exact wpAny_pure h
theorem WL(xs:Array Value)(i k:Nat):((List.range k).filterMap λ(m:Nat)=>xs[((i:Int)+(m:Int)*1).toNat]?).toArray=((xs.toList.drop i).take k).toArray:=by
 have e:(λ(m:Nat)=>xs[((i:Int)+(m:Int)*1).toNat]?)=λm=>xs[i+m]?:=by
  funext m;have:((i:Int)+(m:Int)*1).toNat=i+m:=by omega
  rw[this]
 rw[e];have:=pick_run xs i k;rw[List.filterMap_map]at this;have e2:((λx=>xs[x]?) ∘ λx=>i+x)=λm=>xs[i+m]?:=rfl;rw[e2]at this;rw[this]
theorem getItem_tuple_cut{t sl:Addr}{items:Array Value}{vl vu:Value}{lo hi:Option Int}{Q:Value->Shared->Prop}(ht:IsTup s.heap t items)(hs:s.heap.IsSliceOf sl vl vu .none)(pl:IsPart vl lo)(pu:IsPart vu hi)(hw:¬(sIx items.size 0 lo=0/\sIx items.size items.size hi=items.size))(h:Q (.ref s.heap.objs.size) {s with heap:=s.heap.push {cls:=.type "tuple",data:=.seq ((items.toList.drop (sIx items.size 0 lo)).take (sIx items.size items.size hi-sIx items.size 0 lo)).toArray}})(hsz:items.size<=sizeLine):wpAny (model prog w) A (getItem (.ref t) (.ref sl)) Q E s:=by
 have htake:sizeOk (.seq ((items.toList.drop (sIx items.size 0 lo)).take (sIx items.size items.size hi-sIx items.size 0 lo)).toArray):=by show((items.toList.drop (sIx items.size 0 lo)).take (sIx items.size items.size hi-sIx items.size 0 lo)).toArray.size<=sizeLine;rw[List.size_toArray,List.length_take,List.length_drop,Array.length_toList];omega
 have hj:sIx items.size items.size hi<=items.size:=DD _ _ (Nat.le_refl _) hi;obtain⟨os,hos,hcs,hds⟩:=id hs;have hTs:s.TypeIs (.ref sl) "slice":=⟨os,hos,hcs⟩;unfold getItem;try with_reducible refine wpAny_holding ?_
 first|refine wpAny_bind (wpAny_pure ?_)|skip
 refine wpAny_bind (wpAny_sequenceKey ht.typeIs (by decide) ?_);refine wpAny_bind (wpAny_callSpecial?_slot (name:=Str.ofString "__getitem__") ht.typeIs PyProof.Rows.slot_tuple_getitem (wpAny_call_entry PyProof.Rows.slot_tuple_getitem ht.typeIs entry_tuple_getitem ?_ (args_tuple_getitem _ _)));show wpAny _ _ (Builtin.Tuple.tupleItemsOf (.ref t) >>= _) _ _ s;refine wpAny_bind (tupleItemsOf_ ht ?_);refine wpAny_bind (wpAny_typeOf hTs ?_);rw[if_pos (by decide)];refine wpAny_bind (UG hs pl pu ?_);have hno:¬((((sIx items.size 0 lo:Nat):Int)==0&&(1:Int)==1&&(sIx items.size items.size hi-sIx items.size 0 lo)==items.size)=true):=by intro q;rw[Bool.and_eq_true,Bool.and_eq_true]at q;have q1:((sIx items.size 0 lo:Nat):Int)=0:=eq_of_beq q.1.1;have q2:sIx items.size items.size hi-sIx items.size 0 lo=items.size:=eq_of_beq q.2;exact hw ⟨by omega,by omega⟩
 show wpAny _ _ (if(((sIx items.size 0 lo:Nat):Int)==0&&(1:Int)==1&&(sIx items.size items.size hi-sIx items.size 0 lo)==items.size)=true then _ else _) _ _ s;rw[if_neg hno,WL];first
 |exact wpAny_bind (m:=Builtin.Tuple.tupleExact _) (wpAny_newObj_type (wpAny_pure ⟨_,rfl,wpAny_pure h⟩) htake)
 |exact wpAny_bind (m:=Builtin.Tuple.tupleExact _) (wpAny_newObj_type (wpAny_bind (wpAny_pure (wpAny_pure ⟨_,rfl,wpAny_pure h⟩))) htake)
 |exact wpAny_bind (wpAny_bind (m:=Builtin.Tuple.tupleExact _) (wpAny_newObj_type (wpAny_pure (wpAny_pure ⟨_,rfl,wpAny_pure h⟩)) htake))
 |exact wpAny_bind (wpAny_bind (m:=Builtin.Tuple.tupleExact _) (wpAny_newObj_type (wpAny_pure ⟨_,rfl,wpAny_pure h⟩) htake))
end
end HT
namespace L2
open PySem PySem.Spec PyProof.Rows
noncomputable abbrev TO:=St->Hp->(Option Int->Hp->Prop)->Prop
def PO(X:Cx)(e:Option Expr)(t:TO):Prop:=∀(pins:List (Addr×Obj))(s:Shared)(σ:St)(H:Hp)(Q:Option Int->Hp->Prop),Inv X pins σ H s->t σ H Q ->wpAny (model X.prog X.w) X.A (evalPart e X.env) (λu s'=>∃o H',Inv X pins σ H' s'/\IsPart u o/\Q o H') X.xe s
noncomputable def KU:TO:=λ_ H Q=>Q none H
noncomputable def EA(t:TE):TO:=λσ H Q=>t σ H λx H1=>∃i,x=.int i/\Q (some i) H1
section
variable {X:Cx}{e:Expr}{te:TE}{lo hi:Option Expr}{tl th:TO}{pos p2:Pos}
theorem YH:PO X none KU:=by intro pins s σ H Q I h;rw[evalPart_none];exact wpAny_pure ⟨none,H,I,.none,h⟩
theorem YG(h:PE X e te):PO X (some e) (EA te):=by intro pins s σ H Q I hw;rw[evalPart_some];refine thn (h pins s σ H _ I hw) λu s1⟨x,H1,I1,r1,q1⟩=>?_;obtain⟨i,rfl,q⟩:=q1;obtain⟨t,rfl⟩:=r1;exact⟨some i,H1,I1,.int i t,q⟩
def SlR(X:Cx)(r:V->Option Int->Option Int->Hp->VK->Prop):Prop:=∀(pins:List (Addr×Obj))(s:Shared)(σ:St)(H:Hp)(x:V)(v vl vu:Value)(lo hi:Option Int)(sl:Addr)(Q:VK),Inv X pins σ H s->RelV x v->s.heap.IsSliceOf sl vl vu .none->IsPart vl lo->IsPart vu hi->r x lo hi H Q ->∃T id,typeLookup (.type T) "__getitem__"=pure (some (.builtin id))/\s.TypeIs v T/\wpAny (model X.prog X.w) X.A (getItem v (.ref sl)) (EP X pins σ Q) X.xe s
def tSl(r:V->Option Int->Option Int->Hp->VK->Prop)(te:TE)(tl th:TO):TE:=λσ H Q=>te σ H λx H1=>tl σ H1 λl H2=>th σ H2 λu H3=>r x l u H3 Q
theorem Yv{r:V->Option Int->Option Int->Hp->VK->Prop}(hr:SlR X r)(he:PE X e te)(hl:PO X lo tl)(hu:PO X hi th):PE X (.Subscript e (.Slice lo hi none p2) pos) (tSl r te tl th):=by intro pins s σ H Q I h;refine Subscript_ (thn (he pins s σ H _ I h) λv s1⟨x,H1,I1,r1,q1⟩=>?_);refine wpAny_Slice (thn (hl pins s1 σ H1 _ I1 q1) λvl s2⟨l,H2,I2,pl,q2⟩=>thn (hu pins s2 σ H2 _ I2 q2) λvu s3⟨u,H3,I3,pu,q3⟩=>?_);rw[evalPart_none];refine wpAny_pure ?_;have I4:Inv X pins σ H3 {s3 with heap:=s3.heap.push {cls:=.type "slice",data:=.fields #[vl,vu,.none]}}:=I3.kept (t':=s3.toks) λb ob q=>Heap.get?_push_of_some _ q;obtain⟨T,id,hT,ht,hg⟩:=hr pins {s3 with heap:=s3.heap.push {cls:=.type "slice",data:=.fields #[vl,vu,.none]}} σ H3 x v vl vu l u s3.heap.objs.size Q I4 r1 (Heap.IsSliceOf.new ..) pl pu q3;show wpAny (model X.prog X.w) X.A (subscriptTail e (.Slice lo hi none p2) v (.ref s3.heap.objs.size)) (EP X pins σ Q) X.xe {s3 with heap:=s3.heap.push {cls:=.type "slice",data:=.fields #[vl,vu,.none]}};exact tail_any (ops:=[.ref s3.heap.objs.size,v]) ht hT hg (by with_unfolding_all rfl)
noncomputable def cutV(xs:List V)(lo hi:Option Int):List V:=(xs.drop (HT.sIx xs.length 0 lo)).take (HT.sIx xs.length xs.length hi-HT.sIx xs.length 0 lo)
theorem JH(xs:List V)(lo hi:Option Int):(cutV xs lo hi).length<=xs.length:=by unfold cutV;rw[List.length_take,List.length_drop];omega
noncomputable def rSlT(K:PySem.W.Frag):V->Option Int->Option Int->Hp->VK->Prop:=λx lo hi H Q=>∃a xs,x=.ref a/\SqT K H a xs /\¬(HT.sIx xs.length 0 lo=0/\HT.sIx xs.length xs.length hi=xs.length)/\∀p,H p=none->Q (.ref p) (upd H p (.tup (cutV xs lo hi)))
theorem Dw:SlR X (rSlT X.K):=by
 intro pins s σ H x v vl vu lo hi sl Q I rx hs pl pu h;obtain⟨a,xs,rfl,hx,hw,q⟩:=h;cases rx;obtain⟨its,r,ht,hz⟩:=I.tuple hx;have hlen:its.toArray.size=xs.length:=by rw[List.size_toArray];exact r.length.symm
 refine⟨"tuple",_,PyProof.Rows.slot_tuple_getitem.lookup,ht.typeIs,?_⟩;refine HT.getItem_tuple_cut ht hs pl pu (by rw[hlen];exact hw) ?_ (by rw[hlen];exact hz);rw[hlen];refine⟨.ref s.heap.objs.size,_,I.laid (t':=s.toks) (o:=.tup (cutV xs lo hi)) (λb ob q=>Heap.get?_push_of_some _ q) (Nat.le_refl _) ?_,rfl,q _ (I.hok.fresh (Nat.le_refl _))⟩;exact⟨Nat.le_trans (JH xs lo hi) hz,_,(r.drop (HT.sIx xs.length 0 lo)).take (HT.sIx xs.length xs.length hi-HT.sIx xs.length 0 lo),IsTup.new _ _⟩
end
open PySem PySem.Spec PyProof.Rows
noncomputable def ixN(n:Nat)(i:Int):Option Nat:=if 0<=i then(if i<n then some i.toNat else none)else if -(n:Int)<=i then some (i+n).toNat else none
noncomputable def atI{α:Type}(xs:List α)(i:Int):Option α:=(ixN xs.length i).bind λj=>xs[j]?
theorem RP{n:Nat}{i:Int}{j:Nat}(h:ixN n i=some j):seqIndex? i n=some j/\j<n/\-(n:Int)<=i/\i<n:=by
 unfold ixN at h;by_cases h0:0<=i
 ·rw[if_pos h0]at h;by_cases h1:i<n
  ·rw[if_pos h1]at h;have e:i.toNat=j:=Option.some.inj h;exact⟨by rw[seqIndex_of h0 h1,e],by omega,by omega,h1⟩
  ·rw[if_neg h1]at h;cases h
 ·rw[if_neg h0]at h;by_cases h1:-(n:Int)<=i
  ·rw[if_pos h1]at h;have e:(i+n).toNat=j:=Option.some.inj h;exact⟨by rw[seqIndex_neg (by omega) h1,e],by omega,h1,by omega⟩
  ·rw[if_neg h1]at h;cases h
theorem NM{α:Type}{xs:List α}{i:Int}{v:α}(h:atI xs i=some v):∃j,seqIndex? i xs.length=some j/\xs[j]?=some v/\j<xs.length/\-(xs.length:Int)<=i/\i<xs.length:=by
 unfold atI at h;cases e:ixN xs.length i with
|none=>rw[e]at h;cases h
|some j=>rw[e]at h;obtain⟨h1,h2,h3,h4⟩:=RP e;exact⟨j,h1,h,h2,h3,h4⟩
theorem Zr{α:Type}{xs:List α}{j:Nat}{v:α}(h:xs[j]?=some v):atI xs (j:Int)=some v:=by
 have hj:j<xs.length:=(List.getElem?_eq_some_iff.mp h).1;have e:ixN xs.length (j:Int)=some j:=by unfold ixN;rw[if_pos (by omega),if_pos (by omega)];simp
 unfold atI;rw[e];exact h
theorem KH{α:Type}(xs:List α)(v:α):atI (xs++[v]) (-1)=some v:=by
 have hl:(xs++[v]).length=xs.length+1:=by simp
 have e:ixN (xs++[v]).length (-1)=some xs.length:=by unfold ixN;rw[hl,if_neg (by decide),if_pos (by omega)];congr 1;omega
 unfold atI;rw[e];show(xs++[v])[xs.length]?=some v;simp
def NP(b:Expr):Prop:=∀o i,subscripted b false o i=operate [o,i] (getItem o i)
def IxR(X:Cx)(r:R2):Prop:=∀(value slice:Expr)(pins:List (Addr×Obj))(s:Shared)(σ:St)(H:Hp)(x y:V)(v u:Value)(Q:VK),Inv X pins σ H s->RelV x v->RelV y u->r x y H Q ->subscripted slice false v u=operate [v,u] (getItem v u)->wpAny (model X.prog X.w) X.A (subscriptTail value slice v u) (EP X pins σ Q) X.xe s
def MtR(X:Cx)(id:String)(r:V->List V->Hp->VK->Prop):Prop:=∀(pins:List (Addr×Obj))(s:Shared)(σ:St)(H:Hp)(x:V)(xs:List V)(v:Value)(us:List Value)(Q:VK),Inv X pins σ H s->RelV x v->Vals xs us->r x xs H Q ->wpAny (model X.prog X.w) X.A (call (.builtin id) (v::us)) (EP X pins σ Q) X.xe s
section
variable {X:Cx}{a b:Expr}{ta tb:TE}{pos:Pos}
theorem Z2{r:R2}(hr:IxR X r)(ha:PE X a ta)(hb:PE X b tb)(hs:NP b):PE X (.Subscript a b pos) (tOp r ta tb):=by intro pins s σ H Q I h;exact Subscript_ (binT ha hb I h λv u s2 x y H2 I2 rx ry q=>hr a b pins s2 σ H2 x y v u Q I2 rx ry q (hs _ _))
def rIxL(K:PySem.W.Frag):R2:=λx y H Q=>∃p xs i v,x=.ref p/\y=.int i/\SqL K H p xs/\atI xs i=some v/\Q v H
def rIxT(K:PySem.W.Frag):R2:=λx y H Q=>∃p xs i v,x=.ref p/\y=.int i/\SqT K H p xs/\atI xs i=some v/\Q v H
def rIxS:R2:=λx y H Q=>∃z i c,x=.str z/\y=.int i/\z.length<=sizeLine/\atI z.cps.toList i=some c/\Q (.str ⟨#[c]⟩) H
theorem LC:IxR X (rIxL X.K):=by
 intro value slice pins s σ H x y v u Q I rx ry h hs;obtain⟨p,xs,i,z,rfl,rfl,hq,he,q⟩:=h;cases rx;obtain⟨t,rfl⟩:=ry;obtain⟨its,r,pl,hz⟩:=I.list hq;obtain⟨j,h1,h2,h3,h4,h5⟩:=NM he;obtain⟨w,ew,rw'⟩:=r.get h2;have hl:=r.length;have hn:=J8;have fin:EP X pins σ Q w s:=⟨z,H,I,rw',q⟩;by_cases h0:0<=i
 ·have hj:i.toNat=j:=by rw[seqIndex_of h0 h5]at h1;exact Option.some.inj h1
  exact item_listR pl.isList h0 (by omega) (by rw[hj];simpa using ew) fin hs
 ·have hj:(i+(its.toArray.size:Int)).toNat=j:=by rw[seqIndex_neg (by omega) h4]at h1;rw[List.size_toArray,<-hl];exact Option.some.inj h1
  exact subscriptTail_builtinR (x:=w) pl.isList.typeIs slot_list_getitem.lookup (wpAny_getItem_list_neg (Q:=λr s'=>r=w/\EP X pins σ Q r s') pl.isList (by omega) (by rw[List.size_toArray]<;>omega) (by omega) (by rw[hj];simpa using ew) ⟨rfl,fin⟩) hs
theorem ZY:IxR X (rIxT X.K):=by intro value slice pins s σ H x y v u Q I rx ry h hs;obtain⟨p,xs,i,z,rfl,rfl,hq,he,q⟩:=h;cases rx;obtain⟨t,rfl⟩:=ry;obtain⟨its,r,pl,hz⟩:=I.tuple hq;obtain⟨j,h1,h2,h3,h4,h5⟩:=NM he;obtain⟨w,ew,rw'⟩:=r.get h2;have hl:=r.length;have hn:=J8;have fin:EP X pins σ Q w s:=⟨z,H,I,rw',q⟩;exact subscriptTail_builtinR (x:=w) pl.typeIs slot_tuple_getitem.lookup (getItem_tuple (j:=j) (Q:=λr s'=>r=w/\EP X pins σ Q r s') pl (by omega) (by omega) (by rw[List.size_toArray,<-hl];exact h1) (by simpa using ew) ⟨rfl,fin⟩) hs
theorem UT:IxR X rIxS:=by
 intro value slice pins s σ H x y v u Q I rx ry h hs;obtain⟨z,i,c,rfl,rfl,hz,he,q⟩:=h;obtain⟨t,rfl⟩:=rx;obtain⟨t',rfl⟩:=ry;obtain⟨j,h1,h2,h3,h4,h5⟩:=NM he;have hl:z.cps.toList.length=z.length:=by simp[Str.length]
 rw[hl]at h1 h4 h5;have hn:=J8;exact tail_any (typeIs_str s z t) slot_str_getitem.lookup (getItem_str (c:=c) (by have e1:decide (i < -(2 ^ 63:Int))=false:=decide_eq_false (by omega);have e2:decide (i >= 2 ^ 63)=false:=decide_eq_false (by omega);rw[e1,e2,Bool.or_false]) (by rw[h1];simpa using h2) ⟨.str ⟨#[c]⟩,H,I.tok _,⟨_,rfl⟩,q⟩) hs
theorem QJ(its:List Value)(n j:Nat)(u:Value):Obj.mapSeq (·.setIfInBounds j u) {cls:=.type "list",data:=.seq its.toArray n}={cls:=.type "list",data:=.seq (its.set j u).toArray n}:=by simp[Obj.mapSeq]
theorem Inv.lst{pins:List (Addr×Obj)}{σ:St}{H:Hp}{s:Shared}{p:Addr}{xs:List V}(I:Inv X pins σ H s)(h:H p=some (.lst xs)):∃(its:List Value)(n:Nat),Vals xs its/\s.heap.get? p=some {cls:=.type "list",data:=.seq its.toArray n}/\xs.length<=sizeLine:=by obtain⟨z,its,n,r,e⟩:=I.hok p _ h;exact⟨its,n,r,e,z⟩
theorem Inv.lstUpd{pins:List (Addr×Obj)}{σ:St}{H:Hp}{s:Shared}{p:Addr}{xs ys:List V}{its its':List Value}{n n':Nat}{f:Obj->Obj}(I:Inv X pins σ H s)(h:H p=some (.lst xs))(ho:s.heap.get? p=some {cls:=.type "list",data:=.seq its.toArray n})(hf:f {cls:=.type "list",data:=.seq its.toArray n}={cls:=.type "list",data:=.seq its'.toArray n'})(r:Vals ys its')(hz:ys.length<=sizeLine)(t:Nat):Inv X pins σ (upd H p (.lst ys)) {s with heap:=s.heap.update p f,toks:=t}:=by
 have e:(s.heap.update p f).get? p=some {cls:=.type "list",data:=.seq its'.toArray n'}:=by rw[Heap.get?_update_self f ho (by rw[hf]<;>rfl),hf]
 refine I.write (x:=p) (e:=p) (by rw[h];trivial) (.inl rfl) (λb u hb q=>(Heap.get?_update_other _ _ (Ne.symm hb)).trans q) ⟨_,e⟩ ?_;exact⟨hz,its',n',r,e⟩
noncomputable def EV:V->V->V->Hp->(Hp->Prop)->Prop:=λo i v H Q=>∃p xs k j,o=.ref p/\i=.int k/\H p=some (.lst xs)/\ixN xs.length k=some j/\Q (upd H p (.lst (xs.set j v)))
theorem set_list:PSet X EV:=by
 intro pins s σ H o i v ov iv u Q I ro ri rv h;obtain⟨p,xs,k,j,rfl,rfl,hp,hj,q⟩:=h;cases ro;obtain⟨t,rfl⟩:=ri;obtain⟨its,n,r,ho,hz⟩:=I.lst hp;obtain⟨h1,h2,h3,h4⟩:=RP hj;have hl:=r.length;have hn:=J8;have I':Inv X pins σ (upd H p (.lst (xs.set j v))) {s with heap:=s.heap.update p (Obj.mapSeq (·.setIfInBounds j u))}:=I.lstUpd hp ho (QJ its n j u) (r.set rv j) (by rw[List.length_set];exact hz) s.toks;by_cases h0:0<=k
 ·have hk:k.toNat=j:=by rw[seqIndex_of h0 h4]at h1;exact Option.some.inj h1
  exact PySem.W.ki_setAt ho h0 (by omega) (by rw[List.size_toArray,<-hl];exact h4) (by rw[hk];exact⟨_,I',q⟩)
 ·have hk:(k+(its.toArray.size:Int)).toNat=j:=by rw[seqIndex_neg (by omega) h3]at h1;rw[List.size_toArray,<-hl];exact Option.some.inj h1
  exact PySem.W.ki_setBack ho (by omega) (by rw[List.size_toArray,<-hl];exact h3) (by omega) (by rw[hk];exact⟨_,I',q⟩)
theorem Nh(lo hi:Option Int)(n:Nat):(sliceBounds lo hi none n).1=((HT.sIx n 0 lo:Nat):Int)/\(sliceBounds lo hi none n).2.1=((HT.sIx n n hi:Nat):Int)/\(sliceBounds lo hi none n).2.2=1:=by
 refine⟨?_,?_,rfl⟩
 ·cases lo with
 |none=>simp[sliceBounds,HT.sIx]
 |some i=>
   simp only[sliceBounds,HT.sIx,Option.getD_none,show(1:Int)>0 by decide,if_true];by_cases h:i<0
   ·simp only[h,if_true]<;>omega
   ·simp only[h,if_false]<;>omega
 ·cases hi with
 |none=>simp[sliceBounds,HT.sIx]
 |some i=>
   simp only[sliceBounds,HT.sIx,Option.getD_none,show(1:Int)>0 by decide,if_true];by_cases h:i<0
   ·simp only[h,if_true]<;>omega
   ·simp only[h,if_false]<;>omega
theorem My(its:List Value)(lo hi:Option Int):slicePick its.toArray lo hi none=((its.drop (HT.sIx its.length 0 lo)).take (HT.sIx its.length its.length hi-HT.sIx its.length 0 lo)).toArray:=by obtain⟨h1,h2,h3⟩:=Nh lo hi its.toArray.size;unfold slicePick;rw[h1,h2,h3];simp only[sliceRange_one,pick_run,List.size_toArray]<;>rfl
noncomputable def rSlL(K:PySem.W.Frag):V->Option Int->Option Int->Hp->VK->Prop:=λx lo hi H Q=>∃a xs,x=.ref a/\SqL K H a xs/\∀p,H p=none->Q (.ref p) (upd H p (.lst (cutV xs lo hi)))
theorem Jg:SlR X (rSlL X.K):=by intro pins s σ H x v vl vu lo hi sl Q I rx hs pl pu h;obtain⟨a,xs,rfl,hx,q⟩:=h;cases rx;obtain⟨its,r,ht,hz⟩:=I.list hx;have hlen:=r.length;refine⟨"list",_,slot_list_getitem.lookup,ht.isList.typeIs,?_⟩;refine wpAny_getItem_list_slice ht.isList hs pl pu .none (by simp) ?_ (by rw[List.size_toArray]<;>omega);rw[My,<-hlen];refine⟨.ref s.heap.objs.size,_,I.laid (t':=s.toks) (o:=.lst (cutV xs lo hi)) (λb ob q=>Heap.get?_push_of_some _ q) (Nat.le_refl _) ?_,rfl,q _ (I.hok.fresh (Nat.le_refl _))⟩;exact⟨Nat.le_trans (JH xs lo hi) hz,_,0,(r.drop (HT.sIx xs.length 0 lo)).take (HT.sIx xs.length xs.length hi-HT.sIx xs.length 0 lo),Heap.get?_push_size _ rfl⟩
noncomputable def Jt:V->Bool
|.non=>true
|.bl _=>true
|.int _=>true
|.str _=>true
|_=>false
noncomputable def eqV:V->V->Bool
|.non,.non=>true
|.bl a,.bl b=>a==b
|.bl a,.int b=>(if a then 1 else 0)==b
|.int a,.bl b=>a==(if b then 1 else 0)
|.int a,.int b=>a==b
|.str a,.str b=>a==b
|_,_=>false
theorem Ep{A:Around}{s:Shared}{y x:V}{u v:Value}(ry:RelV y u)(rx:RelV x v)(fy:Jt y=true)(fx:Jt x=true):SeqAt.EqAt A s u v (eqV y x):=by
 cases y with
|non=>
  cases ry;cases x with
 |non=>cases rx;exact SeqAt.EqAt.same _
 |bl b=>cases rx;exact SeqAt.EqAt.none_bool b
 |int b=>obtain⟨t,rfl⟩:=rx;exact SeqAt.EqAt.none_int b t
 |str b=>obtain⟨t,rfl⟩:=rx;exact SeqAt.EqAt.none_str b t
 |_=>exact absurd (show false=true from fx) Bool.false_ne_true
|bl a=>
  cases ry;cases x with
 |non=>cases rx;exact SeqAt.EqAt.bool_none a
 |bl b=>cases rx;exact SeqAt.EqAt.bool_bool a b
 |int b=>obtain⟨t,rfl⟩:=rx;exact SeqAt.EqAt.bool_int a b t
 |str b=>obtain⟨t,rfl⟩:=rx;exact SeqAt.EqAt.bool_str a b t
 |_=>exact absurd (show false=true from fx) Bool.false_ne_true
|int a=>
  obtain⟨t',rfl⟩:=ry;cases x with
 |non=>cases rx;exact SeqAt.EqAt.int_none a t'
 |bl b=>cases rx;exact SeqAt.EqAt.int_bool a t' b
 |int b=>obtain⟨t,rfl⟩:=rx;exact SeqAt.EqAt.int_int a t' b t
 |str b=>obtain⟨t,rfl⟩:=rx;exact SeqAt.EqAt.int_str a t' b t
 |_=>exact absurd (show false=true from fx) Bool.false_ne_true
|str a=>
  obtain⟨t',rfl⟩:=ry;cases x with
 |non=>cases rx;exact SeqAt.EqAt.str_none a t'
 |bl b=>cases rx;exact SeqAt.EqAt.str_bool a t' b
 |int b=>obtain⟨t,rfl⟩:=rx;exact SeqAt.EqAt.str_int a t' b t
 |str b=>obtain⟨t,rfl⟩:=rx;exact SeqAt.EqAt.str_str a t' b t
 |_=>exact absurd (show false=true from fx) Bool.false_ne_true
|_=>exact absurd (show false=true from fy) Bool.false_ne_true
noncomputable def eqU(x:V)(u:Value):Bool:=match u with
|.none=>eqV .non x
|.bool b=>eqV (.bl b) x
|.int i _=>eqV (.int i) x
|.str z _=>eqV (.str z) x
|_=>false
theorem Kf{x y:V}{u:Value}(r:RelV y u)(f:Jt y=true):eqU x u=eqV y x:=by
 cases y with
|non=>cases r;rfl
|bl b=>cases r;rfl
|int i=>obtain⟨t,rfl⟩:=r;rfl
|str z=>obtain⟨t,rfl⟩:=r;rfl
|_=>exact absurd (show false=true from f) Bool.false_ne_true
theorem NO{x:V}:∀{xs:List V}{us:List Value},Vals xs us->xs.all Jt=true->us.any (eqU x)=xs.any λy=>eqV y x
|_,_,.nil,_=>rfl
|y::xs,u::us,.cons r t,f=>by rw[List.all_cons,Bool.and_eq_true]at f;rw[List.any_cons,List.any_cons,Kf r f.1,NO t f.2]
theorem Mc{A:Around}{s:Shared}{x:V}{v:Value}(rx:RelV x v)(fx:Jt x=true):∀{xs:List V}{us:List Value},Vals xs us->xs.all Jt=true->∀u∈us,SeqAt.EqAt A s u v (eqU x u)
|_,_,.nil,_=>λu hu=>by cases hu
|y::xs,u::us,.cons r t,f=>λu' hu=>by
  rw[List.all_cons,Bool.and_eq_true]at f;rcases List.mem_cons.mp hu with rfl|hu
  ·rw[Kf r f.1];exact Ep r rx f.1 fx
  ·exact Mc rx fx t f.2 u' hu
noncomputable def inV(x:V)(xs:List V):Bool:=xs.any λy=>eqV y x
def rIn(K:PySem.W.Frag)(neg:Bool):R2:=λx y H Q=>∃p xs,y=.ref p/\(SqL K H p xs\/SqT K H p xs)/\Jt x=true/\xs.all Jt=true/\Q (.bl (if neg then !inV x xs else inV x xs)) H
theorem Sy:OpR X (compareOp .In) (rIn X.K false):=by
 intro pins s σ H x y v u Q I rx ry h;obtain⟨p,xs,rfl,hq,fx,fs,q⟩:=h;cases ry;rcases hq with hq|hq
 ·obtain⟨its,r,pl,hz⟩:=I.list hq;refine SeqAt.in_listAt (eqU x) pl.isList (λw hw=>Mc rx fx r fs w (by simpa using hw)) ⟨.bl _,H,I,rfl,?_⟩;rw[show its.toArray.any (eqU x)=its.any (eqU x) by simp,NO r fs];exact q
 ·obtain⟨its,r,pl,hz⟩:=I.tuple hq;refine SeqAt.in_tupleAt (eqU x) pl (λw hw=>Mc rx fx r fs w (by simpa using hw)) ⟨.bl _,H,I,rfl,?_⟩;rw[show its.toArray.any (eqU x)=its.any (eqU x) by simp,NO r fs];exact q
theorem Jr:YM X (.builtin "len") (λxs H Q=>∃p ys,xs=[.ref p]/\(SqL X.K H p ys\/SqT X.K H p ys)/\Q (.int ys.length) H):=by
 intro pins s σ H xs us Q I r h;obtain⟨p,ys,rfl,hq,q⟩:=h;obtain⟨u,rfl,rx⟩:=vals1 r;cases rx;have hn:=J8;rcases hq with hq|hq
 ·obtain⟨its,r',pl,hz⟩:=I.list hq;have hlen:=r'.length;exact Calls.call_len_list pl.isList (by simp only[List.size_toArray]<;>omega) ⟨.int ys.length,H,I.tok _,⟨s.toks+1,by rw[List.size_toArray,hlen]⟩,q⟩
 ·obtain⟨its,r',pl,hz⟩:=I.tuple hq;have hlen:=r'.length;exact len_tuple pl (by simp only[List.size_toArray]<;>omega) ⟨.int ys.length,H,I.tok _,⟨s.toks+1,by rw[List.size_toArray,hlen]⟩,q⟩
theorem NI:YM X (.type "list") (λxs H Q=>∃p ys,xs=[.ref p]/\(SqL X.K H p ys\/SqT X.K H p ys)/\∀l,H l=none->Q (.ref l) (upd H l (.lst ys))):=by
 intro pins s σ H xs us Q I r h;obtain⟨p,ys,rfl,hq,q⟩:=h;obtain⟨u,rfl,rx⟩:=vals1 r;cases rx;have fin:∀(its:List Value),Vals ys its->ys.length<=sizeLine->∀(h':Heap)(c':Nat),(∀b o',s.heap.get? b=some o'->h'.get? b=some o') ->h'.get? s.heap.objs.size=some {cls:=.type "list",dict:=none,data:=.seq its.toArray c',slots:=#[]}->EP X pins σ Q (.ref s.heap.objs.size) {s with heap:=h'}:=λits r' hz h' c' kp e=>⟨.ref s.heap.objs.size,_,I.laid (t':=s.toks) kp (Nat.le_refl _) (show ZJ X.prog X.w _ h' _ (.lst ys)from⟨hz,its,c',r',e⟩),rfl,q _ (I.hok.fresh (Nat.le_refl _))⟩;rcases hq with hq|hq
 ·obtain⟨its,r',pl,hz⟩:=I.list hq;have hlen:=r'.length;obtain⟨o,ho,hc,n,hd⟩:=pl.isList;exact call_list_seq p (.inl rfl) ho hc hd (λh' c' kp e=>fin its r' hz h' c' kp e) (by simp only[List.size_toArray]<;>omega)
 ·obtain⟨its,r',pl,hz⟩:=I.tuple hq;have hlen:=r'.length;obtain⟨o,ho,hc,n,hd⟩:=pl;exact call_list_seq p (.inr rfl) ho hc hd (λh' c' kp e=>fin its r' hz h' c' kp e) (by simp only[List.size_toArray]<;>omega)
theorem Yk:YM X (.type "tuple") (λxs H Q=>∃p ys,xs=[.ref p]/\((SqL X.K H p ys/\∀l,H l=none->Q (.ref l) (upd H l (.tup ys)))\/(SqT X.K H p ys/\Q (.ref p) H))):=by
 intro pins s σ H xs us Q I r h;obtain⟨p,ys,rfl,h⟩:=h;obtain⟨u,rfl,rx⟩:=vals1 r;cases rx;rcases h with⟨hq,q⟩|⟨hq,q⟩
 ·obtain⟨its,r',pl,hz⟩:=I.list hq;have hlen:=r'.length;refine call_tuple_list pl.isList (λh' kp=>?_) (by simp only[List.size_toArray]<;>omega);have I1:Inv X pins σ H {s with heap:=h'}:=I.kept (t':=s.toks) kp;have I2:Inv X pins σ (upd H h'.objs.size (.tup ys)) {s with heap:=h'.push {cls:=.type "tuple",data:=.seq its.toArray}}:=I1.laid (t':=s.toks) (λb o e=>Heap.get?_push_of_some _ e) (Nat.le_refl _) (show ZJ X.prog X.w _ _ _ (.tup ys)from⟨hz,its,r',IsTup.new _ _⟩);exact⟨.ref h'.objs.size,_,I2,rfl,q _ (I1.hok.fresh (Nat.le_refl _))⟩
 ·obtain⟨its,r',pl,hz⟩:=I.tuple hq;exact call_tuple_same pl ⟨.ref p,H,I,rfl,q⟩
def tyV(K:PySem.W.Frag)(T:String)(x:V)(H:Hp):Prop:=match x with
|.str _=>T="str"
|.int _=>T="int"
|.ref p=>(T="list"/\∃xs,SqL K H p xs)\/(T="tuple"/\∃o,K.lookup p=some o/\o.cls=.type "tuple"/\o.dict=none) \/(T="dict"/\((∃kvs,H p=some (.dK kvs))\/∃kvs,H p=some (.dT kvs)))\/(T="set"/\∃S n,H p=some (.set S n))
|_=>False
theorem Dq{pins:List (Addr×Obj)}{σ:St}{H:Hp}{s:Shared}{T:String}{x:V}{v:Value}(I:Inv X pins σ H s)(r:RelV x v)(ty:tyV X.K T x H):s.TypeIs v T/\∀a,v=.ref a->∃ob,s.heap.get? a=some ob/\ob.dict=none:=by
 cases x with
|str z=>obtain⟨t,rfl⟩:=r;cases(show T="str" from ty);exact⟨typeIs_str s z t,λ_ e=>nomatch e⟩
|int i=>obtain⟨t,rfl⟩:=r;cases(show T="int" from ty);exact⟨typeIs_int s i t,λ_ e=>nomatch e⟩
|ref p=>
  cases r;rcases ty with⟨rfl,xs,hq⟩|⟨rfl,o,hk,hc,hd⟩|⟨rfl,hk⟩|⟨rfl,S,n,hk⟩
  ·obtain⟨its,_,pl,_⟩:=I.list hq;refine⟨pl.isList.typeIs,λa e=>?_⟩;cases e;obtain⟨o,n,e,c,hd,_⟩:=pl;exact⟨o,e,hd⟩
  ·refine⟨⟨o,I.kIn p o hk,hc⟩,λa e=>?_⟩;cases e;exact⟨o,I.kIn _ o hk,hd⟩
  ·have z:∃o,s.heap.get? p=some o/\o.ExactDict:=by
    rcases hk with⟨kvs,hk⟩|⟨kvs,hk⟩
    ·obtain⟨_,_,_,_,o,_,_,e,ex,_⟩:=I.hok p _ hk;exact⟨o,e,ex⟩
    ·obtain⟨_,_,_,_,o,_,_,e,ex,_⟩:=I.hok p _ hk;exact⟨o,e,ex⟩
   obtain⟨o,e,ex⟩:=z;refine⟨⟨o,e,ex.1⟩,λa e2=>?_⟩;cases e2;exact⟨o,e,ex.2.1⟩
  ·obtain⟨o,_,_,_,e,ex,_⟩:=I.hok p _ hk;refine⟨⟨o,e,ex.1⟩,λa e2=>?_⟩;cases e2;exact⟨o,e,ex.2.1⟩
|_=>exact False.elim ty
def tBM(K:PySem.W.Frag)(T:String)(r:V->List V->Hp->VK->Prop)(to:TE)(t:TA):TE:=λσ H Q=>to σ H λx H1=>tyV K T x H1/\t σ H1 λxs H2=>r x xs H2 Q
variable {o e:Expr}{es:List Expr}{to:TE}{t:TA}{name:Str}{apos cpos:Pos}{T id:String}{r:V->List V->Hp->VK->Prop}
theorem Yq(pa:PlainAttrs T)(slot:Slot T name id)(hty:typeOf (.builtin id)=pure (.type "method_descriptor"))(hm:MtR X id r)(ho:PE X o to)(ha:PA X (e::es) t)(hbase:attributeBase o name X.env (eval o X.env)=eval o X.env:=by rfl)(hfew:((backTo cpos (starEach (e::es) X.env)).all (λx=>!x.1)&&(backToKw cpos (keywordEach [] X.env)).all (λx=>x.1.isSome)&&decide ((e::es).length+([]:List Keyword).length+(if([]:List Keyword).isEmpty then 0 else 1)<30))=true:=by rfl)(hline:(apos.endLine==cpos.line)=true:=by rfl)(hs:starEach (e::es) X.env=(false,eval e X.env)::starEach es X.env:=by rfl)(hplain:(backTo cpos (starEach es X.env)).any (·.1)=false:=by rfl):PE X (.Call (.Attribute o name apos) (e::es) [] cpos) (tBM X.K T r to t):=by
 intro pins s σ H Q I h;refine wpAny_Call_method_late hbase hfew hline rfl (thn (ho pins s σ H _ I h) λv s1⟨x,H1,I1,r1,ty,q1⟩=>?_);obtain⟨h1,h2⟩:=Dq I1 r1 ty;refine⟨T,id,pa,slot,hty,h1,h2,?_⟩;have hA:=ha cpos pins s1 σ H1 _ I1 q1;rw[hs]at hA ⊢;refine Calls.callWith_builtin (by show(false||(backTo cpos (starEach es X.env)).any (·.1))=false;rw[hplain]<;>rfl) (Calls.evalArgs_plain ?_)
 exact thn hA λus s2⟨vs,H2,I2,r2,q2⟩=>hm pins s2 σ H2 x vs v us Q I2 r1 r2 q2
end
open PySem PySem.Spec PyProof.Rows
def MtM(X:Cx)(id:String)(r:V->List V->Hp->VK->Prop):Prop:=∀(pins:List (Addr×Obj))(s:Shared)(σ:St)(H:Hp)(x:V)(xs:List V)(v:Value)(us:List Value)(Q:VK),Inv X pins σ H s->RelV x v->Vals xs us->r x xs H Q ->wpAny (model X.prog X.w) X.A (call (.builtin id) (v::us)) (EP X pins σ Q) X.xe s
theorem Vals.one:∀{x:V}{us:List Value},Vals [x] us->∃u,us=[u]/\RelV x u
|_,_,.cons r .nil=>⟨_,rfl,r⟩
theorem Vals.zero:∀{us:List Value},Vals [] us->us=[]
|_,.nil=>rfl
theorem Vals.eraseIdx:∀{xs:List V}{us:List Value}(i:Nat),Vals xs us->Vals (xs.eraseIdx i) (us.eraseIdx i)
|_,_,_,.nil=>.nil
|_,_,0,.cons _ t=>t
|_,_,i+1,.cons r t=>.cons r (Vals.eraseIdx i t)
theorem MK{α:Type}:∀(l:List α)(i:Nat),(l.eraseIdx i).length<=l.length
|[],_=>Nat.le_refl _
|_::_,0=>Nat.le_succ _
|_::r,i+1=>Nat.succ_le_succ (MK r i)
section
variable {X:Cx}{pins:List (Addr×Obj)}{σ:St}{H:Hp}{s:Shared}{l b:Addr}{xs ys zs:List V}
theorem Inv.lset{its its':List Value}{n:Nat}{f:Array Value->Array Value}{t':Nat}(I:Inv X pins σ H s)(hH:H l=some (.lst xs))(e:s.heap.get? l=some {cls:=.type "list",data:=.seq its.toArray n})(hf:f its.toArray=its'.toArray)(hv:Vals ys its')(hz:ys.length<=sizeLine):Inv X pins σ (upd H l (.lst ys)) {s with heap:=s.heap.update l (Obj.mapSeq f),toks:=t'}:=by have q:=PySem.IsL.update e f;rw[hf]at q;refine I.write (x:=l) (e:=l) (by rw[hH];exact trivial) (.inl rfl) (λb' u hb hu=>(Heap.get?_update_other s.heap (Obj.mapSeq f) (Ne.symm hb)).trans hu) ⟨_,q⟩ ?_;exact⟨hz,its',_,hv,q⟩
theorem Inv.lnew{its:List Value}{t':Nat}(I:Inv X pins σ H s)(hv:Vals ys its)(hz:ys.length<=sizeLine):Inv X pins σ (upd H s.heap.objs.size (.lst ys)) {s with heap:=s.heap.push {cls:=.type "list",data:=.seq its.toArray},toks:=t'}:=I.laid (λ_ _ q=>Heap.get?_push_of_some _ q) (Nat.le_refl _) ⟨hz,its,0,hv,Heap.get?_push_size _ rfl⟩
theorem Inv.fresh(I:Inv X pins σ H s):H s.heap.objs.size=none:=I.hok.fresh (Nat.le_refl _)
theorem Inv.lstM(I:Inv X pins σ H s)(hH:H l=some (.lst xs)):xs.length<=sizeLine/\∃(its:List Value)(n:Nat),Vals xs its/\xs.length=its.length/\s.heap.get? l=some {cls:=.type "list",data:=.seq its.toArray n}:=by obtain⟨z,its,n,r,e⟩:=I.hok l _ hH;exact⟨z,its,n,r,r.length,e⟩
theorem WZ{n:Nat}(h:n<=sizeLine):Builtin.List.listTooLong n=false:=by unfold Builtin.List.listTooLong;exact decide_eq_false (by omega)
end
section
variable {X:Cx}
noncomputable def RF:V->List V->Hp->VK->Prop:=λx vs H Q=>∃l xs y,x=.ref l/\vs=[y]/\H l=some (.lst xs)/\xs.length<sizeLine/\Q .non (upd H l (.lst (xs++[y])))
theorem YA:MtM X "list.append" RF:=by intro pins s σ H x vs v us Q I rx rv h;obtain⟨l,xs,y,rfl,rfl,hH,hz,q⟩:=h;cases rx;obtain⟨u,rfl,ru⟩:=rv.one;obtain⟨z,its,n,r,hl,e⟩:=I.lstM hH;refine call_meets F.slot_list_append ⟨_,e,rfl⟩ F.entry_list_append (F.args_list_append_2 _ _) (PySem.list_append l its.toArray n u (by rw[List.size_toArray];omega)) ⟨e,?_⟩;refine⟨.non,_,I.lset (its':=its++[u]) hH e (by simp) (r.append (.cons ru .nil)) ?_,rfl,q⟩;rw[List.length_append,List.length_singleton];omega
noncomputable def Lb:V->List V->Hp->VK->Prop:=λx vs H Q=>∃l b xs zs,x=.ref l/\vs=[.ref b]/\H l=some (.lst xs)/\H b=some (.lst zs)/\xs.length+zs.length<=sizeLine/\Q .non (upd H l (.lst (xs++zs)))
theorem JP:MtM X "list.extend" Lb:=by
 intro pins s σ H x vs v us Q I rx rv h;obtain⟨l,b,xs,zs,rfl,rfl,hH,hB,hz,q⟩:=h;cases rx;obtain⟨u,rfl,ru⟩:=rv.one;cases ru;obtain⟨z,its,n,r,hl,e⟩:=I.lstM hH;obtain⟨z2,its2,n2,r2,hl2,e2⟩:=I.lstM hB;have hsz:its.toArray.size+its2.toArray.size<=sizeLine:=by rw[List.size_toArray,List.size_toArray];omega
 have hlong:¬(!its.toArray.isEmpty&&Builtin.List.listTooLong (its.toArray.size+its2.toArray.size))=true:=by rw[WZ hsz,Bool.and_false];exact Bool.false_ne_true
 refine call_meets F.slot_list_extend ⟨_,e,rfl⟩ F.entry_list_extend (F.args_list_extend_2 _ _) (AutoSeq1.list_extend_list_list_0 l its.toArray n b its2.toArray n2 hlong (by rw[List.size_toArray];omega) (by omega)) ⟨e,e2,?_⟩;refine⟨.non,_,I.lset (its':=its++its2) hH e (by simp) (r.append r2) ?_,rfl,q⟩;rw[List.length_append];omega
noncomputable def DH:V->List V->Hp->VK->Prop:=λx vs H Q=>∃l xs i k y,x=.ref l/\vs=[.int i]/\H l=some (.lst xs)/\-(2 ^ 63)<=i/\i<2 ^ 63/\seqIndex? i xs.length=some k/\xs[k]?=some y/\Q y (upd H l (.lst (xs.eraseIdx k)))
theorem W3:MtM X "list.pop" DH:=by
 intro pins s σ H x vs v us Q I rx rv h;obtain⟨l,xs,i,k,y,rfl,rfl,hH,h1,h2,hk,hy,q⟩:=h;cases rx;obtain⟨u,rfl,ru⟩:=rv.one;obtain⟨t,rfl⟩:=ru;obtain⟨z,its,n,r,hl,e⟩:=I.lstM hH;obtain⟨w,hw,rw'⟩:=r.get hy;refine call_meets F.slot_list_pop ⟨_,e,rfl⟩ F.entry_list_pop (F.args_list_pop_2 _ _) (MeetsSeq.list_pop_at l its.toArray n i t k w (fitsIndex_both h1 h2) (by rw[List.size_toArray,<-hl];exact hk) (by rw[<-Array.getElem?_toList];exact hw) (by rw[List.size_toArray];omega)) ⟨e,?_⟩;refine⟨y,_,I.lset (its':=its.eraseIdx k) hH e ?_ (r.eraseIdx k) ?_,rw',q⟩
 ·show its.toArray.eraseIdxIfInBounds k=(its.eraseIdx k).toArray;rw[List.eraseIdxIfInBounds_toArray]
 ·have:=MK xs k;omega
def rCat:R2:=λx y H Q=>∃l b xs zs,x=.ref l/\y=.ref b/\H l=some (.lst xs)/\H b=some (.lst zs)/\xs.length+zs.length<=sizeLine/\∀p,H p=none->Q (.ref p) (upd H p (.lst (xs++zs)))
theorem Nz:OpR X (binaryOp .Add) rCat:=by
 intro pins s σ H x y v u Q I rx ry h;obtain⟨l,b,xs,zs,rfl,rfl,hH,hB,hz,q⟩:=h;cases rx;cases ry;obtain⟨z,its,n,r,hl,e⟩:=I.lstM hH;obtain⟨z2,its2,n2,r2,hl2,e2⟩:=I.lstM hB;refine PySem.P.add_list e e2 ?_ (by rw[List.size_toArray,List.size_toArray];omega);have ea:its.toArray++its2.toArray=(its++its2).toArray:=by simp
 rw[ea];exact⟨.ref _,_,I.lnew (t':=s.toks) (r.append r2) (by rw[List.length_append];omega),rfl,q _ I.fresh⟩
end
end L2
namespace Att
open PySem PySem.W PySem.Calls PyProof.Rows
theorem Gp{P:Params}{h:Heap}:∀(ns:List Int)(vs:List Value),WellAll P h vs (ns.map WData.int)->IntsAre vs ns:=by
 intro ns;induction ns with
|nil=>intro vs w;rw[List.map_nil]at w;cases w;exact .nil
|cons n ns ih=>
  intro vs w;rw[List.map_cons]at w;cases w with
 |cons a b=>cases a;exact .cons _ _ (ih _ b)
theorem Sj{l:OpenLaw}{n:Nat}(hn:l.most=some n){P:Params}{h:Heap}{args:List WData}{vals:List Value}(hpre:l.row.toRowW.claim.pre args=true)(hwl:WellAll P h vals args):∃a vs ns,vals=[Value.ref a]/\args=[WData.list (ns.map WData.int)]/\h.get? a=some {cls:=.type "list",data:=.seq vs.toArray}/\IntsAre vs ns/\ns.length<=n:=by
 have hsh:WShape.hasAll [] args [.list .int]=true:=(pre_splitW hpre).1;have hc:l.pre.holds [] {args:=args}=true:=(pre_splitW hpre).2;obtain⟨d,r,rfl,h1,h2⟩:=hasAllW_cons hsh;obtain rfl:=hasAllW_nil h2;obtain⟨xs,rfl,h3⟩:=hasW_list h1;obtain⟨ns,rfl⟩:=items_int h3;have hlen:ns.length<=n:=by
  unfold OpenLaw.pre at hc;have h4:(WTm.not (.lt (.lit (.int (n:Int))) (.len (.arg 0)))).holds [] {args:=[.list (ns.map .int)]}=true:=by have h4:=(holds_andW hc).1;rw[hn]at h4;exact h4
  have h5:=condW_of h4 (w_not (w_lt w_lit (w_len_list (w_arg rfl))));rw[List.length_map]at h5;refine Nat.le_of_not_lt λq=>?_;have q':(n:Int)<((ns.length:Nat):Int):=by omega
  first
  |(rw[decide_eq_true q']at h5;exact absurd h5 (by decide))
  |(simp at h5;omega)
 cases hwl with
|cons w1 w2=>
  cases w2;cases w1 with
 |list ho hall=>exact⟨_,_,ns,rfl,rfl,ho,Gp ns _ hall,hlen⟩
theorem Sv(l:OpenLaw)(args:List WData):l.row.toRowW.claim.post args (.bool true) args=true:=postW_of (r:=l.row.toRowW) (X:=(true==true)) (show WShape.has [] (.bool true) .bool=true by first|rfl|decide|simp[WShape.has,WShape.arms,WShape.armsAll]) (show(WTm.eq .res (.lit (.bool true))).value [] {args:=args,res:=some (.bool true),after:=args}=some (.bool (true==true))from w_eq_bool (w_res rfl) w_lit) rfl
theorem attach_call{l:OpenLaw}{n:Nat}{q:Program}{loose:List Str}{XP:(Str->Option Value)->Heap->Prop}{YP:World->Heap->Prop}{d:DefRec}(hn:l.most=some n)(hdf:d.params.defaults=[])(call:∀(w:World)(s₀ s₁:Shared)(mg mb:Str->Option Value)(fa:Addr)(o:Obj)(pm cd doc:Value)(a:Addr)(vs:List Value)(ns:List Int),Ground q loose [] XP w s₀ mg mb s₁.heap->YP w s₁.heap ->s₁.heap.get? fa=some o->o.data=.func (docDef d.name d.params d.body d.scope pm cd doc)->s₁.heap.CodeRec cd d.name->mg d.name=some (.ref fa) ->s₁.heap.get? a=some {cls:=.type "list",data:=.seq vs.toArray}->IntsAre vs ns->ns.length<=n->s₁.gens=#[] ->codeAny (model l.prog w) callerA (.call (.ref fa) ⟨[.ref a],[]⟩) (λr s'=>r=.ok (.ret (.bool true))/\OldK s₁.heap s'.heap/\s'.os=s₁.os/\AllBare s'.gens) s₁):WalkO q loose XP YP l.row.toRowW d [] (λf vs=>PySem.call f vs):=by intro w s₀ s₁ mg mb G Y fa o pm cd doc dV kV ho hd hcd hD hmg hg args vals as hpre hlay hrd hwl hlo;obtain rfl:dV=.none:=Dflts.none hD hdf;obtain rfl:kV=.none:=Dflts.noKw hD;obtain⟨a,vs,ns,rfl,rfl,hobj,hints,hlen⟩:=Sj hn hpre hwl;refine enter_call (codeAny_mono (call w s₀ s₁ mg mb fa o pm cd doc a vs ns G Y ho (fd_plain hd) hcd hmg hobj hints hlen hg) λr s' hq=>?_);obtain⟨rfl,h2,h3,h4⟩:=hq;exact⟨.inl ⟨.bool true,.bool true,[],rfl,λ_=>rfl,.bool true,Sv l _,λ_=>⟨List.Pairwise.nil,λ_ hm=>(nomatch hm)⟩⟩,h2,h3,h4⟩
end Att
namespace L2
open PySem PySem.Spec PyProof.Rows
theorem ME:∀{vs:List Value}{ns:List Int},IntsAre vs ns->Vals (ns.map V.int) vs
|_,_,.nil=>.nil
|_,_,.cons n t h=>.cons ⟨t,rfl⟩ (ME h)
def Only(H:Hp):Prop:=∀b,H b=none\/∃o xs,H b=some (.frz o (.lst xs))
theorem W5{P:Program}{w:World}{K:PySem.W.Frag}{mg mb:Str->Option Value}{CX:CXT}{k:Nat}{fa a:Addr}{fd:FuncData}{x:Str}{sp:Sp}{s₁:Shared}{vs:List Value}{ns:List Int}(KX:K.In s₁.heap)(hns:s₁.heap.Ns mainGlobals mg)(hb:s₁.heap.Ns builtinsNs mb)(hbb:∀x:Str,x≠"__name__"->mb x=bootBuiltins x)(hlim:s₁.heap.NoLimit)(hg:s₁.gens=#[])(ha:s₁.heap.get? a=some {cls:=.type "list",data:=.seq vs.toArray})(hi:IntsAre vs ns)(hl:ns.length<=sizeLine)(hr:Room k callerA)(F:∀base:Heap,K.In base->base.Ns mainGlobals mg->FnOk P w K mg base CX k fa fd [x] sp)(hbind:∀(s:Shared)(u:Value),BindsTo s fd ⟨[u],[]⟩ [(x,u)])(hsp:∀H:Hp,Only H->SqL K H a (ns.map V.int)->sp [.ref a] H (λv _=>v=.bl true) λ_ _ _=>False)(hCX:∀H e s',CX [] H s₁ (λ_ _ _=>False) e s'->False):codeAny (model P w) callerA (.call (.ref fa) ⟨[.ref a],[]⟩) (λr s'=>r=.ok (.ret (.bool true))/\OldK s₁.heap s'.heap/\s'.os=s₁.os/\AllBare s'.gens) s₁:=by
 have rv:=ME hi;have lenV:=hi.length;have core:∀H:Hp,Only H->SqL K H a (ns.map V.int)->HOk P w H s₁.heap->(∀b,H b≠none->b=a)->(H a≠none->K.lookup a=none) ->codeAny (model P w) callerA (.call (.ref fa) ⟨[.ref a],[]⟩) (λr s'=>r=.ok (.ret (.bool true))/\OldK s₁.heap s'.heap/\s'.os=s₁.os/\AllBare s'.gens) s₁:=by
  intro H hO hS hok hA hK;have base_of:∀{b:Addr}{o:Obj},s₁.heap.get? b=some o->H b=none->(hidT s₁.heap H).get? b=some o:=λe n=>Kb e n;have noA:∀{b:Addr}{o:Obj}{es:Array DictEntry}{ep:Nat},s₁.heap.get? b=some o->o.data=.dict es ep->H b=none:=λ{b o es ep}e d=>by
   cases q:H b with
  |none=>rfl
  |some u=>have e':b=a:=hA b (by rw[q];simp);subst e';rw[ha]at e;cases e;have d':Data.seq vs.toArray _=Data.dict es ep:=d;cases d'
  have nsK:∀{b:Addr}{m:Str->Option Value},s₁.heap.Ns b m->(hidT s₁.heap H).Ns b m:=λ{b m}⟨o,es,ep,e,d,r⟩=>⟨o,es,ep,base_of e (noA e d),d,r⟩;have hKb:K.In (hidT s₁.heap H):=λb o e=>base_of (KX b o e) (by
   cases q:H b with
  |none=>rfl
  |some u=>have e':b=a:=hA b (by rw[q];simp);subst e';rw[hK (by rw[q];simp)]at e;cases e)
  have hM:Mod K mg (hidT s₁.heap H):=⟨hKb,nsK hns,⟨mb,nsK hb,hbb⟩,let ⟨mc,h1,h2⟩:=hlim;⟨mc,nsK h1,h2⟩⟩;have e0:Env0 P w K mg (hidT s₁.heap H) callerA [] s₁ H:=⟨rfl,hM,λb o e=>Lo e,Nat.le_of_eq (SJ _ _),trivial,λb hb=>absurd (show b∈([]:List Addr)from hb) (by simp),hok,.of_eq hg⟩;refine codeAny_mono ((F _ hKb (nsK hns)).run callerA [] s₁ H ⟨[.ref a],[]⟩ [.ref a] [.ref a] _ _ hr e0 (hbind s₁ (.ref a)) (.cons rfl .nil) (hsp H hO hS)) λr s' h=>?_;cases r with
 |error e=>exact(hCX H e s' h).elim
 |ok fl=>
   cases fl with
  |next=>exact False.elim h
  |brk=>exact False.elim h
  |cont=>exact False.elim h
  |ret u=>
    obtain⟨v,H',os,bare,un,hok',r',q⟩:=h;have q':v=.bl true:=q;subst q';obtain rfl:u=Value.bool true:=r';refine⟨rfl,OldK.of_keep λb o e=>?_,os,bare⟩;cases q:H b with
   |none=>exact un.keep b o e q (by intro z;exact absurd (show b∈([]:List Addr)from z) (by simp)) (by simp)
   |some u=>
     rcases hO b with z|⟨ob,xs,z⟩
     ·rw[q]at z;cases z
     ·have z2:=un.frzs b ob _ z;obtain⟨e1,_⟩:=hok b _ z;obtain⟨e2,_⟩:=hok' b _ z2;rw[e]at e1;cases e1;exact e2
 cases hk:K.lookup a with
|some o=>have e:=KX a o hk;rw[ha]at e;cases e;refine core (λ_=>none) (λ_=>.inl rfl) (.inr ⟨_,vs.toArray,_,hk,rfl,rfl,rfl,by rw[List.size_toArray,lenV];exact hl,by simpa using rv⟩) (λb u z=>by have z':(none:Option HO)=some u:=z;cases z') (λb z=>absurd rfl z) λz=>absurd rfl z
|none=>
  refine core (λb=>if b=a then some (.frz {cls:=.type "list",data:=.seq vs.toArray} (.lst (ns.map V.int)))else none) (λb=>?_) (.inl (.inr ⟨{cls:=.type "list",data:=.seq vs.toArray},if_pos rfl⟩)) (λb u z=>?_) (λb z=>?_) λ_=>hk
  ·by_cases hb:b=a
   ·exact .inr ⟨_,_,if_pos hb⟩
   ·exact .inl (if_neg hb)
  ·by_cases hb:b=a
   ·have z':=(if_pos hb).symm.trans z;cases z';subst hb;exact⟨ha,by rw[List.length_map];exact hl,vs,_,rv,ha⟩
   ·have z':=(if_neg hb).symm.trans z;cases z'
  ·by_cases hb:b=a
   ·exact hb
   ·exact absurd (if_neg hb) z
open PySem PySem.Spec PyProof.Rows
noncomputable abbrev KOf{K:PySem.W.Frag}{h:Heap}(_:K.In h):PySem.W.Frag:=K
theorem KR{l:PySem.W.OpenLaw}{n k:Nat}{q:Program}{loose:List Str}{XP:(Str->Option Value)->Heap->Prop}{YP:World->Heap->Prop}{d:DefRec}{K:Params->PySem.W.Frag}{CX:World->CXT}{sp:World->Sp}{x:Str}(hn:l.most=some n)(hn2:n<=sizeLine)(hdf:d.params.defaults=[])(hr:Room k callerA)(hY:∀(w:World)(h:Heap),YP w h->(K w.params).In h)(F:∀(w:World)(mg:Str->Option Value)(fa:Addr)(h:Heap),(K w.params).In h->h.Ns mainGlobals mg->mg d.name=some (.ref fa) ->∃fd:FuncData,(∀(s:Shared)(u:Value),BindsTo s fd ⟨[u],[]⟩ [(x,u)]) /\∀base:Heap,(K w.params).In base->base.Ns mainGlobals mg->FnOk l.prog w (K w.params) mg base (CX w) k fa fd [x] (sp w))(hsp:∀(w:World)(H:Hp)(a:Addr)(ns:List Int),ns.length<=n->Only H->SqL (K w.params) H a (ns.map V.int)->sp w [.ref a] H (λv _=>v=.bl true) λ_ _ _=>False)(hCX:∀(w:World)(H:Hp)(s:Shared)(e:Value)(s':Shared),CX w [] H s (λ_ _ _=>False) e s'->False):PySem.W.WalkO q loose XP YP l.row.toRowW d [] (λf vs=>PySem.call f vs):=by refine Att.attach_call hn hdf λw s₀ s₁ mg mb fa o pm cd doc a vs ns G Y ho hd hcd hmg hobj hints hlen hg=>?_;have KX:=hY w _ Y;obtain⟨fd,hb,hF⟩:=F w mg fa _ KX G.T.g hmg;exact W5 KX G.T.g G.T.b G.T.builtins G.T.nolimit hg hobj hints (Nat.le_trans hlen hn2) hr hF hb (λH hO hS=>hsp w H a ns hlen hO hS) λH e s'=>hCX w H s₁ e s'
open PySem PySem.Spec PyProof.Rows
noncomputable def inClass(s:Stmt)(j:Nat):Stmt:=match s with
|.ClassDef _ _ _ body _ _ _ _ _ _ _=>body.getD j (.Pass ⟨0,0,0,0⟩)
|_=>.Pass ⟨0,0,0,0⟩
noncomputable def YD(s:Stmt):Arguments:=match s with
|.FunctionDef _ a _ _ _ _ _ _ _ _=>a
|_=>{posonlyargs:=[],args:=[],vararg:=none,kwonlyargs:=[],kw_defaults:=[],kwarg:=none,defaults:=[]}
noncomputable def ZX(s:Stmt):List Stmt:=match s with
|.FunctionDef _ _ b _ _ _ _ _ _ _=>b
|_=>[]
noncomputable def Zg(s:Stmt):Scope:=match s with
|.FunctionDef _ _ _ _ _ _ sc _ _ _=>sc
|_=>{kind:=.function,names:=[],isGenerator:=false,isCoroutine:=false}
noncomputable abbrev CX0:CXT:=λ_ _ _ _ _ _=>False
abbrev E0:XK:=λ_ _ _=>False
theorem VJ{X:Cx}:Passes CX0 X E0:=λ_ _ _ _ _ _ _ h=>h.elim
structure Fun(K:PySem.W.Frag)(x qual:Str)(st:Stmt)(f:Addr)(fd:FuncData):Prop where
 ex:∃(oc:Value)(od:Option Addr)(kV doc pm:Value)(an:Option Addr)(cdv ct:Value)(osl:Array (Option Value)),
  fd=PySem.W.fnOf x qual (YD st) (ZX st) (Zg st) .none kV doc pm an cdv ct/\K.lookup f=some ⟨oc,od,.func fd,osl⟩/\PySem.W.codeIn K cdv qual=true
 kp:PySem.W.keepIn K (.ref f)=true
section
variable {P:Program}{w:World}{K:PySem.W.Frag}{mg:Str->Option Value}{base:Heap}
theorem Fun.ok{x qual:Str}{st:Stmt}{f:Addr}{fd:FuncData}{N ps:List Str}{k:Nat}{sp:Sp}(F:Fun K x qual st f fd)(S:FnScope N ps (Zg st))(len:∀vs H Q E,sp vs H Q E->vs.length=ps.length)(hbody:∀(cdv:Value)(A:Around)(outer:List Env)(s:Shared)(H:Hp)(vs:List V)(Q:VK)(E:XK),Room k (A.deeper (envOfC qual (Zg st) s.heap.objs.size f cdv))->sp vs H Q E ->∃t,PSs (cxOf CX0 P w K mg base N qual (Zg st) f cdv A outer s H E).nox (ZX st) t/\t {nx:=λ_ H'=>Q .non H',rt:=Q} (start N vs) H):FnOk P w K mg base CX0 (k+1) f fd ps sp:=by obtain⟨oc,od,kV,doc,pm,an,cdv,ct,osl,rfl,lk,hcd⟩:=F.ex;refine Dh lk hcd S len λA outer s H vs Q E hr hsp=>?_;obtain⟨t,h,q⟩:=hbody cdv A outer s H vs Q E hr hsp;exact⟨t,h.nox,q⟩
theorem Fun.binds{x qual:Str}{st:Stmt}{f:Addr}{fd:FuncData}{ps:List Str}(F:Fun K x qual st f fd)(h:∀(kV doc pm:Value)(an:Option Addr)(cdv ct:Value)(us:List Value),us.length=ps.length->bindArgs (PySem.W.fnOf x qual (YD st) (ZX st) (Zg st) .none kV doc pm an cdv ct) ⟨us,[]⟩=pure (ps.zip us)):Binds K fd ps []:=by obtain⟨oc,od,kV,doc,pm,an,cdv,ct,osl,rfl,lk,hcd⟩:=F.ex;exact .all (h kV doc pm an cdv ct)
theorem Va{x qual:Str}{st:Stmt}{f:Addr}{oc:Value}{od an:Option Addr}{osl:Array (Option Value)}{kV doc pm cdv ct:Value}(l:K.lookup f=some ⟨oc,od,.func (PySem.W.fnOf x qual (YD st) (ZX st) (Zg st) .none kV doc pm an cdv ct),osl⟩)(c:PySem.W.codeIn K cdv qual=true)(k:PySem.W.keepIn K (.ref f)=true):Fun K x qual st f (PySem.W.fnOf x qual (YD st) (ZX st) (Zg st) .none kV doc pm an cdv ct):=⟨⟨oc,od,kV,doc,pm,an,cdv,ct,osl,rfl,l,c⟩,k⟩
end
theorem YO{A:Around}{k:Nat}(hr:Room k A):A.units+1<cLine:=Nat.lt_of_le_of_lt (Nat.add_le_add_left (by decide:1<=64) _) hr.units
theorem Z4{n:Nat}(h:n<=1000):n<sizeLine:=Nat.lt_of_le_of_lt h (by decide)
section
variable {X:Cx}
theorem pv(i:Nat){x:Str}{pos:Pos}(hN:X.N[i]?=some x:=by rfl)(hv:Vis X.env.scope x:=by first|exact Or.inl rfl|exact Or.inr (Or.inl rfl)|exact Or.inr (Or.inr rfl))(hd:(x==("__debug__":Str))=false:=by decide)(hcd:(x==("__classdict__":Str))=false:=by decide):PE X (.Name x pos) (tVar i):=J7 hN hv hd hcd
end
theorem iteF{A B:Prop}(h:B):if false=true then A else B:=by rw[if_neg Bool.false_ne_true];exact h
theorem iteT{A B:Prop}(h:A):if true=true then A else B:=by rw[if_pos rfl];exact h
theorem ite2{c A B:Prop}[Decidable c](h1:c->A)(h2:¬c->B):if c then A else B:=by
 by_cases h:c
 ·rw[if_pos h];exact h1 h
 ·rw[if_neg h];exact h2 h
def Same(H H':Hp):Prop:=∀b o,H b=some o->H' b=some o
theorem Same.refl(H:Hp):Same H H:=λ_ _ h=>h
theorem Same.trans{H H1 H2:Hp}(a:Same H H1)(b:Same H1 H2):Same H H2:=λc o h=>b c o (a c o h)
open PySem PySem.Spec PyProof.Rows
section
variable {κ:Type}[DecidableEq κ]
noncomputable def valV(kvs:List (κ×V))(k:κ):Option V:=(kvs.find? λkv=>decide (kv.1=k)).map (·.2)
noncomputable def putK(kvs:List (κ×V))(k:κ)(v:V):List (κ×V):=if(kvs.any λkv=>decide (kv.1=k))=true then kvs.map (λkv=>if kv.1=k then(kv.1,v)else kv)else kvs++[(k,v)]
theorem Yt{p:κ×V}{r:List (κ×V)}{k:κ}(e:p.1=k):valV (p::r) k=some p.2:=by simp[valV,List.find?_cons,e]
theorem Yu{p:κ×V}{r:List (κ×V)}{k:κ}(e:¬p.1=k):valV (p::r) k=valV r k:=by simp[valV,List.find?_cons,e]
theorem VA(k:κ):∀kvs:List (κ×V),(kvs.any λkv=>decide (kv.1=k))=(valV kvs k).isSome
|[]=>rfl
|p::r=>by
  rw[List.any_cons];by_cases e:p.1=k
  ·simp only[Yt e,decide_eq_true e,Bool.true_or,Option.isSome_some]
  ·rw[Yu e,decide_eq_false e,Bool.false_or];exact VA k r
theorem NX(k j:κ)(y:V):∀kvs:List (κ×V),valV (kvs.map λkv=>if kv.1=k then(kv.1,y)else kv) j=(valV kvs j).map λx=>if j=k then y else x
|[]=>rfl
|p::r=>by
  have ih:=NX k j y r;rw[List.map_cons];by_cases h:p.1=k
  ·rw[if_pos h];by_cases e:p.1=j
   ·rw[Yt (p:=(p.1,y)) e,Yt e,Option.map_some,if_pos (e.symm.trans h)]
   ·rw[Yu (p:=(p.1,y)) e,Yu e,ih]
  ·rw[if_neg h];by_cases e:p.1=j
   ·rw[Yt (p:=p) e,Yt e,Option.map_some,if_neg (λz=>h (e.trans z))]
   ·rw[Yu (p:=p) e,Yu e,ih]
theorem MF(k j:κ)(y:V):∀kvs:List (κ×V),valV kvs k=none->valV (kvs++[(k,y)]) j=if j=k then some y else valV kvs j
|[],_=>by
  by_cases e:k=j
  ·rw[if_pos e.symm];exact Yt (p:=(k,y)) e
  ·rw[if_neg (λz=>e z.symm)];exact Yu (p:=(k,y)) e
|p::r,hn=>by
  rw[List.cons_append];have hk:¬p.1=k:=λz=>by rw[Yt z]at hn;cases hn
  rw[Yu hk]at hn;have ih:=MF k j y r hn;by_cases e:p.1=j
  ·rw[Yt e,Yt e,if_neg (λz=>hk (e.trans z))]
  ·rw[Yu e,Yu e,ih]
theorem GO(kvs:List (κ×V))(k j:κ)(y:V):valV (putK kvs k y) j=if j=k then some y else valV kvs j:=by
 unfold putK;by_cases a:(kvs.any λkv=>decide (kv.1=k))=true
 ·rw[if_pos a,NX];rw[VA]at a;by_cases e:j=k
  ·obtain⟨x,hx⟩:=Option.isSome_iff_exists.mp a;rw[if_pos e,e,hx,Option.map_some,if_pos rfl]
  ·rw[if_neg e];cases valV kvs j with
  |none=>rfl
  |some x=>rw[Option.map_some,if_neg e]
 ·rw[if_neg a];refine MF k j y kvs ?_;rw[VA]at a;cases q:valV kvs k with
 |none=>rfl
 |some x=>rw[q]at a;exact(a rfl).elim
theorem Yw(kvs:List (κ×V))(k:κ)(v:V):(putK kvs k v).length<=kvs.length+1:=by
 unfold putK;split
 ·rw[List.length_map];omega
 ·rw[List.length_append,List.length_cons,List.length_nil];omega
theorem RelO.isSome_eq{o:Option V}{u:Option Value}(r:RelO o u):o.isSome=u.isSome:=by
 cases o with
|none=>cases u with
 |none=>rfl
 |some _=>exact(show False from r).elim
|some _=>cases u with
 |none=>exact(show False from r).elim
 |some _=>rfl
theorem KV.val{kvs:List (κ×V)}{vs:List (κ×Value)}(r:KV kvs vs)(k:κ):RelO (valV kvs k) (valueAt vs k):=by
 unfold KV at r;induction r with
|nil=>exact True.intro
|@cons p q ps qs h t ih=>
  obtain⟨h1,h2⟩:=h;by_cases e:p.1=k
  ·have e':q.1=k:=h1.symm.trans e;have b:valueAt (q::qs) k=some q.2:=by simp[valueAt,List.find?_cons,e']
   rw[Yt e,b];exact h2
  ·have e':¬q.1=k:=λz=>e (h1.trans z);have b:valueAt (q::qs) k=valueAt qs k:=by simp[valueAt,List.find?_cons,e']
   rw[Yu e,b];exact ih
theorem KV.any{kvs:List (κ×V)}{vs:List (κ×Value)}(r:KV kvs vs)(k:κ):(kvs.any λkv=>decide (kv.1=k))=vs.any λkv=>decide (kv.1=k):=by
 unfold KV at r;induction r with
|nil=>rfl
|cons h t ih=>rw[List.any_cons,List.any_cons,ih,h.1]
theorem KV.repl{kvs:List (κ×V)}{vs:List (κ×Value)}(r:KV kvs vs)(k:κ){y:V}{u:Value}(ry:RelV y u):KV (kvs.map λkv=>if kv.1=k then(kv.1,y)else kv) (vs.map λkv=>if kv.1=k then(kv.1,u)else kv):=by
 unfold KV at r ⊢;induction r with
|nil=>exact .nil
|@cons p q ps qs h t ih=>
  rw[List.map_cons,List.map_cons];refine .cons ?_ ih;obtain⟨h1,h2⟩:=h;by_cases e:p.1=k
  ·rw[if_pos e,if_pos (h1.symm.trans e)];exact⟨h1,ry⟩
  ·rw[if_neg e,if_neg (λz=>e (h1.trans z))];exact⟨h1,h2⟩
theorem KV.put{kvs:List (κ×V)}{vs:List (κ×Value)}(r:KV kvs vs)(k:κ){y:V}{u:Value}(ry:RelV y u):KV (putK kvs k y) (stored vs k u):=by
 unfold putK stored;rw[r.any k];by_cases e:(vs.any λkv=>decide (kv.1=k))=true
 ·rw[if_pos e,if_pos e];exact r.repl k ry
 ·rw[if_neg e,if_neg e];exact Paired.snoc r ⟨rfl,ry⟩
theorem KV.length{kvs:List (κ×V)}{vs:List (κ×Value)}(r:KV kvs vs):kvs.length=vs.length:=Paired.length r
end
theorem ML{P:Program}{w:World}{k:Key}{u:Value}(r:RelV (kV k) u):(Yd P w).is k u=true:=by
 cases k with
|inl i=>obtain⟨t,e⟩:=(show ∃t,u=Value.int i t from r);subst e;exact Py P w i t
|inr x=>obtain⟨t,e⟩:=(show ∃t,u=Value.str x t from r);subst e;exact Px P w x t
theorem MM{P:Program}{w:World}:∀{ks:List Key}{us:List Value},Vals (ks.map kV) us->ItemsAre (Yd P w) ks us
|[],_,r=>by rw[List.map_nil]at r;cases r;exact .nil
|k::ks,_,r=>by
  rw[List.map_cons]at r;cases r with
 |cons h t=>exact .cons (ML h) (MM t)
noncomputable abbrev KT(H:Hp):List (List Key×V)->List (List Key×Addr×Value)->Prop:=Paired λp q=>p.1=q.1/\H q.2.1=some (.tup (p.1.map kV))/\RelV p.2 q.2.2
theorem KT.val{H:Hp}{kvs:List (List Key×V)}{xs:List (List Key×Addr×Value)}(r:KT H kvs xs)(k:List Key):RelO (valV kvs k) ((atKey xs k).map (·.2)):=by
 induction r with
|nil=>exact True.intro
|@cons p q ps qs h t ih=>
  obtain⟨h1,_,h2⟩:=h;by_cases e:p.1=k
  ·have e':q.1=k:=h1.symm.trans e;have b:atKey (q::qs) k=some q.2:=by simp[atKey,List.find?_cons,e']
   rw[Yt e,b];exact h2
  ·have e':¬q.1=k:=λz=>e (h1.trans z);have b:atKey (q::qs) k=atKey qs k:=by simp[atKey,List.find?_cons,e']
   rw[Yu e,b];exact ih
theorem KT.repl{H:Hp}{kvs:List (List Key×V)}{xs:List (List Key×Addr×Value)}(r:KT H kvs xs)(k:List Key){y:V}{u:Value}(ry:RelV y u):KT H (kvs.map λkv=>if kv.1=k then(kv.1,y)else kv) (xs.map (putAt k u)):=by
 induction r with
|nil=>exact .nil
|@cons p q ps qs h t ih=>
  rw[List.map_cons,List.map_cons];refine .cons ?_ ih;obtain⟨h1,h2,h3⟩:=h;unfold putAt;by_cases e:p.1=k
  ·rw[if_pos e,if_pos (h1.symm.trans e)];exact⟨h1,h2,ry⟩
  ·rw[if_neg e,if_neg (λz=>e (h1.trans z))];exact⟨h1,h2,h3⟩
theorem KT.put{H:Hp}{kvs:List (List Key×V)}{xs:List (List Key×Addr×Value)}(r:KT H kvs xs)(k:List Key){b:Addr}{y:V}{u:Value}(hb:H b=some (.tup (k.map kV)))(ry:RelV y u):KT H (putK kvs k y) (storedH xs k b u):=by
 have e:(kvs.any λkv=>decide (kv.1=k))=(atKey xs k).isSome:=by rw[VA,(r.val k).isSome_eq,Option.isSome_map]
 unfold putK storedH;rw[e];by_cases q:(atKey xs k).isSome=true
 ·rw[if_pos q,if_pos q];exact r.repl k ry
 ·rw[if_neg q,if_neg q];exact Paired.snoc r ⟨rfl,hb,ry⟩
theorem KT.keeps{H H':Hp}{kvs:List (List Key×V)}{xs:List (List Key×Addr×Value)}(r:KT H kvs xs)(ht:∀b ys,H b=some (.tup ys)->H' b=some (.tup ys)):KT H' kvs xs:=Paired.mapP r λ_ _ z=>⟨z.1,ht _ _ z.2.1,z.2.2⟩
section
variable {P:Program}{w:World}{H:Hp}{h:Heap}{a:Addr}
theorem L9{u:HO}(ok:HOk P w H h)(e:Rd H a u):ZJ P w H h a u:=e.ok ok
theorem RV{kvs:List (Key×V)}(ok:HOk P w H h)(e:Rd H a (.dK kvs)):kvs.length<=sizeLine/\(a==sysModules)=false/\∃vs,KV kvs vs/\h.DictOf (Yd P w) a vs:=show ZJ P w H h a (.dK kvs)from L9 ok e
theorem P0{kvs:List (Key×V)}(ok:HOk P w H h)(e:H a=some (.dK kvs)):kvs.length<=sizeLine/\(a==sysModules)=false/\∃vs,KV kvs vs/\h.DictOf (Yd P w) a vs:=RV ok (.inl e)
theorem ND{ks:List Key}(ok:HOk P w H h)(e:H a=some (.tup (ks.map kV))):(tupleKind (Yd P w)).is h ks a:=by obtain⟨_,its,r,o,h1,h2,n,h3⟩:=(show ZJ P w H h a (.tup (ks.map kV))from ok a _ e);exact⟨o,its.toArray,n,h1,h2,h3,by simpa using MM r⟩
theorem RU{kvs:List (List Key×V)}(ok:HOk P w H h)(e:Rd H a (.dT kvs)):kvs.length<=sizeLine/\(a==sysModules)=false /\∃xs,KT H kvs xs/\h.DictOfH (tupleKind (Yd P w)) a xs:=by
 obtain⟨z,y,xs,r,o,es,ep,h1,h2,h3,h4,h5⟩:=(show ZJ P w H h a (.dT kvs)from L9 ok e);refine⟨z,y,xs,r,o,es,ep,h1,h2,h3,h4,λx hx=>?_,h5⟩;have all:∀{l:List (List Key×V)}{m:List (List Key×Addr×Value)},KT H l m->∀x∈m,(tupleKind (Yd P w)).is h x.1 x.2.1:=by
  intro l m q;induction q with
 |nil=>intro x hx;exact nomatch hx
 |@cons p q ps qs hq t ih=>
   intro x hx;rcases List.mem_cons.mp hx with e|hx
   ·subst e;exact ND ok (by rw[<-hq.1];exact hq.2.1)
   ·exact ih x hx
 exact all r x hx
theorem Fd{kvs:List (List Key×V)}(ok:HOk P w H h)(e:H a=some (.dT kvs)):kvs.length<=sizeLine/\(a==sysModules)=false /\∃xs,KT H kvs xs/\h.DictOfH (tupleKind (Yd P w)) a xs:=RU ok (.inl e)
end
def DGet(H:Hp)(a:Addr)(y:V)(r:Option V):Prop:=(∃kvs k,Rd H a (.dK kvs)/\y=kV k/\r=valV kvs k)\/∃kvs k b,Rd H a (.dT kvs)/\y=.ref b/\H b=some (.tup (k.map kV))/\r=valV kvs k
def DPut(H:Hp)(a:Addr)(y v:V)(H':Hp):Prop:=(∃kvs k,H a=some (.dK kvs)/\y=kV k/\kvs.length<sizeLine/\H'=upd H a (.dK (putK kvs k v))) \/∃kvs k b,H a=some (.dT kvs)/\y=.ref b/\H b=some (.tup (k.map kV))/\kvs.length<sizeLine/\H'=upd H a (.dT (putK kvs k v))
theorem DGet.k{H:Hp}{a:Addr}{kvs:List (Key×V)}{k:Key}(e:H a=some (.dK kvs)):DGet H a (kV k) (valV kvs k):=.inl ⟨kvs,k,.inl e,rfl,rfl⟩
theorem DPut.k{H:Hp}{a:Addr}{kvs:List (Key×V)}{k:Key}{v:V}(e:H a=some (.dK kvs))(hl:kvs.length<sizeLine):DPut H a (kV k) v (upd H a (.dK (putK kvs k v))):=.inl ⟨kvs,k,e,rfl,hl,rfl⟩
section
variable {X:Cx}{pins:List (Addr×Obj)}{σ:St}{H:Hp}{s:Shared}{a:Addr}{y v:V}{u r:Value}{o:Option V}{A:Around}{E:Value->Shared->Prop}
theorem Inv.big(I:Inv X pins σ H s):sysModules<s.heap.objs.size:=by have h:mainGlobals<s.heap.objs.size:=(I.mod.glob.keeps I.bk).lt;exact Nat.lt_trans (by decide) h
theorem SY{Q:Value->Shared->Prop}(hu:A.units+1<cLine)(I:Inv X pins σ H s)(g:DGet H a y (some v))(ry:RelV y u)(h:∀w' s',Inv X pins σ H s'->RelV v w'->Q w' s'):wpAny (model X.prog X.w) A (getItem (.ref a) u) Q E s:=by
 rcases g with⟨kvs,k,e,ey,l⟩|⟨kvs,k,b,e,ey,eb,l⟩
 ·subst ey;obtain⟨z,hd,vs,rel,dd⟩:=RV I.hok e;obtain⟨w',hw,rw'⟩:=RelO.some_of (v:=v) (o:=valueAt vs k) (by rw[l];exact rel.val k);exact wpAny_getItem_of (ML ry) dd.mapOf hw (h w' _ (I.tok _) rw')
 ·subst ey;cases(show u=Value.ref b from ry);obtain⟨z,hd,xs,rel,dd⟩:=RU I.hok e;obtain⟨w',hw,rw'⟩:=RelO.some_of (v:=v) (o:=(atKey xs k).map (·.2)) (by rw[l];exact rel.val k);obtain⟨p,hp,hp2⟩:=Option.map_eq_some_iff.mp hw;refine wpAny_getItem_heap (tupleKind_room_in1 hu) (ND I.hok eb) dd hp ?_;rw[hp2];exact h w' _ (I.tok _) rw'
theorem d_in{Q:Value->Shared->Prop}(hu:A.units+1<cLine)(I:Inv X pins σ H s)(g:DGet H a y o)(ry:RelV y u)(h:∀s',Inv X pins σ H s'->Q (.bool o.isSome) s'):wpAny (model X.prog X.w) A (compareOp .In u (.ref a)) Q E s:=by
 rcases g with⟨kvs,k,e,ey,l⟩|⟨kvs,k,b,e,ey,eb,l⟩
 ·subst ey;obtain⟨z,hd,vs,rel,dd⟩:=RV I.hok e;refine wpAny_in_of (ML ry) hd dd.mapOf ?_;rw[<-(rel.val k).isSome_eq,<-l];exact h _ (I.tok _)
 ·subst ey;cases(show u=Value.ref b from ry);obtain⟨z,hd,xs,rel,dd⟩:=RU I.hok e;refine wpAny_in_heap (tupleKind_room_in1 hu) (ND I.hok eb) hd dd ?_;have q:=(rel.val k).isSome_eq;rw[Option.isSome_map]at q;rw[<-q,<-l];exact h _ (I.tok _)
theorem GG{h':Heap}{t':Nat}{ob:HO}(I:Inv X pins σ H s)(mu:Mut (H a))(hs:Heap.SameBut a s.heap h')(he:∃q,h'.get? a=some q)(new:ZJ X.prog X.w (upd H a ob) h' a ob):Inv X pins σ (upd H a ob) {s with heap:=h',toks:=t'}:=I.write (x:=a) (e:=a) mu (.inl rfl) (λb q hb z=>(hs.2 b hb).trans z) he new
theorem QU{P:Program}{w:World}{H':Hp}{h':Heap}{kvs:List (Key×V)}{vs:List (Key×Value)}(z:kvs.length<=sizeLine)(hd:(a==sysModules)=false)(rel:KV kvs vs)(dd:h'.DictOf (Yd P w) a vs):ZJ P w H' h' a (.dK kvs):=⟨z,hd,vs,rel,dd⟩
theorem SX{H':Hp}{Q:Unit->Shared->Prop}(hu:A.units+1<cLine)(I:Inv X pins σ H s)(g:DPut H a y v H')(ry:RelV y u)(rv:RelV v r)(h:∀s',Inv X pins σ H' s'->Q () s'):wpAny (model X.prog X.w) A (setItem (.ref a) u r) Q E s:=by
 rcases g with⟨kvs,k,e,ey,l,eH⟩|⟨kvs,k,b,e,ey,eb,l,eH⟩
 ·subst ey eH;obtain⟨z,hd,vs,rel,dd⟩:=P0 I.hok e;have hz:vs.length<=sizeLine:=by rw[<-rel.length];exact z
  have hl:(putK kvs k v).length<=sizeLine:=by have:=Yw kvs k v;omega
  refine wpAny_setItem_pairs (hsz:=hz) (ML ry) dd λh' dd' hs=>h _ ?_;have he:∃q,h'.get? a=some q:=let ⟨q,_,_,hq,_⟩:=dd';⟨q,hq⟩
  exact GG I (by rw[e];exact True.intro) hs he (QU hl hd (rel.put k rv) dd')
 ·subst ey eH;cases(show u=Value.ref b from ry);obtain⟨z,hd,xs,rel,dd⟩:=Fd I.hok e;have hz:xs.length<=sizeLine:=by rw[<-Paired.length rel];exact z
  have hl:(putK kvs k v).length<=sizeLine:=by have:=Yw kvs k v;omega
  refine wpAny_setItem_heap (hsz:=hz) (tupleKind_room_in1 hu) (ND I.hok eb) dd λh' dd' hs=>h _ ?_;obtain⟨q,es,ep,hq,h2,h3,h4,_,h5⟩:=dd';refine GG I (by rw[e];exact True.intro) hs ⟨q,hq⟩ ⟨hl,hd,_,(rel.put k eb rv).keeps λc ys ec=>?_,q,es,ep,hq,h2,h3,h4,h5⟩;rw[Ze (ne_of ec e (λz=>nomatch z))];exact ec
end
def NoSl(i:Expr):Prop:=∀ov iv,subscripted i false ov iv=operate [ov,iv] (getItem ov iv)
theorem Rn{prog:Program}{w:World}{A:Around}{E:Value->Shared->Prop}{s:Shared}{env:Env}{value slice:Expr}{pos:Pos}{T id:String}{Q:Value->Shared->Prop}(hl:typeLookup (.type T) "__getitem__"=pure (some (.builtin id)))(hs:NoSl slice)(h:wpAny (model prog w) A (eval value env) (λo s₁=>wpAny (model prog w) A (eval slice env) (λi s₂=>s₂.TypeIs o T/\wpAny (model prog w) A (getItem o i) Q E s₂) E s₁) E s):wpAny (model prog w) A (eval (.Subscript value slice pos) env) Q E s:=by
 refine Subscript_ (wpAny_mono h (λo s₁ h₁=>wpAny_mono h₁ (λi s₂ h₂=>?_) λ_ _ x=>x) λ_ _ x=>x);obtain⟨hT,h₂⟩:=h₂;unfold subscriptTail;refine wpAny_bind ?_;rw[getitemInPython_of_ne hT.not_modules];refine wpAny_bind (wpAny_specialOf hT hl ?_);have fin:wpAny (model prog w) A (subscripted slice false o i) (λr s₃=>wpAny (model prog w) A (letTemporaryGo value o r >>= λ_=>pure r) Q E s₃) E s₂:=by rw[hs o i];exact wpAny_operating (wpAny_mono h₂ (λr s₃ h₃=>wpAny_bind (wpAny_letTemporaryGo (wpAny_pure h₃))) λ_ _ x=>x)
 first
 |exact wpAny_pure (wpAny_bind fin)
 |exact wpAny_bind (wpAny_pure (wpAny_bind fin))
 |exact wpAny_bind fin
theorem P5{X:Cx}{pins:List (Addr×Obj)}{σ:St}{H:Hp}{s:Shared}{a:Addr}{y:V}{o:Option V}(I:Inv X pins σ H s)(g:DGet H a y o):s.TypeIs (.ref a) "dict":=by
 rcases g with⟨kvs,k,e,_,_⟩|⟨kvs,k,b,e,_,_,_⟩
 ·obtain⟨_,_,vs,_,dd⟩:=RV I.hok e;exact dd.typeIs
 ·obtain⟨_,_,xs,_,dd⟩:=RU I.hok e;exact dd.typeIs
def EH(td ty:TE):TE:=λσ H Q=>td σ H λx H1=>ty σ H1 λy H2=>∃a v,x=.ref a/\DGet H2 a y (some v)/\Q v H2
def tDIn(ty td:TE):TE:=λσ H Q=>ty σ H λy H1=>td σ H1 λx H2=>∃a o,x=.ref a/\DGet H2 a y o/\Q (.bl o.isSome) H2
def ET(td ty tv:TE):TS:=λD σ H=>tv σ H λv H1=>td σ H1 λx H2=>ty σ H2 λy H3=>∃a H4,x=.ref a/\DPut H3 a y v H4/\D.nx σ H4
section
variable {X:Cx}{o i e value:Expr}{pos pos' tpos:Pos}{td ty tv:TE}
theorem YI(hu:X.A.units+1<cLine)(ho:PE X o td)(hi:PE X i ty)(hs:NoSl i):PE X (.Subscript o i pos) (EH td ty):=by intro pins s σ H Q I h;refine Rn PySem.F.slot_dict_getitem.lookup hs (thn (ho pins s σ H _ I h) λu s1⟨x,H1,I1,rx,q1⟩=>thn (hi pins s1 σ H1 _ I1 q1) λiv s2⟨y,H2,I2,ry,a,v,ex,g,q2⟩=>?_);subst ex;obtain rfl:u=Value.ref a:=rx;exact⟨P5 I2 g,SY hu I2 g ry λw' s3 I3 rw'=>⟨v,H2,I3,rw',q2⟩⟩
theorem WU(hu:X.A.units+1<cLine)(hi:PE X i ty)(ho:PE X o td):PC X .In i o (tDIn ty td):=by intro pins s σ H Q I h;refine thn (hi pins s σ H _ I h) λiv s1⟨y,H1,I1,ry,q1⟩=>thn (ho pins s1 σ H1 _ I1 q1) λu s2⟨x,H2,I2,rx,a,ov,ex,g,q2⟩=>?_;subst ex;obtain rfl:u=Value.ref a:=rx;exact d_in hu I2 g ry λs3 I3=>⟨.bl ov.isSome,H2,I3,rfl,q2⟩
theorem VH(hu:X.A.units+1<cLine)(ho:PE X o td)(hi:PE X i ty)(hv:PE X value tv)(hs:swapsWith value (some (.Subscript o i pos')) pos.line X.env=pure false):PS X (.Assign [.Subscript o i pos'] value pos) (ET td ty tv):=by intro pins s σ H D I h;refine wpAny_Assign_Subscript (thn (hv pins s σ H _ I h) λr s1⟨v,H1,I1,rv,q1⟩=>thn (ho pins s1 σ H1 _ I1 q1) λu s2⟨x,H2,I2,rx,q2⟩=>thn (hi pins s2 σ H2 _ I2 q2) λiv s3⟨y,H3,I3,ry,a,H4,ex,g,q3⟩=>?_) hs;subst ex;obtain rfl:u=Value.ref a:=rx;exact SX hu I3 g ry rv λs4 I4=>⟨σ,H4,I4,q3⟩
end
theorem P4{P:Program}{w:World}{H:Hp}(h:Heap)(hb:sysModules<h.objs.size):ZJ P w H (h.push {cls:=.type "dict",data:=.dict #[]}) h.objs.size (.dK []):=⟨Nat.zero_le _,beq_eq_false_iff_ne.mpr (Ne.symm (Nat.ne_of_lt hb)),[],.nil,Heap.DictOf.new h⟩
def Du:TE:=λ_ H Q=>∀p,H p=none->Q (.ref p) (upd H p (.dK []))
section
variable {X:Cx}{pos:Pos}
theorem JD:PE X (.Dict [] [] pos) Du:=λpins s σ H Q I h=>wpAny_Dict_empty ⟨.ref s.heap.objs.size,_,I.laid (a:=s.heap.objs.size) (o:=.dK []) (t':=s.toks) (λ_ _ q=>Heap.get?_push_of_some _ q) (Nat.le_refl _) (P4 s.heap I.big),rfl,h _ (I.hok.fresh (Nat.le_refl _))⟩
end
noncomputable def Qr:List (TE×TE)->St->Hp->(List (V×V)->Hp->Prop)->Prop
|[],_,H,Q=>Q [] H
|(tk,tv)::r,σ,H,Q=>tk σ H λx H1=>tv σ H1 λy H2=>Qr r σ H2 λps H3=>Q ((x,y)::ps) H3
noncomputable abbrev VV:List (V×V)->List (Value×Value)->Prop:=Paired λp q=>RelV p.1 q.1/\RelV p.2 q.2
def PPs(X:Cx)(pos:Pos)(keys:List (Option Expr))(values:List Expr)(trs:List (TE×TE)):Prop:=∀(pins:List (Addr×Obj))(s:Shared)(σ:St)(H:Hp)(Q:List (V×V)->Hp->Prop),Inv X pins σ H s->Qr trs σ H Q ->wpAny (model X.prog X.w) X.A (evalPairs (pairTrees keys values X.env pos)) (λvs s'=>∃ps H',Inv X pins σ H' s'/\VV ps vs/\Q ps H') X.xe s
theorem Lg{X:Cx}{pos:Pos}:PPs X pos [] [] []:=λpins s σ H Q I h=>pairTrees_nil_walk ⟨[],H,I,.nil,h⟩
theorem WJ{X:Cx}{pos:Pos}{k v:Expr}{ks:List (Option Expr)}{vs:List Expr}{tk tv:TE}{trs:List (TE×TE)}(hk:PE X k tk)(hv:PE X v tv)(hr:PPs X pos ks vs trs):PPs X pos (some k::ks) (v::vs) ((tk,tv)::trs):=λpins s σ H Q I h=>
 pairTrees_cons_walk (thn (hk pins s σ H _ I h) λu s1⟨x,H1,I1,rx,q1⟩=>thn (hv pins s1 σ H1 _ I1 q1) λw2 s2⟨y,H2,I2,ry,q2⟩=>thn (hr pins s2 σ H2 _ I2 q2) λws s3⟨ps,H3,I3,rel,q3⟩=>⟨(x,y)::ps,H3,I3,.cons ⟨rx,ry⟩ rel,q3⟩)
noncomputable def UP(kvs more:List (Key×V)):List (Key×V):=more.foldl (λacc kv=>putK acc kv.1 kv.2) kvs
theorem KV.merge:∀{more:List (Key×V)}{rs:List (Key×Value)}{kvs:List (Key×V)}{vs:List (Key×Value)},KV more rs->KV kvs vs->KV (UP kvs more) (merged vs rs):=by
 intro more rs kvs vs r;unfold KV at r;induction r generalizing kvs vs with
|nil=>intro q;exact q
|@cons p q ps qs h t ih=>
  intro r0;have e:KV (putK kvs p.1 p.2) (stored vs q.1 q.2):=by have:=r0.put p.1 h.2;rw[<-h.1];exact this
  exact ih e
theorem JZ:∀(more kvs:List (Key×V)),(UP kvs more).length<=kvs.length+more.length
|[],kvs=>by show kvs.length<=kvs.length+0;omega
|p::r,kvs=>by have h1:=JZ r (putK kvs p.1 p.2);have h2:=Yw kvs p.1 p.2;show(UP (putK kvs p.1 p.2) r).length<=_;rw[List.length_cons];omega
theorem Mr{P:Program}{w:World}:∀{kvs:List (Key×V)}{ws:List (Value×Value)},VV (kvs.map λkv=>(kV kv.1,kv.2)) ws->∃rs,Carries (Yd P w) ws rs/\KV kvs rs
|[],_,r=>by rw[List.map_nil]at r;cases r;exact⟨[],True.intro,.nil⟩
|p::kvs,_,r=>by
  rw[List.map_cons]at r;cases r with
 |@cons a b as bs h t=>obtain⟨rs,c,q⟩:=Mr (P:=P) (w:=w) t;obtain⟨b1,b2⟩:=b;exact⟨(p.1,b2)::rs,⟨ML h.1,rfl,c⟩,.cons ⟨rfl,h.2⟩ q⟩
def EG(trs:List (TE×TE)):TE:=λσ H Q=>∀p,H p=none->Qr trs σ (upd H p (.dK [])) λps H2=>H2 p=some (.dK [])/\∃kvs:List (Key×V),ps=kvs.map (λkv=>(kV kv.1,kv.2))/\kvs.length<=15/\Q (.ref p) (upd H2 p (.dK (UP [] kvs)))
theorem Lm{X:Cx}{pos:Pos}{keys:List (Option Expr)}{values:List Expr}{trs:List (TE×TE)}(h:PPs X pos keys values trs)(hall:keys.all (·.isSome)=true)(hl:keys.length=values.length)(h0:keys≠[])(h15:keys.length<=15):PE X (.Dict keys values pos) (EG trs):=by
 intro pins s σ H Q I q;have hn:=I.hok.fresh (Nat.le_refl s.heap.objs.size);have I1:=I.laid (a:=s.heap.objs.size) (o:=.dK []) (h':=s.heap.push {cls:=.type "dict",data:=.dict #[]}) (t':=s.toks) (λ_ _ q=>Heap.get?_push_of_some _ q) (Nat.le_refl _) (P4 s.heap I.big);refine wpAny_Dict_walk (knd:=Yd X.prog X.w) hall hl h0 h15 (thn (h pins _ σ _ _ I1 (q _ hn)) λws s2⟨ps,H2,I2,rel,e,kvs,ep,lk,q2⟩=>?_);subst ep;obtain⟨rs,c,rk⟩:=Mr (P:=X.prog) (w:=X.w) rel;obtain⟨z,hd,vs0,r0,dd⟩:=P0 I2.hok e;cases r0;refine⟨rs,c,dd,λh' dd' hs=>⟨.ref s.heap.objs.size,_,?_,rfl,q2⟩⟩;have hz:(UP [] kvs).length<=sizeLine:=by have h1:=JZ kvs [];rw[List.length_nil]at h1;rw[sizeLine_eq];omega
 have he:∃q,h'.get? s.heap.objs.size=some q:=let ⟨q,_,_,hq,_⟩:=dd';⟨q,hq⟩
 exact GG I2 (by rw[e];exact True.intro) hs he (QU hz hd (rk.merge .nil) dd')
structure M1(X:Cx)(o:Expr)(m:Str)(apos:Pos)(e:Expr)(cpos:Pos):Prop where
 base:attributeBase o m X.env (eval o X.env)=eval o X.env
 few:((backTo cpos (starEach [e] X.env)).all (λx=>!x.1)&&(backToKw cpos (keywordEach [] X.env)).all (λx=>x.1.isSome)
 &&decide (([e]:List Expr).length+([]:List Keyword).length+(if([]:List Keyword).isEmpty then 0 else 1)<30))=true
 line:(apos.endLine==cpos.line)=true
 trees:backTo cpos (starEach [e] X.env)=[(false,eval e X.env)]
structure M2(X:Cx)(o:Expr)(m:Str)(apos:Pos)(e f:Expr)(cpos:Pos):Prop where
 base:attributeBase o m X.env (eval o X.env)=eval o X.env
 few:((backTo cpos (starEach [e,f] X.env)).all (λx=>!x.1)&&(backToKw cpos (keywordEach [] X.env)).all (λx=>x.1.isSome)
 &&decide (([e,f]:List Expr).length+([]:List Keyword).length+(if([]:List Keyword).isEmpty then 0 else 1)<30))=true
 line:(apos.endLine==cpos.line)=true
 trees:backTo cpos (starEach [e,f] X.env)=[(false,eval e X.env),(false,eval f X.env)]
open PySem PySem.Spec PyProof.Rows
theorem J4(z:Str):strIterType z="str_ascii_iterator"\/strIterType z="str_iterator":=by
 unfold strIterType;split
 ·exact .inl rfl
 ·exact .inr rfl
theorem MC{P:Program}{w:World}{A:Around}(hh:A.handled=none)(it:Addr)(x:Str)(t:Tok):Walks P w A it [it] [it] x.cps.size (SignAt x) (λi h=>h.IsStrIter it (strIterType x) x t i):=by
 rcases J4 x with e|e
 ·rw[e];exact Walks.strAscii hh it x t
 ·rw[e];exact Walks.strWide hh it x t
noncomputable def Its(z:Str):It:=⟨λi _=>i<z.length,λi H x H'=>H'=H/\∃c,z.cps.toList[i]?=some c/\x=.str ⟨#[c]⟩,λi _=>z.length<=i⟩
theorem TY{P:Program}{w:World}{K:PySem.W.Frag}{tg:Expr}(z:Str)(t:Tok)(it:Addr):
  Turn P w K tg (Its z) [it] it (λi h=>i<=z.length/\h.IsStrIter it (strIterType z) z t i) where
 mem:=by simp
 obj:=λi h st b hb=>by
  have e:b=it:=by simpa using hb
  subst e
  obtain⟨_,o,e,c,d⟩:=st
  exact⟨o,e,λv z=>by rw[d]at z;cases z⟩
 keep:=λi h h' st k=>by
  obtain⟨l,o,e,r⟩:=st
  exact⟨l,o,k it (by simp) o e,r⟩
 item:=by
  intro X hP hw hK hc i pins s σ H E I hf st hg
  subst hP hw hK
  obtain⟨f0,f1,f2,f3,f4,f5⟩:=hf it (by simp)
  have W:=MC (P:=X.prog) (w:=X.w) (I.ok.hd hc) it z t
  refine W.item i s _ _ hg st.2 λv h' tk hv st' kk=>?_
  obtain⟨c,u,hcps,rfl⟩:=hv
  have I1:Inv X pins σ H {s with heap:=h',toks:=tk}:=I.turned (λb o hb e=>kk b o (by simpa using hb) e) f0 f1 f3 f4 f5
  obtain⟨o,e,c',d⟩:=id st'
  refine⟨_,rfl,PN (s:={s with heap:=h',toks:=tk}) e c' d ?_ ⟨.str ⟨#[c]⟩,H,I1,⟨u,rfl⟩,⟨rfl,c,by simpa using hcps,rfl⟩,⟨hg,st'⟩,λb hb=>(hf b hb).1⟩⟩
  rcases J4 z with e|e<;>rw[e]<;>decide
 done:=by
  intro X hP hw hK hc i pins s σ H E I hf st hg
  subst hP hw hK
  obtain⟨f0,f1,f2,f3,f4,f5⟩:=hf it (by simp)
  have W:=MC (P:=X.prog) (w:=X.w) (I.ok.hd hc) it z t
  obtain⟨hl,st⟩:=st
  have e:i=z.length:=Nat.le_antisymm hl hg
  subst e
  exact W.done s _ _ st λh' tk kk=>⟨rfl,I.turned (λb o hb e=>kk b o (by simpa using hb) e) f0 f1 f3 f4 f5⟩
 self:=λA i s Q E st h=>by
  obtain⟨_,st⟩:=st
  rcases J4 z with e|e
  ·rw[e]at st;exact wpAny_pyIter_striter_ascii st h
  ·rw[e]at st;exact wpAny_pyIter_striter_wide st h
section
variable {X:Cx}{tg:Expr}
noncomputable def iStr(tl:TE):TI:=λσ H R=>tl σ H λx H1=>∃z,x=.str z/\R (Its z) H1
theorem DK{l:Expr}{tl:TE}(hl:PE X l tl):PI X tg l (iStr tl):=by
 intro pins s σ H R I h;refine thn (hl pins s σ H _ I h) λv s1⟨x,H1,I1,r1,q1⟩=>?_;obtain⟨z,e,q⟩:=q1;subst e;obtain⟨t,rfl⟩:=r1;refine wpAny_pyIter_strU ?_;refine⟨s1.heap.objs.size,[s1.heap.objs.size],_,_,H1,rfl,I1.kept (t':=s1.toks) λb o e=>Heap.get?_push_of_some _ e,TY z t _,⟨Nat.zero_le _,_,Heap.get?_push_size _ rfl,rfl,rfl⟩,λb hb=>?_,q⟩;have e:b=s1.heap.objs.size:=by simpa using hb
 subst e;exact I1.fpOk (Nat.le_refl _) (I1.hok.fresh (Nat.le_refl _))
end
theorem Ja{α:Type}{n:Nat}{l:List α}(h:l.length=n+1):∃a t,l=a::t/\t.length=n:=by
 cases l with
|nil=>cases h
|cons a t=>exact⟨a,t,rfl,Nat.succ.inj h⟩
theorem len1{α:Type}{l:List α}(h:l.length=1):∃a,l=[a]:=by obtain⟨a,t,rfl,h'⟩:=Ja h;exact⟨a,by rw[List.eq_nil_of_length_eq_zero h']⟩
theorem len2{α:Type}{l:List α}(h:l.length=2):∃a b,l=[a,b]:=by obtain⟨a,t,rfl,h'⟩:=Ja h;obtain⟨b,rfl⟩:=len1 h';exact⟨a,b,rfl⟩
theorem len3{α:Type}{l:List α}(h:l.length=3):∃a b c,l=[a,b,c]:=by obtain⟨a,t,rfl,h'⟩:=Ja h;obtain⟨b,c,rfl⟩:=len2 h';exact⟨a,b,c,rfl⟩
theorem len4{α:Type}{l:List α}(h:l.length=4):∃a b c d,l=[a,b,c,d]:=by obtain⟨a,t,rfl,h'⟩:=Ja h;obtain⟨b,c,d,rfl⟩:=len3 h';exact⟨a,b,c,d,rfl⟩
theorem len5{α:Type}{l:List α}(h:l.length=5):∃a b c d e,l=[a,b,c,d,e]:=by obtain⟨a,t,rfl,h'⟩:=Ja h;obtain⟨b,c,d,e,rfl⟩:=len4 h';exact⟨a,b,c,d,e,rfl⟩
theorem len6{α:Type}{l:List α}(h:l.length=6):∃a b c d e f,l=[a,b,c,d,e,f]:=by obtain⟨a,t,rfl,h'⟩:=Ja h;obtain⟨b,c,d,e,f,rfl⟩:=len5 h';exact⟨a,b,c,d,e,f,rfl⟩
section
variable {prog:Program}{w:World}{A:Around}{R:Result->Shared->Prop}{s:Shared}
noncomputable abbrev NoX:Value->Shared->Prop:=λ_ _=>False
theorem Dj{α:Type}{M:Model}{t:Sem α}{Q:α->Shared->Prop}{E:Value->Shared->Prop}(h:wpAny M A t Q NoX s):wpAny M A t Q E s:=wpAny_mono h (λ_ _ q=>q) λ_ _ x=>x.elim
theorem Gm{elt target iter:Expr}{ifs:List Expr}{scope:Scope}{pos:Pos}{it acc:Value}{env:Env}(I:Nat->Shared->Prop)
  (turn:∀n s,I n s->wpAny (model prog w) A (pyNext it) (λr s₁=>match r with
  |none=>R (.ok .next) s₁
  |some v=>wpAny (model prog w) A (letOwnedTupleGo target it v) (λ_ s₀=>wpAny (model prog w) A (assign target env v) (λ_ s₂=>
     wpAny (model prog w) A (forIn ifs true λc r=>if r=true then do let ok <-isTrue c env (eval c env);pure (ForInStep.yield ok)else pure (ForInStep.yield r)) (λok s₃=>
      if ok=true then wpAny (model prog w) A (eval elt env) (λx s₄=>wpAny (model prog w) A (call (.builtin "list.append") [acc,x]) (λ_ s₅=>∃m,m<n/\I m s₅) NoX s₄) NoX s₃
      else ∃m,m<n/\I m s₃) NoX s₂) NoX s₀) NoX s₁) NoX s)
  (n:Nat) (h:I n s):
  codeAny (model prog w) A (.compLoop (.ListComp elt [⟨target,iter,ifs,0⟩] scope pos) 0 it acc env) R s:=by
 refine codeAny_loop rfl I (λn s hI=>?_) n h
 show wpAny _ A ((compTurn (.ListComp elt [⟨target,iter,ifs,0⟩] scope pos) 0 it acc env).onRaise (λx=>do noteFrame x env;theTreesLotGoes x)) _ _ s
 refine wpAny_noted (Dj ?_)
 rw[compTurn_list]
 refine wpAny_bind (wpAny_standAt (wpAny_bind (thn (turn n s hI) (λr s₁ h₁=>?_))))
 cases r with
|none=>exact wpAny_pure h₁
|some v=>
  refine wpAny_bind (thn h₁ λ_ s₀ h₀=>?_)
  refine wpAny_bind (thn h₀ λ_ s₂ h₂=>wpAny_bind (thn h₂ λok s₃ h₃=>?_))
  cases ok with
 |false=>exact wpAny_pure ⟨rfl,h₃⟩
 |true=>exact wpAny_bind (wpAny_bind (thn h₃ λx s₄ h₄=>wpAny_bind (thn h₄ λ_ s₅ h₅=>wpAny_pure (wpAny_pure ⟨rfl,h₅⟩))))
end
noncomputable def clGo(env:Env):List (Str×NameKind)->List (Str×Addr)->List (Str×Addr)
|[],cs=>cs
|(n,k)::r,cs=>clGo env r (if k==.free then(n,(env.cells.lookup n).getD 0)::cs else cs)
noncomputable def clOf(scope:Scope)(env:Env):List (Str×Addr):=clGo env scope.names []
theorem Vw{env:Env}:∀(names:List (Str×NameKind))(cs:List (Str×Addr)),(∀x∈names,x.2=.free->∃c,env.cells.lookup x.1=some c) ->
  (forIn names cs λ(x:Str×NameKind)(r:List (Str×Addr))=>(match x with
  |(name,kind)=>if(kind==.free)=true then(do let c <-cellOf env name;pure (ForInStep.yield ((name,c)::r)))else pure (ForInStep.yield r):Sem (ForInStep (List (Str×Addr)))))
   = pure (clGo env names cs)
|[],cs,_=>rfl
|(n,k)::r,cs,h=>by
  rw[List.forIn_cons]
  cases hk:k==NameKind.free with
 |true=>
   obtain⟨c,hc⟩:=h (n,k) List.mem_cons_self (by simpa using hk)
   have e:cellOf env n=pure c:=by unfold cellOf;rw[show env.cells.lookup n=some c from hc]
   simp only[hk,if_true,e,clGo,pure_bind]
   rw[show env.cells.lookup n=some c from hc]
   exact Vw r _ λx hx=>h x (List.mem_cons_of_mem _ hx)
 |false=>
   simp only[hk,Bool.false_eq_true,if_false,clGo,pure_bind]
   exact Vw r _ λx hx=>h x (List.mem_cons_of_mem _ hx)
theorem Mp{scope:Scope}{env:Env}(h:∀x∈scope.names,x.2=.free->∃c,env.cells.lookup x.1=some c):closureFor scope env=pure (clOf scope env):=by have e:=Vw (env:=env) scope.names [] h;unfold closureFor clOf;rw[<-e];simp only[bind_pure]
theorem JW{env:Env}{x:Str}:∀(names:List (Str×NameKind))(cs:List (Str×Addr)),(∀y∈names,y.2=.free->∃c,env.cells.lookup y.1=some c)->(∀c,cs.lookup x=some c->env.cells.lookup x=some c) ->(∀c,(clGo env names cs).lookup x=some c->env.cells.lookup x=some c)/\(((x,NameKind.free)∈names\/(cs.lookup x).isSome=true)->((clGo env names cs).lookup x).isSome=true)
|[],cs,_,h=>⟨h,λz=>z.elim (λz=>absurd z (by simp)) id⟩
|(n,k)::r,cs,hf,h=>by
  have hr:∀y∈r,y.2=NameKind.free->∃c,env.cells.lookup y.1=some c:=λy hy=>hf y (List.mem_cons_of_mem _ hy);show(∀c,(clGo env r (if k==.free then(n,(env.cells.lookup n).getD 0)::cs else cs)).lookup x=some c->_)/\(_->((clGo env r (if k==.free then(n,(env.cells.lookup n).getD 0)::cs else cs)).lookup x).isSome=true);cases hk:k==NameKind.free with
 |true=>
   obtain⟨c0,hc0⟩:=hf (n,k) List.mem_cons_self (by simpa using hk);have hc0':env.cells.lookup n=some c0:=hc0;simp only[if_true,hc0',Option.getD_some];have h2:∀c,((n,c0)::cs).lookup x=some c->env.cells.lookup x=some c:=λc q=>by
    rw[List.lookup_cons]at q;cases hx:x==n with
   |true=>
     rw[hx]at q;have e:x=n:=by simpa using hx
     subst e;cases q;exact hc0'
   |false=>rw[hx]at q;exact h c q
   obtain⟨a,b⟩:=JW r ((n,c0)::cs) hr h2;refine⟨a,λz=>b ?_⟩;by_cases hx:x=n
   ·right;subst hx;simp
   ·rcases z with z|z
    ·rcases List.mem_cons.mp z with e|z
     ·exact absurd (congrArg Prod.fst e) hx
     ·exact .inl z
    ·right;have:(x==n)=false:=by simpa using hx
     rw[List.lookup_cons,this];exact z
 |false=>
   simp only[Bool.false_eq_true,if_false];obtain⟨a,b⟩:=JW r cs hr h;refine⟨a,λz=>b ?_⟩;rcases z with z|z
   ·rcases List.mem_cons.mp z with e|z
    ·have:k=.free:=(congrArg Prod.snd e).symm;rw[this]at hk;exact absurd hk (by decide)
    ·exact .inl z
   ·exact .inr z
structure CompScope(scope sc:Scope):Prop where
 kind:scope.kind=.function
 nocell:∀y∈scope.names,y.2≠.cell
 loc:∀y∈scope.names,y.2=.local->scope.names.lookup y.1=some .local
 free:∀y∈scope.names,y.2=.free->sc.names.lookup y.1=some .cell\/sc.names.lookup y.1=some .free
theorem VG{scope:Scope}{env:Env}{x:Str}(nc:∀y∈scope.names,y.2≠.cell):∀{k:NameKind},(relabel scope env).names.lookup x=some k->(k=.cell\/k=.free)->(x,NameKind.free)∈scope.names:=by
 have go:∀(names:List (Str×NameKind)),(∀y∈names,y.2≠NameKind.cell)->∀{k:NameKind},(names.map λ(n,k)=>if(k==NameKind.free&&env.scope.kind==.function&&env.kindOf n==some .cell)then(n,NameKind.cell)else(n,k)).lookup x=some k->(k=.cell\/k=.free)->(x,NameKind.free)∈names:=by
  intro names;induction names with
 |nil=>intro _ k h _;simp at h
 |cons y r ih=>
   intro hn k h hk;obtain⟨n,k'⟩:=y;have hn':∀y∈r,y.2≠NameKind.cell:=λy hy=>hn y (List.mem_cons_of_mem _ hy);have hk':k'≠NameKind.cell:=hn (n,k') List.mem_cons_self;rw[List.map_cons]at h;by_cases hc:(k'==NameKind.free&&env.scope.kind==.function&&env.kindOf n==some .cell)=true
   ·simp only[hc,if_true]at h;rw[List.lookup_cons]at h;cases hx:x==n with
   |true=>
     have e:x=n:=by simpa using hx
     have e2:k'=.free:=by simp only[Bool.and_eq_true]at hc;simpa using hc.1.1
     subst e e2;exact List.mem_cons_self
   |false=>rw[hx]at h;exact List.mem_cons_of_mem _ (ih hn' h hk)
   ·simp only[hc]at h;simp only[if_false,Bool.false_eq_true]at h;rw[List.lookup_cons]at h;cases hx:x==n with
   |true=>
     rw[hx]at h;cases h;have e:x=n:=by simpa using hx
     subst e;rcases hk with e|e
     ·exact absurd e hk'
     ·rw[e];exact List.mem_cons_self
   |false=>rw[hx]at h;exact List.mem_cons_of_mem _ (ih hn' h hk)
 intro k h hk;exact go scope.names nc h hk
theorem MA{scope:Scope}{env:Env}{x:Str}:(relabel scope env).names.lookup x=some .local->scope.names.lookup x=some .local:=by
 have go:∀(names:List (Str×NameKind)),(names.map λ(n,k)=>if(k==NameKind.free&&env.scope.kind==.function&&env.kindOf n==some .cell)then(n,NameKind.cell)else(n,k)).lookup x=some .local->names.lookup x=some .local:=by
  intro names;induction names with
 |nil=>intro h;simp at h
 |cons y r ih=>
   intro h;obtain⟨n,k'⟩:=y;rw[List.map_cons]at h;rw[List.lookup_cons];by_cases hc:(k'==NameKind.free&&env.scope.kind==.function&&env.kindOf n==some .cell)=true
   ·simp only[hc,if_true]at h;rw[List.lookup_cons]at h;cases hx:x==n with
   |true=>rw[hx]at h;cases h
   |false=>rw[hx]at h;exact ih h
   ·simp only[hc]at h;simp only[if_false,Bool.false_eq_true]at h;rw[List.lookup_cons]at h;cases hx:x==n with
   |true=>rw[hx]at h;exact h
   |false=>rw[hx]at h;exact ih h
 exact go scope.names
noncomputable def Jo(X:Cx)(scope:Scope)(N:List Str)(C:Addr)(s:Shared)(H:Hp)(ex:List Addr)(pn:List (Addr×Obj)):Cx where
 prog:=X.prog
 w:=X.w
 K:=X.K
 mg:=X.mg
 base:=X.base
 A:=X.A
 N:=N
 s₀:=s
 H₀:=H
 env:=compEnvC scope (clOf scope X.env) C X.env
 outer:=X.stack
 stack:=X.stack
 ex:=ex
 calm:=X.calm
 fn:=λ_=>false
 pn:=pn
 xe:=NoX
noncomputable def inner(cp:List (Option Nat))(σ:St):St:=cp.map λo=>o.bind λj=>(σ[j]?).join
structure CompNames(N0:List Str)(scope:Scope)(N:List Str)(cp:List (Option Nat)):Prop where
 len:cp.length=N.length
 at_:∀(i j:Nat)(x:Str),cp[i]?=some (some j)->N[i]?=some x->N0[j]?=some x/\scope.names.lookup x=some .free
noncomputable def namesOk(N0:List Str)(scope:Scope)(N:List Str)(cp:List (Option Nat)):Bool:=(cp.length==N.length)&&(List.range cp.length).all λi=>match cp[i]?,N[i]? with
 |some (some j),some x=>N0[j]?==some x&&scope.names.lookup x==some .free
 |_,_=>true
theorem CompNames.mk'{N0:List Str}{scope:Scope}{N:List Str}{cp:List (Option Nat)}(h:namesOk N0 scope N cp=true):CompNames N0 scope N cp:=by unfold namesOk at h;rw[Bool.and_eq_true,List.all_eq_true]at h;refine⟨by simpa using h.1,λi j x h1 h2=>?_⟩;have hi:i<cp.length:=(List.getElem?_eq_some_iff.mp h1).1;have q:=h.2 i (List.mem_range.mpr hi);rw[h1,h2]at q;simpa using q
section
variable {X:Cx}{pins:List (Addr×Obj)}{σ:St}{H:Hp}{s:Shared}
theorem Mq{scope:Scope}(I:Inv X pins σ H s)(S:CompScope scope X.env.scope):∀y∈scope.names,y.2=.free->∃c,X.env.cells.lookup y.1=some c:=λy hy e=>I.ok.has y.1 (S.free y hy e)
theorem PL{scope:Scope}{N:List Str}{cp:List (Option Nat)}{fp:List Addr}{od:Obj}{h4:Heap}{tk:Nat}(S:CompScope scope X.env.scope)(CN:CompNames X.N scope N cp)(I:Inv X pins σ H s)(hfp:∀b∈fp,FpOk X pins H b)(hfo:∀b∈fp,∃o,s.heap.get? b=some o)(hod:∀v,od.data≠.cell v)(hns:h4.Ns (s.heap.push od).objs.size (λx=>([]:List (Str×Value)).reverse.lookup x))(hk:∀b o,(s.heap.push od).get? b=some o->h4.get? b=some o)(hfr:od.isFreed=false):Inv (Jo X scope N (s.heap.push od).objs.size {s with heap:=s.heap.push od} H (s.heap.objs.size::fp) (X.pn++pins)) [(s.heap.objs.size,od)] (inner cp σ) H {s with heap:=h4,toks:=tk}:=by
 have cl:=Mq I S;have look:∀x c,(clOf scope X.env).lookup x=some c->X.env.cells.lookup x=some c:=λx=>(JW scope.names [] cl (λc q=>by simp at q)).1;have hasc:∀x,(x,NameKind.free)∈scope.names->∃c,(clOf scope X.env).lookup x=some c:=λx hx=>
  Option.isSome_iff_exists.mp ((JW scope.names [] cl (λc q=>by simp at q)).2 (.inl hx));have kp:∀b o,s.heap.get? b=some o->(s.heap.push od).get? b=some o:=λb o e=>Heap.get?_push_of_some _ e;have kp4:∀b o,s.heap.get? b=some o->h4.get? b=some o:=λb o e=>hk b o (kp b o e);have hz:(s.heap.push od).objs.size=s.heap.objs.size+1:=Heap.size_push ..;have I3:Inv X pins σ H {s with heap:=s.heap.push od}:=I.kept (t':=s.toks) kp;have hD:H s.heap.objs.size=none:=I.hok.fresh (Nat.le_refl _);have hC:H (s.heap.push od).objs.size=none:=I3.hok.fresh (Nat.le_refl _);have hDo:h4.get? s.heap.objs.size=some od:=hk _ _ (Heap.get?_push_size _ hfr);have stk:∀b∈frs X.stack,b<s.heap.objs.size:=λb hb=>by
  rcases List.mem_cons.mp (I.stkSub b hb)with e|e
  ·rw[e];exact I.lt
  ·exact Nat.lt_of_not_le λz=>I.nofs z e
 have fpn:∀b∈fp,b∉frs X.stack:=λb hb hs=>by
  obtain⟨_,g1,g2,_⟩:=hfp b hb;rcases List.mem_cons.mp (I.stkSub b hs)with e|e
  ·exact g1 e
  ·exact g2 e
 have fplt:∀b∈fp,b<s.heap.objs.size:=λb hb=>let ⟨o,e⟩:=hfo b hb;Heap.lt_size e
 refine⟨⟨I.ok.mod,S.kind,I.ok.glob,I.ok.blt,Nat.le_refl _,λx y c h1 h2=>I.ok.inj x y c (look x c h1) (look y c h2),λx hx=>?_,λx c hf _=>(by cases hf),I.ok.hd,I.ok.frames,.inl rfl,λb hb=>?_,I3.bs,Nat.le_trans I.ok.bsz I3.sz,λb o e hb=>?_,λb hb=>?_,I3.stack,I3.stkFree⟩,rfl,I.bare,Un.kept hk,⟨_,hns,λi x v h1 h2 h3=>?_⟩,λx c hx=>?_,hC,λx c hx=>I.freeC x c (look x c hx),λp hp=>?_,I.hok.kept kp4,?_⟩
 ·have hx':(relabel scope X.env).names.lookup x=some .cell\/(relabel scope X.env).names.lookup x=some .free:=hx;rcases hx' with e|e
  ·exact hasc x (VG S.nocell e (.inl rfl))
  ·exact hasc x (VG S.nocell e (.inr rfl))
 ·show b≠(s.heap.push od).objs.size/\∀x c,(clOf scope X.env).lookup x=some c->c≠b;rcases List.mem_cons.mp hb with e|hb
  ·subst e;refine⟨by rw[hz];exact Nat.ne_of_lt (Nat.lt_succ_self _),λx c hx z=>?_⟩;obtain⟨v,q⟩:=I.cell x c (look x c hx);exact absurd q.lt (by rw[z];exact Nat.lt_irrefl _)
  ·exact⟨by rw[hz];exact Nat.ne_of_lt (Nat.lt_succ_of_lt (fplt b hb)),λx c hx=>(hfp b hb).2.2.2.2.1 x c (look x c hx)⟩
 ·rcases List.mem_cons.mp hb with z|hb
  ·subst z;have h1:=Heap.lt_size (I.bk _ _ e);exact Nat.lt_irrefl _ h1
  ·obtain⟨_,_,_,g3,_⟩:=hfp b hb;rcases g3 with g3|g3
   ·exact I.ok.noex b o e g3
   ·have h1:=Heap.lt_size e;have h2:=I.ok.bsz;exact absurd (Nat.lt_of_lt_of_le h1 (Nat.le_trans h2 g3)) (Nat.lt_irrefl _)
 ·show b∉frs X.stack;rcases List.mem_cons.mp hb with z|hb
  ·subst z;exact λz=>Nat.lt_irrefl _ (stk _ z)
  ·exact fpn b hb
 ·have h2':(inner cp σ)[i]?=some (some v):=h2;unfold inner at h2';rw[List.getElem?_map]at h2';cases hc:cp[i]? with
 |none=>rw[hc]at h2';cases h2'
 |some oj=>
   rw[hc]at h2';cases oj with
  |none=>have:(none:Option V)=some v:=Option.some.inj h2';cases this
  |some j=>
    have h2'':(σ[j]?).join=some v:=Option.some.inj h2';have hσ:σ[j]?=some (some v):=by
     cases q:σ[j]? with
    |none=>rw[q]at h2'';cases h2''
    |some o=>rw[q]at h2'';exact congrArg some h2''
    obtain⟨hN,hlook⟩:=CN.at_ i j x hc h1;have hfree:(x,NameKind.free)∈scope.names:=PySem.mem_of_lookup hlook;have hk2:=S.free _ hfree rfl;obtain⟨m,hn,hl⟩:=I.loc;have hvis:Vis X.env.scope x:=hk2.elim (λz=>.inr (.inl z)) λz=>.inr (.inr z);obtain⟨u,ru,lk⟩:=hl j x v hN hσ hvis;refine⟨u,ru,?_⟩;rcases lk with⟨z,_⟩|⟨_,c,hcl,cc⟩
    ·rcases hk2 with q|q<;>(have z':=z.symm.trans q;cases z')
    ·obtain⟨c2,hc2⟩:=hasc x hfree;have hcc:c2=c:=by have:=(look x c2 hc2).symm.trans hcl;exact Option.some.inj this
     subst hcc;obtain⟨o,ho,hd⟩:=cc;refine .inr ⟨?_,c2,hc2,⟨o,kp4 _ _ ho,hd⟩⟩;rcases h3 with q|q|q
     ·have q':=(MA q).symm.trans hlook;cases q'
     ·exact .inl q
     ·exact .inr q
 ·obtain⟨v,o,ho,hd⟩:=I.cell x c (look x c hx);exact⟨v,o,kp4 _ _ ho,hd⟩
 ·have hp':p∈(X.pn++pins)++[(s.heap.objs.size,od)]:=hp;rcases List.mem_append.mp hp' with hp1|hp1
  ·obtain⟨e,n,ne,nf,d⟩:=I.pin p hp1;have hlt:=Heap.lt_size e;refine⟨kp4 _ _ e,n,by show p.1≠(s.heap.push od).objs.size;rw[hz];exact Nat.ne_of_lt (Nat.lt_succ_of_lt hlt),λhb=>?_,d⟩;rcases List.mem_cons.mp (I.stkSub _ hb)with z|z
   ·exact ne z
   ·exact nf z
  ·have e:p=(s.heap.objs.size,od):=by simpa using hp1
   subst e;exact⟨hDo,hD,by show s.heap.objs.size≠(s.heap.push od).objs.size;rw[hz];exact Nat.ne_of_lt (Nat.lt_succ_self _),λz=>Nat.lt_irrefl _ (stk _ z),hod⟩
 ·show(inner cp σ).length=N.length;unfold inner;rw[List.length_map];exact CN.len
end
noncomputable def Zu(its:List Value)(k:Nat):Obj:={cls:=.type "list",data:=.seq its.toArray k}
theorem XQ{its:List Value}{k:Nat}:∀v,(Zu its k).data≠.cell v:=λv z=>by have z':Data.seq its.toArray k=Data.cell v:=z;cases z'
section
variable {X:Cx}
def PTs(X:Cx)(ifs:List Expr)(t:TT):Prop:=
 ∀(pins:List (Addr×Obj))(s:Shared)(σ:St)(H:Hp)(Q:Bool->Hp->Prop),Inv X pins σ H s->t σ H Q ->
  wpAny (model X.prog X.w) X.A (forIn ifs true λc r=>if r=true then do let ok <-isTrue c X.env (eval c X.env);pure (ForInStep.yield ok)else pure (ForInStep.yield r)) (TP X pins σ Q) X.xe s
def tYes:TT:=λ_ H Q=>Q true H
theorem ZO:PTs X [] tYes:=λ_ _ _ H _ I h=>wpAny_tests_nil ⟨H,I,h⟩
theorem Nt{c:Expr}{t:TT}(h:PT X c t):PTs X [c] t:=λpins s σ H Q I hw=>wpAny_tests_one (h pins s σ H Q I hw)
def LW(cp:List (Option Nat))(wi:TI)(g:TG)(tc:TT)(te:TE):TE:=λσ H Q=>wi σ H λJ H1=>∃W:Nat->Nat->List V->St->Hp->Prop,(∃m,W 0 m [] (inner cp σ) H1)/\∀i m ys τ H,W i m ys τ H ->(J.stop i H/\∀l,H l=none->Q (.ref l) (upd H l (.lst ys))) \/(J.go i H/\ys.length<sizeLine/\∃N:List V->St->Hp->Prop,(∀ys' τ' H',N ys' τ' H'->∃m',m'<m/\W (i+1) m' ys' τ' H') /\∀x H',J.yld i H x H'->g x τ H' λτ2 H2=>tc τ2 H2 λb H3=>if b=true then te τ2 H3 λy H4=>N (ys++[y]) τ2 H4 else N ys τ2 H3)
theorem GH{J:It}{g:TG}{tc:TT}{te:TE}{τ0:St}{H0:Hp}{R:List V->Hp->Prop}(n:Nat)(hn:n<=sizeLine)(Pv:Nat->List V->St->Hp->Prop)(h0:Pv 0 [] τ0 H0)(hl:∀i ys τ H,Pv i ys τ H->ys.length<=i)(hgo:∀i ys τ H,i<n->Pv i ys τ H->J.go i H)(hstop:∀ys τ H,Pv n ys τ H->J.stop n H)(hs:∀i ys τ H x H',i<n->Pv i ys τ H->J.yld i H x H'->g x τ H' λτ2 H2=>tc τ2 H2 λb H3=>if b=true then te τ2 H3 λy H4=>Pv (i+1) (ys++[y]) τ2 H4 else Pv (i+1) ys τ2 H3)(hd:∀ys τ H,Pv n ys τ H->R ys H):∃W:Nat->Nat->List V->St->Hp->Prop,(∃m,W 0 m [] τ0 H0)/\∀i m ys τ H,W i m ys τ H ->(J.stop i H/\R ys H) \/(J.go i H/\ys.length<sizeLine/\∃N:List V->St->Hp->Prop,(∀ys' τ' H',N ys' τ' H'->∃m',m'<m/\W (i+1) m' ys' τ' H') /\∀x H',J.yld i H x H'->g x τ H' λτ2 H2=>tc τ2 H2 λb H3=>if b=true then te τ2 H3 λy H4=>N (ys++[y]) τ2 H4 else N ys τ2 H3):=by
 refine⟨λi m ys τ H=>m=n-i/\i<=n/\Pv i ys τ H,⟨n,rfl,Nat.zero_le _,h0⟩,?_⟩;rintro i m ys τ H ⟨rfl,hi,p⟩;by_cases hlt:i<n
 ·refine .inr ⟨hgo i ys τ H hlt p,?_,Pv (i+1),λys' τ' H' p'=>⟨n-(i+1),by omega,rfl,hlt,p'⟩,λx H' y=>hs i ys τ H x H' hlt p y⟩;have:=hl i ys τ H p;omega
 ·have e:i=n:=by omega
  subst e;exact .inl ⟨hstop ys τ H p,hd ys τ H p⟩
theorem ZF{J:It}{g:TG}{te:TE}{τ0:St}{H0:Hp}{R:List V->Hp->Prop}(n:Nat)(hn:n<=sizeLine)(Pv:Nat->List V->St->Hp->Prop)(h0:Pv 0 [] τ0 H0)(hl:∀i ys τ H,Pv i ys τ H->ys.length<=i)(hgo:∀i ys τ H,i<n->Pv i ys τ H->J.go i H)(hstop:∀ys τ H,Pv n ys τ H->J.stop n H)(hs:∀i ys τ H x H',i<n->Pv i ys τ H->J.yld i H x H'->g x τ H' λτ2 H2=>te τ2 H2 λy H4=>Pv (i+1) (ys++[y]) τ2 H4)(hd:∀ys τ H,Pv n ys τ H->R ys H):∃W:Nat->Nat->List V->St->Hp->Prop,(∃m,W 0 m [] τ0 H0)/\∀i m ys τ H,W i m ys τ H ->(J.stop i H/\R ys H) \/(J.go i H/\ys.length<sizeLine/\∃N:List V->St->Hp->Prop,(∀ys' τ' H',N ys' τ' H'->∃m',m'<m/\W (i+1) m' ys' τ' H') /\∀x H',J.yld i H x H'->g x τ H' λτ2 H2=>tYes τ2 H2 λb H3=>if b=true then te τ2 H3 λy H4=>N (ys++[y]) τ2 H4 else N ys τ2 H3):=GH (J:=J) (g:=g) (tc:=tYes) (te:=te) n hn Pv h0 hl hgo hstop hs hd
theorem Yz{elt iter tg:Expr}{ifs:List Expr}{scope:Scope}{pos:Pos}{N:List Str}{cp:List (Option Nat)}{wi:TI}{g:TG}{tc:TT}{te:TE}(hc:X.calm=true){sc:Scope}{N0:List Str}(hS0:CompScope scope sc)(hN0:CompNames N0 scope N cp)(hi:PI X tg iter wi)(hg:∀C s H ex pn,PG (Jo X scope N C s H ex pn) tg g)(ht:∀C s H ex pn,PTs (Jo X scope N C s H ex pn) ifs tc)(he:∀C s H ex pn,PE (Jo X scope N C s H ex pn) elt te)(hsc:X.env.scope=sc:=by rfl)(hxn:X.N=N0:=by rfl)(hs:∀x,foldedSetIterable iter X.env x=pure x:=by intro _;rfl):PE X (.ListComp elt [⟨tg,iter,ifs,0⟩] scope pos) (LW cp wi g tc te):=by
 subst hsc hxn;have hS:=hS0;have hN:=hN0;intro pins s σ H Q I h;rw[eval_ListComp];refine wpAny_comprehension_free (use:=none) (cl:=clOf scope X.env) rfl hs (Mp (Mq I hS)) hS.kind hS.loc (thn (hi pins s σ H _ I h) λv s1 h1=>thn h1 λitv s2 h2=>?_);obtain⟨it,fp,tn,J,H2,rfl,I2,T,st2,f2,W,⟨m0,w0⟩,turn⟩:=h2;refine wpAny_newObj_type (wpAny_newFunctionEnv hS.nocell (by intro y hy;simp at hy) (λh4 hns hsb=>?_) hS.kind);dsimp only at hns hsb ⊢;have hz:(s2.heap.push (Zu [] 0)).objs.size=s2.heap.objs.size+1:=Heap.size_push ..;have hk4:∀b o,(s2.heap.push (Zu [] 0)).get? b=some o->h4.get? b=some o:=λb o e=>hsb.extBut b o (Nat.ne_of_lt (Heap.lt_size e)) (Heap.get?_push_of_some _ e);have hfo:∀b∈fp,∃o,s2.heap.get? b=some o:=λb hb=>let ⟨o,e,_⟩:=T.obj _ _ st2 b hb;⟨o,e⟩
 have fplt:∀b∈fp,b<s2.heap.objs.size:=λb hb=>let ⟨o,e⟩:=hfo b hb;Heap.lt_size e
 generalize hXc:Jo X scope N (s2.heap.push (Zu [] 0)).objs.size {s2 with heap:=s2.heap.push (Zu [] 0)} H2 (s2.heap.objs.size::fp) (X.pn++pins)=Xc;have J0:∀tk,Inv Xc [(s2.heap.objs.size,Zu [] 0)] (inner cp σ) H2 {s2 with heap:=h4,toks:=tk}:=λtk=>by rw[<-hXc];exact PL hS hN I2 f2 hfo XQ hns hk4 rfl
 have hg':PG Xc tg g:=hXc▸hg _ _ _ _ _;have ht':PTs Xc ifs tc:=hXc▸ht _ _ _ _ _;have he':PE Xc elt te:=hXc▸he _ _ _ _ _;have eP:Xc.prog=X.prog:=by rw[<-hXc];rfl
 have eW:Xc.w=X.w:=by rw[<-hXc];rfl
 have eK:Xc.K=X.K:=by rw[<-hXc];rfl
 have eA:Xc.A=X.A:=by rw[<-hXc];rfl
 have eC:Xc.calm=true:=by rw[<-hXc];exact hc
 have eX:Xc.xe=NoX:=by rw[<-hXc];rfl
 have eE:Xc.env=compEnvC scope (clOf scope X.env) (s2.heap.push (Zu [] 0)).objs.size X.env:=by rw[<-hXc];rfl
 have eL:Xc.env.locals=(s2.heap.push (Zu [] 0)).objs.size:=by rw[eE];rfl
 have eFs:Xc.fs=frs X.stack:=by rw[<-hXc];rfl
 have eEx:Xc.ex=s2.heap.objs.size::fp:=by rw[<-hXc];rfl
 have eH0:Xc.H₀=H2:=by rw[<-hXc];rfl
 have eS0:Xc.s₀={s2 with heap:=s2.heap.push (Zu [] 0)}:=by rw[<-hXc];rfl
 have ePn:Xc.pn=X.pn++pins:=by rw[<-hXc];rfl
 have stk:∀b∈frs X.stack,b<s2.heap.objs.size:=λb hb=>by
  rcases List.mem_cons.mp (I2.stkSub b hb)with e|e
  ·rw[e];exact I2.lt
  ·exact Nat.lt_of_not_le λz=>I2.nofs z e
 have hDne:s2.heap.objs.size≠Xc.env.locals:=by rw[eL,hz];exact Nat.ne_of_lt (Nat.lt_succ_self _)
 have hDfs:s2.heap.objs.size∉Xc.fs:=by rw[eFs];exact λz=>Nat.lt_irrefl _ (stk _ z)
 have hDp:∀p∈Xc.pn,p.1≠s2.heap.objs.size:=λp hp=>by rw[ePn]at hp;exact Nat.ne_of_lt (Heap.lt_size (I2.pin p hp).1)
 have hDc:∀{τ:St}{H':Hp}{s':Shared}{ps:List (Addr×Obj)},Inv Xc ps τ H' s'->∀x c,Xc.env.cells.lookup x=some c->c≠s2.heap.objs.size:=λI' x c e=>(I'.ok.exf _ (by rw[eEx];exact List.mem_cons_self)).2 x c e;have stat:∀{τ:St}{H':Hp}{s':Shared}{ps:List (Addr×Obj)}{o:Obj},Inv Xc ps τ H' s'->(∀b∈fp,H' b=none)->∀b∈fp,FpOk Xc [(s2.heap.objs.size,o)] H' b:=λI' hn b hb=>by
  have q:=I'.ok.exf b (by rw[eEx];exact List.mem_cons_of_mem _ hb);refine⟨hn b hb,q.1,I'.ok.exfs b (by rw[eEx];exact List.mem_cons_of_mem _ hb),.inl (by rw[eEx];exact List.mem_cons_of_mem _ hb),q.2,λp hp=>?_⟩;rcases List.mem_append.mp hp with hp|hp
  ·rw[ePn]at hp;exact(f2 b hb).2.2.2.2.2 p hp
  ·have e:p.1=s2.heap.objs.size:=by rw[List.mem_singleton]at hp;rw[hp]
   rw[e];exact Nat.ne_of_gt (fplt b hb)
 have run:∀s5:Shared,(∃tk,s5={s2 with heap:=h4,toks:=tk})->codeAny (model X.prog X.w) X.A (.compLoop (.ListComp elt [⟨tg,iter,ifs,0⟩] scope pos) 0 (.ref it) (.ref s2.heap.objs.size) Xc.env) (compPost (model X.prog X.w) X.A X.xe none (EP X pins σ Q) (.ref s2.heap.objs.size) (s2.heap.push (Zu [] 0)).objs.size) s5:=by
  rintro s5 ⟨tk,rfl⟩;refine Gm (λn s'=>∃i ys τ H' its k,Inv Xc [(s2.heap.objs.size,Zu its k)] τ H' s'/\Vals ys its/\tn i s'.heap/\(∀b∈fp,H' b=none)/\W i n ys τ H'/\ys.length<=sizeLine) ?_ m0 ⟨0,[],inner cp σ,H2,[],0,J0 tk,.nil,T.keep _ _ _ st2 λb hb o e=>hk4 b o (Heap.get?_push_of_some _ e),λb hb=>(f2 b hb).1,w0,Nat.zero_le _⟩;rintro n s3 ⟨i,ys,τ,H3,its,k,I3,rv,st3,fr3,w3,hl3⟩;rcases turn i n ys τ H3 w3 with⟨stop,qn⟩|⟨go,hl,Nw,hNw,step⟩
  ·have dn:=T.done Xc eP eW eK eC i _ s3 τ H3 NoX I3 (stat I3 fr3) st3 stop;rw[eA]at dn;refine thn dn λr s4⟨hr,I4⟩=>?_;subst hr;obtain⟨m,hn,_⟩:=id I4.loc;rw[eL]at hn;refine⟨m,hn,λh' hs'=>?_⟩;obtain⟨eD,nD,_⟩:=I4.pin (s2.heap.objs.size,Zu its k) (List.mem_append_right _ List.mem_cons_self);have u4:=I4.base;rw[eFs,eEx,eH0,eS0]at u4;have hD2:H2 s2.heap.objs.size=none:=I2.hok.fresh (Nat.le_refl _);have hfree:=I4.free;rw[eL]at hfree;have kp:∀b o,s2.heap.get? b=some o->(s2.heap.push (Zu [] 0)).get? b=some o:=λb o e=>Heap.get?_push_of_some _ e;have nD':∀b o,s2.heap.get? b=some o->b≠s2.heap.objs.size:=λb o e=>Nat.ne_of_lt (Heap.lt_size e);have nC':∀b o,s2.heap.get? b=some o->b≠(s2.heap.push (Zu [] 0)).objs.size:=λb o e=>by rw[hz];exact Nat.ne_of_lt (Nat.lt_succ_of_lt (Heap.lt_size e))
   have nex:∀b o,s2.heap.get? b=some o->b∉fp->b∉s2.heap.objs.size::fp:=λb o e hb z=>(List.mem_cons.mp z).elim (nD' b o e) hb;refine⟨.ref s2.heap.objs.size,upd H3 s2.heap.objs.size (.lst ys),?_,rfl,qn _ nD⟩;refine I2.call' (s':={s4 with heap:=h'}) (ch:=fp) ?_ ⟨λb o e n hb hx=>?_,λb o e n hb hx=>?_,λb o e n hx=>?_,λb o e hx=>?_,λb xs q=>?_,λb o u q=>?_,λb ps q=>?_⟩ ?_ I4.bare λb hb=>?_
   ·have:=I4.os;rw[eS0]at this;exact this
   ·exact(hs'.2 b (nC' b o e)).trans (u4.keep b o (kp b o e) n hb (nex b o e hx))
   ·obtain⟨sl,q⟩:=u4.slot b o (kp b o e) n hb (nex b o e hx);exact⟨sl,(hs'.2 b (nC' b o e)).trans q⟩
   ·rw[Ze (nD' b o e)];exact u4.free b o (kp b o e) n (nex b o e hx)
   ·obtain⟨o',q⟩:=u4.there b o (kp b o e) (nex b o e hx);exact⟨o',(hs'.2 b (nC' b o e)).trans q⟩
   ·rw[Ze (Zf q hD2)];exact u4.tups b xs q
   ·rw[Ze (Zf q hD2)];exact u4.frzs b o u q
   ·rw[Ze (Zf q hD2)];exact u4.tbls b ps q
   ·intro b ob q;have keepC:∀c v,H3 c≠none->s4.heap.get? c=some v->h'.get? c=some v:=λc v hc q=>(hs'.2 c (λz=>hc (by rw[z];exact hfree))).trans q;by_cases hb:b=s2.heap.objs.size
    ·subst hb;rw[Zc]at q;cases q;exact⟨hl3,its,k,rv,(hs'.2 _ (by rw[hz];exact Nat.ne_of_lt (Nat.lt_succ_self _))).trans eD⟩
    ·rw[Ze hb]at q;have ok4:ZJ X.prog X.w H3 s4.heap b ob:=by have:=I4.hok b ob q;rw[eP,eW]at this;exact this
     refine ok4.stay (λc v hc' q'=>keepC c v ?_ q') (λc q'=>by rw[Ze (Zf q' nD)];exact q') λc xs q'=>by rw[Ze (Zf q' nD)];exact q'
     rcases hc' with rfl|hc'
     ·rw[q];simp
     ·rw[hc'];simp
   ·obtain⟨g0,g1,g2,g3,g4,g5⟩:=f2 b hb;exact⟨g3,g1,g4,g5⟩
  ·have itm:=T.item Xc eP eW eK eC i _ s3 τ H3 NoX I3 (stat I3 fr3) st3 go;rw[eA]at itm;refine thn itm λr s4⟨u,hr,h4'⟩=>?_;subst hr;refine thn h4' λ_ s5⟨x,H5,I5,r5,y5,st5,fr5⟩=>?_;have I5':=I5.pinned (stat I5 fr5) (T.obj _ _ st5);have a1:=hg' _ s5 τ H5 x u _ I5' r5 (step x H5 y5);rw[eP,eW,eA,eX]at a1;refine thn a1 λ_ s6⟨τ6,H6,I6,q6⟩=>?_;have a2:=ht' _ s6 τ6 H6 _ I6 q6;rw[eP,eW,eA,eX]at a2;refine thn a2 λok s7⟨H7,I7,q7⟩=>?_;have tnAt:∀{τ':St}{H':Hp}{s':Shared},Inv Xc ([(s2.heap.objs.size,Zu its k)]++UK fp s5.heap) τ' H' s'->tn (i+1) s'.heap/\∀b∈fp,H' b=none:=λI'=>
    ⟨T.keep _ _ _ st5 λb hb o e=>(I'.pin (b,o) (List.mem_append_right _ (List.mem_append_right _ (mem_pinsAt hb e)))).1,λb hb=>by
     obtain⟨o,e,d⟩:=T.obj _ _ st5 b hb;exact(I'.pin (b,o) (List.mem_append_right _ (List.mem_append_right _ (mem_pinsAt hb e)))).2.1⟩;cases ok with
  |false=>rw[if_neg Bool.false_ne_true]at q7;rw[if_neg Bool.false_ne_true];obtain⟨m',hm,w7⟩:=hNw _ _ _ q7;exact⟨m',hm,i+1,ys,τ6,H7,its,k,I7.unpinned,rv,(tnAt I7).1,(tnAt I7).2,w7,hl3⟩
  |true=>
    rw[if_pos rfl]at q7;rw[if_pos rfl];have a3:=he' _ s7 τ6 H7 _ I7 q7;rw[eP,eW,eA,eX]at a3;refine thn a3 λv s8⟨y,H8,I8,r8,q8⟩=>?_;obtain⟨m',hm,w8⟩:=hNw _ _ _ q8;obtain⟨eD,nD,_⟩:=I8.pin (s2.heap.objs.size,Zu its k) (List.mem_append_right _ (List.mem_append_left _ List.mem_cons_self));have hlen:=rv.length;refine call_meets F.slot_list_append ⟨_,eD,rfl⟩ F.entry_list_append (F.args_list_append_2 _ _) (PySem.list_append s2.heap.objs.size its.toArray k v (by rw[List.size_toArray];omega)) ⟨eD,?_⟩;have q0:=PySem.IsL.update eD (·.push v);obtain⟨k',q⟩:∃k',(s8.heap.update s2.heap.objs.size (Obj.mapSeq (·.push v))).get? s2.heap.objs.size=some (Zu (its++[v]) k'):=⟨_,by
     have e:(its++[v]).toArray=its.toArray.push v:=by simp
     unfold Zu;rw[e];exact q0⟩;have I9:Inv Xc [] τ6 H8 s8:=I8.pins_of λp hp=>absurd (show p∈([]:List (Addr×Obj))from hp) (by simp);refine⟨m',hm,i+1,ys++[y],τ6,H8,its++[v],k',?_,rv.append (.cons r8 .nil),T.keep _ _ _ (tnAt I8).1 λb hb o e=>?_,(tnAt I8).2,w8,?_⟩
    ·refine Inv.pins_of (pins:=[]) (I9.turned (t':=s8.toks) (it:=s2.heap.objs.size) (λb o hb e=>(Heap.get?_update_other _ _ (Ne.symm hb)).trans e) nD hDne (.inl (by rw[eEx];exact List.mem_cons_self)) (hDc I9) (λp hp=>hDp p (by simpa using hp))) λp hp=>?_;have e:p=(s2.heap.objs.size,Zu (its++[v]) k'):=by simpa using hp
     subst e;exact⟨q,nD,hDne,hDfs,XQ⟩
    ·exact(Heap.get?_update_other _ _ (Nat.ne_of_gt (fplt b hb))).trans e
    ·rw[List.length_append,List.length_singleton];omega
 have st4:tn 0 h4:=T.keep _ _ _ st2 λb hb o e=>hk4 b o (Heap.get?_push_of_some _ e);have fin:=codeAny_compStart_list (run _ ⟨_,rfl⟩) (T.self X.A 0 {s2 with heap:=h4,toks:=s2.toks+([]:List (Str×Value)).length} _ (notedBy (model X.prog X.w) X.A Xc.env λx s'=>(compPost (model X.prog X.w) X.A X.xe none (EP X pins σ Q) (.ref s2.heap.objs.size) (s2.heap.push (Zu [] 0)).objs.size) (.error x) s') st4 (run _ ⟨_,rfl⟩));rw[eE]at fin;exact fin
theorem KS{bs:List Bool}:∀{us:List Value},Vals (bs.map V.bl) us->∀(i:Nat)(v:Value),us[i]?=some v->∃b,bs[i]?=some b/\v=.bool b:=by
 induction bs with
|nil=>intro us r i v e;rw[List.map_nil]at r;cases r;simp at e
|cons b bs ih=>
  intro us r i v e;rw[List.map_cons]at r;cases r with
 |cons r1 r2=>
   cases i with
  |zero=>simp at e;subst e;exact⟨b,rfl,r1⟩
  |succ i=>obtain⟨b',h1,h2⟩:=ih r2 i v (by simpa using e);exact⟨b',by simpa using h1,h2⟩
theorem all_range(bs:List Bool):(List.range bs.length).all (λi=>bs.getD i true)=bs.all id:=by
 rw[Bool.eq_iff_iff,List.all_eq_true,List.all_eq_true];constructor
 ·intro h b hb;obtain⟨i,hi⟩:=List.mem_iff_getElem?.mp hb;have hl:i<bs.length:=(List.getElem?_eq_some_iff.mp hi).1;have:=h i (List.mem_range.mpr hl);rw[List.getD_eq_getElem?_getD,hi]at this;exact this
 ·intro h i hi;have hl:=List.mem_range.mp hi;rw[List.getD_eq_getElem?_getD,List.getElem?_eq_getElem hl];exact h _ (List.getElem_mem hl)
theorem KC(hc:X.calm=true):YM X (.builtin "all") (λxs H Q=>∃(p:Addr)(bs:List Bool),xs=[.ref p]/\SqL X.K H p (bs.map V.bl)/\Q (.bl (bs.all id)) H):=by
 intro pins s σ H xs us Q I r h;obtain⟨p,bs,rfl,hq,q⟩:=h;obtain⟨u,rfl,ru⟩:=vals1 r;cases ru;obtain⟨its,rv,pl,hz⟩:=I.list hq;have hl:=rv.length;rw[List.length_map]at hl;refine call_all_walk (wpAny_pyIter_list pl.isList ?_);have hne:p≠s.heap.objs.size:=by obtain⟨o,n,e,_⟩:=pl;exact Nat.ne_of_lt (Heap.lt_size e)
 refine⟨s.heap.objs.size,_,_,_,_,_,λi=>bs.getD i true,rfl,Walks.list (A:=X.A.in1) (I.ok.hd hc) s.heap.objs.size p hne its.toArray,⟨⟨_,Heap.get?_push_size _ rfl,rfl,rfl⟩,?_⟩,λi v s' Q' E' hp hQ=>?_,λh' tk kk=>?_⟩
 ·obtain⟨o,e,c,n,d⟩:=pl.isList;exact⟨o,Heap.get?_push_of_some _ e,c,n,d⟩
 ·obtain⟨b,hb,rfl⟩:=KS rv i v (by simpa using hp);have:bs.getD i true=b:=by rw[List.getD_eq_getElem?_getD,hb];rfl
  exact wpAny_truthy_bool (this▸hQ)
 ·have e:(List.range its.toArray.size).all (λi=>bs.getD i true)=bs.all id:=by rw[List.size_toArray,<-hl];exact all_range bs
  rw[e];refine⟨.bl (bs.all id),H,I.kept (t':=tk) λb o q=>?_,rfl,q⟩;exact kk b o (by simp;exact Nat.ne_of_lt (Heap.lt_size q)) (Heap.get?_push_of_some _ q)
theorem KW{ys:List Str}:∀{us:List Value},Vals (ys.map V.str) us->StrsAre us ys:=by
 induction ys with
|nil=>intro us r;rw[List.map_nil]at r;cases r;exact .nil
|cons y ys ih=>
  intro us r;rw[List.map_cons]at r;cases r with
 |cons r1 r2=>obtain⟨t,e⟩:=r1;subst e;exact .cons y t (ih r2)
theorem XO:MtR X "str.join" (λx vs H Q=>∃(z:Str)(p:Addr)(ys:List Str),x=.str z/\vs=[.ref p]/\SqL X.K H p (ys.map V.str)/\(ys.map (·.length)).sum+ys.length*z.length<=16777216/\Q (.str (Txt.join z ys)) H):=by intro pins s σ H x xs v us Q I rx rs h;obtain⟨z,p,ys,rfl,rfl,hq,hz,q⟩:=h;obtain⟨t,rfl⟩:=rx;obtain⟨u,rfl,ru⟩:=vals1 rs;cases ru;obtain⟨its,rv,pl,hl⟩:=I.list hq;exact join_list pl.isList (by simpa using KW rv) hz λt' k=>⟨.str (Txt.join z ys),H,I.tok k,⟨t',rfl⟩,q⟩
theorem TK:YM X (.type "int") (λxs H Q=>∃z n,xs=[.str z]/\PySem.intText? z=some n/\z.length<=640/\Q (.int n) H):=by intro pins s σ H xs us Q I r h;obtain⟨z,n,rfl,hn,hl,q⟩:=h;obtain⟨u,rfl,ru⟩:=vals1 r;obtain⟨t,rfl⟩:=ru;exact PySem.W.KIN.call_text hn hl ⟨.int n,H,I.tok _,⟨_,rfl⟩,q⟩
theorem Qy:SlR X (λx lo hi H Q=>∃z,x=.str z/\z.length<=sizeLine/\Q (.str (Txt.slice z lo hi)) H):=by
 intro pins s σ H x v vl vu lo hi sl Q I rx hs pl pu h;obtain⟨z,rfl,hz,q⟩:=h;obtain⟨t,rfl⟩:=rx;have fin:∀t' k,EP X pins σ Q (.str (Txt.slice z lo hi) t') {s with toks:=k}:=λt' k=>⟨.str _,H,I.tok k,⟨t',rfl⟩,q⟩;have len:=Nat.le_trans (Txt.slice_le z lo hi) hz;refine⟨"str",_,PyProof.Rows.slot_str_getitem.lookup,typeIs_str _ _ _,?_⟩;obtain⟨o,ho,hc,hd⟩:=hs;cases pl with
|none=>
  cases pu with
 |none=>exact wpAny_getItem_str_slice (l:=none) (u:=none) (st:=none) ⟨o,ho,hc,hd⟩ rfl (post_val_or_str ⟨len,fin⟩)
 |int j uj=>exact wpAny_getItem_str_slice (l:=none) (u:=some (j,uj)) (st:=none) ⟨o,ho,hc,hd⟩ rfl (post_val_or_str ⟨len,fin⟩)
|int i ui=>
  cases pu with
 |none=>exact wpAny_getItem_str_slice (l:=some (i,ui)) (u:=none) (st:=none) ⟨o,ho,hc,hd⟩ rfl (post_val_or_str ⟨len,fin⟩)
 |int j uj=>exact wpAny_getItem_str_slice (l:=some (i,ui)) (u:=some (j,uj)) (st:=none) ⟨o,ho,hc,hd⟩ rfl (post_val_or_str ⟨len,fin⟩)
def Fg(i j:Int):Prop:=0<j/\j.natAbs.log2<9000
theorem WX:OpR X (binaryOp .FloorDiv) (rI Fg λi j=>.int (i / j)):=opI λi j _ _ _ _ _ hc q=>by have h1:(0:Int)<j:=hc.1;exact floordiv_int (by omega) (by rw[Int.fdiv_eq_ediv_of_nonneg i (by omega)];exact q) (.inl (PyProof.noPylong_of_log2 hc.2))
theorem KA:YM X (.builtin "isinstance") (λxs H Q=>∃x c t b,xs=[x,.ty c]/\TyOf X.K H x t/\PySem.W.kitOne X.K t (.type c)=some b/\Q (.bl b) H):=by intro pins s σ H xs us Q I r h;obtain⟨x,c,t,b,rfl,ty,e,q⟩:=h;obtain⟨u,w',rfl,ru,rw'⟩:=vals2 r;cases rw';exact MN I ru ty e λtk=>⟨.bl b,H,I.tok tk,rfl,q⟩
end
theorem Mv:bootBuiltins "int"=some (.type "int"):=by decide +kernel
theorem LL:bootBuiltins "bool"=some (.type "bool"):=by decide +kernel
theorem YV:bootBuiltins "str"=some (.type "str"):=by decide +kernel
def Df(K:PySem.W.Frag)(mg:Str->Option Value)(x:Str)(st:Stmt)(ps:List Str):Prop:=∃f fd,Fun K x x st f fd/\mg x=some (.ref f)/\Binds K fd ps []
def Can(P:Program)(w:World)(K:PySem.W.Frag)(mg:Str->Option Value)(base:Heap)(k:Nat)(x:Str)(ps:List Str)(sp:Sp):Prop:=∃f fd,FnOk P w K mg base CX0 k f fd ps sp/\mg x=some (.ref f)/\PySem.W.keepIn K (.ref f)=true/\Binds K fd ps []
section
variable {P:Program}{w:World}{K:PySem.W.Frag}{mg:Str->Option Value}{base:Heap}
theorem Can.mono{j k:Nat}{x:Str}{ps:List Str}{sp:Sp}(C:Can P w K mg base j x ps sp)(h:j<=k):Can P w K mg base k x ps sp:=by obtain⟨f,fd,F,r⟩:=C;exact⟨f,fd,F.mono h,r⟩
theorem Df.can{x:Str}{st:Stmt}{N ps:List Str}{k:Nat}{sp:Sp}(D:Df K mg x st ps)(S:FnScope N ps (Zg st))(len:∀vs H Q E,sp vs H Q E->vs.length=ps.length)(hbody:∀(f:Addr)(cdv:Value)(A:Around)(outer:List Env)(s:Shared)(H:Hp)(vs:List V)(Q:VK)(E:XK),Room k (A.deeper (envOfC x (Zg st) s.heap.objs.size f cdv))->sp vs H Q E ->∃t,PSs (cxOf CX0 P w K mg base N x (Zg st) f cdv A outer s H E).nox (ZX st) t/\t {nx:=λ_ H'=>Q .non H',rt:=Q} (start N vs) H):Can P w K mg base (k+1) x ps sp:=by obtain⟨f,fd,F,m,b⟩:=D;exact⟨f,fd,F.ok S len (λcdv A outer s H vs Q E hr h=>hbody f cdv A outer s H vs Q E hr h),m,F.kp,b⟩
end
section
variable {X:Cx}
theorem ZS{k:Nat}{x:Str}{ps:List Str}{sp:Sp}{p pos:Pos}{e:Expr}{es:List Expr}{t:TA}(C:Can X.prog X.w X.K X.mg X.base k x ps sp)(hr:Room k X.A)(hg:Gl X x)(ha:PA X (e::es) t)(hdb:(x==("__debug__":Str))=false:=by decide)(he:starEach (e::es) X.env=(false,eval e X.env)::starEach es X.env:=by rfl)(hpl:(backTo pos (starEach es X.env)).any (·.1)=false:=by rfl):PE X (.Call (.Name x p) (e::es) [] pos) (Rk sp [] E0 t):=by obtain⟨f,fd,F,m,kp,b⟩:=C;exact RI F hr hg m kp b .nil VJ ha hdb he hpl
end
inductive Th(H:Hp):V->String->Prop where
|non:Th H .non "NoneType"
|bl (b:Bool):Th H (.bl b) "bool"
|int (i:Int):Th H (.int i) "int"
|str (z:Str) (h:z.length<=1000):Th H (.str z) "str"
|lst {a:Addr}{xs:List V} (e:H a=some (.lst xs)):Th H (.ref a) "list"
|tup {a:Addr}{xs:List V} (e:H a=some (.tup xs)):Th H (.ref a) "tuple"
|dK {a:Addr}{kvs:List (Key×V)} (e:H a=some (.dK kvs)):Th H (.ref a) "dict"
theorem Th.ty{K:PySem.W.Frag}{H:Hp}{v:V}{T:String}(h:Th H v T):TyOf K H v (.type T):=by
 cases h with
|non=>exact .non
|bl b=>exact .bl b
|int i=>exact .int i
|str z h=>exact .str z
|lst e=>exact .lst e
|tup e=>exact .tup e
|dK e=>exact .dK e
theorem Th.same{H H':Hp}(s:Same H H'){v:V}{T:String}(h:Th H v T):Th H' v T:=by
 cases h with
|non=>exact .non
|bl b=>exact .bl b
|int i=>exact .int i
|str z h=>exact .str z h
|lst e=>exact .lst (s _ _ e)
|tup e=>exact .tup (s _ _ e)
|dK e=>exact .dK (s _ _ e)
section
variable (K:PySem.W.Frag)
theorem DZ:PySem.W.kitOne K (.type "NoneType") (.type "int")=some false:=by kernel_rfl
theorem D0:PySem.W.kitOne K (.type "NoneType") (.type "bool")=some false:=by kernel_rfl
theorem DY:PySem.W.kitOne K (.type "NoneType") (.type "str")=some false:=by kernel_rfl
theorem Ee:PySem.W.kitOne K (.type "bool") (.type "int")=some true:=by kernel_rfl
theorem Ef:PySem.W.kitOne K (.type "bool") (.type "bool")=some true:=by kernel_rfl
theorem Ed:PySem.W.kitOne K (.type "bool") (.type "str")=some false:=by kernel_rfl
theorem D8:PySem.W.kitOne K (.type "int") (.type "int")=some true:=by kernel_rfl
theorem D9:PySem.W.kitOne K (.type "int") (.type "bool")=some false:=by kernel_rfl
theorem D7:PySem.W.kitOne K (.type "int") (.type "str")=some false:=by kernel_rfl
theorem DW:PySem.W.kitOne K (.type "str") (.type "int")=some false:=by kernel_rfl
theorem DX:PySem.W.kitOne K (.type "str") (.type "bool")=some false:=by kernel_rfl
theorem W6:PySem.W.kitOne K (.type "str") (.type "str")=some true:=by kernel_rfl
theorem D4:PySem.W.kitOne K (.type "list") (.type "int")=some false:=by kernel_rfl
theorem D6:PySem.W.kitOne K (.type "list") (.type "bool")=some false:=by kernel_rfl
theorem D3:PySem.W.kitOne K (.type "list") (.type "str")=some false:=by kernel_rfl
theorem DU:PySem.W.kitOne K (.type "tuple") (.type "int")=some false:=by kernel_rfl
theorem DV:PySem.W.kitOne K (.type "tuple") (.type "bool")=some false:=by kernel_rfl
theorem DT:PySem.W.kitOne K (.type "tuple") (.type "str")=some false:=by kernel_rfl
theorem Eb:PySem.W.kitOne K (.type "dict") (.type "int")=some false:=by kernel_rfl
theorem Ec:PySem.W.kitOne K (.type "dict") (.type "bool")=some false:=by kernel_rfl
theorem Ea:PySem.W.kitOne K (.type "dict") (.type "str")=some false:=by kernel_rfl
end
noncomputable def Ek:V->Bool
|.str _=>true
|_=>false
noncomputable def W7:V->Bool
|.int _=>true
|_=>false
noncomputable def Dg:V->Bool
|.bl _=>true
|_=>false
theorem Th.kitS{K:PySem.W.Frag}{H:Hp}{v:V}{T:String}(h:Th H v T):PySem.W.kitOne K (.type T) (.type "str")=some (Ek v):=by
 cases h with
|non=>exact DY K
|bl b=>exact Ed K
|int i=>exact D7 K
|str z h=>exact W6 K
|lst e=>exact D3 K
|tup e=>exact DT K
|dK e=>exact Ea K
theorem Th.kitB{K:PySem.W.Frag}{H:Hp}{v:V}{T:String}(h:Th H v T):PySem.W.kitOne K (.type T) (.type "bool")=some (Dg v):=by
 cases h with
|non=>exact D0 K
|bl b=>exact Ef K
|int i=>exact D9 K
|str z h=>exact DX K
|lst e=>exact D6 K
|tup e=>exact DV K
|dK e=>exact Ec K
theorem Th.kitI{K:PySem.W.Frag}{H:Hp}{v:V}{T:String}(h:Th H v T):PySem.W.kitOne K (.type T) (.type "int")=some (W7 v||Dg v):=by
 cases h with
|non=>exact DZ K
|bl b=>exact Ee K
|int i=>exact D8 K
|str z h=>exact DW K
|lst e=>exact D4 K
|tup e=>exact DU K
|dK e=>exact Eb K
section
variable {X:Cx}
def tIsi(K:PySem.W.Frag)(c:String)(te:TE):TE:=tCB (λxs H Q=>∃x c t b,xs=[x,.ty c]/\TyOf K H x t/\PySem.W.kitOne K t (.type c)=some b/\Q (.bl b) H) (MH te (MH (tC (.ty c)) tNil))
theorem UL{e:Expr}{te:TE}{c:String}{cx:Str}{p p2 pos:Pos}(he:PE X e te)(hg:Gl X "isinstance")(hm:X.mg "isinstance"=none)(hg2:Gl X cx)(hm2:X.mg cx=none)(hb:bootBuiltins cx=some (.type c))(hn:cx≠"__name__":=by decide)(hd:(cx==("__debug__":Str))=false:=by decide)(hs:starEach [e,.Name cx p2] X.env=(false,eval e X.env)::starEach [.Name cx p2] X.env:=by rfl):PE X (.Call (.Name "isinstance" p) [e,.Name cx p2] [] pos) (tIsi X.K c te):=ZI (p:=p) (pos:=pos) (KA (X:=X)) hg hm PyProof.Rows.boot_isinstance (Zh he (Zh (Nx (v:=V.ty c) (pos:=p2) hg2 hm2 hb rfl hn hd) Zb) hs) (he:=hs)
end
def RecX(B:Heap)(x:Addr)(c:Value)(dd:Option Addr)(fl:Value)(h:Heap):Prop:=∃o vs,h.get? x=some o/\o.cls=c/\o.dict=dd/\o.data=.fields vs/\1<vs.size /\((vs[1]?=some .none/\fl=.none)\/∃T oT ts,vs[1]?=some (.ref T)/\B.get? T=none/\T≠x/\h.get? T=some oT/\oT.data=.fields ts/\ts[3]?=some fl)
structure Fly(B:Heap)(l:List Env)(x:Addr)(c:Value)(dd:Option Addr)(fl:Value)(h:Heap):Prop where
 keep:B.StaysIn h
 new:B.get? x=none
 frames:h.FunFrames B l
 row:RecX B x c dd fl h
theorem SD(o:Obj)(f:Array Value->Array Value):(o.mapFields f).dict=o.dict:=by obtain⟨c,d,dt,sl⟩:=o;cases dt<;>rfl
theorem YT{h:Heap}{b T:Addr}{o oT:Obj}{ts:Array Value}(hb:h.get? b=some o)(hn:∀vs,o.data≠.fields vs)(hT:h.get? T=some oT)(hd:oT.data=.fields ts):b≠T:=by rintro rfl;rw[hT]at hb;cases hb;exact hn ts hd
section
variable {M:Model}{A:Around}{E:Value->Shared->Prop}{s:Shared}{B:Heap}{env:Env}{outer:List Env}{L x:Addr}{c:Value}{dd:Option Addr}{Q:Unit->Shared->Prop}
theorem MP{o:Obj}{vs:Array Value}{head:Value}{had:Bool}(hfr:A.frames=some (env::outer))(hf:env.frame=some L)(hl:s.heap.FunFrames B (env::outer))(hk:B.StaysIn s.heap)(hn:B.get? x=none)
  (hx:s.heap.get? x=some o) (hc:o.cls=c) (hdd:o.dict=dd) (hd:o.data=.fields vs) (hz:1<vs.size)
  (hQ:∀h',Fly B (env::outer) x c dd (rawInt L) h'->s.heap.UpToSlots h'->Q () {s with heap:=h'}):
  wpAny M A (do let fr <-frameOf env;let pl <-entryPlaceOf L had;let t <-EntryCells.newEntry head fr .none (rawInt L) .none pl;setField (.ref x) 1 t) Q E s:=by
 have xf:x∉(env::outer).filterMap (·.frame):=λhm=>by
  obtain⟨_,u,hu,hnf⟩:=hl.mem hm
  rw[hx]at hu
  cases hu
  exact hnf vs hd
 refine wpAny_bind (wpAny_frameOf_fun hfr hl hf λh1 so=>?_)
 refine wpAny_bind (wpAny_entryPlaceOf λpl hpl=>?_)
 unfold EntryCells.newEntry newFields
 refine wpAny_bind (wpAny_newObj_type ?_ (hpl.sizeOk5 _ _ _ _ _))
 have x1:h1.get? x=some o:=(so.2.1 x xf).trans hx
 have k1:B.StaysIn h1:=λb u hb=>(so.2.1 b λhm=>by rw[(hl.mem hm).1]at hb;cases hb).trans (hk b u hb)
 generalize hOT:({cls:=.type "traceback",dict:=none,data:=.fields ([head,.ref L,.none,rawInt L,.none]++(if pl.isEmpty then List.replicate 6 Value.none else pl)).toArray}:Obj)=oT
 have x2:(h1.push oT).get? x=some o:=Heap.get?_push_of_some _ x1
 have nT:h1.objs.size≠x:=Nat.ne_of_gt (Heap.lt_size x1)
 have d3:=Obj.data_mapFields hd (·.setIfInBounds 1 (Value.ref h1.objs.size))
 have x3:=Heap.get?_update_self (Obj.mapFields (·.setIfInBounds 1 (Value.ref h1.objs.size))) x2 (Obj.isFreed_of_fields d3)
 refine wpAny_setField x2 hd hz (hQ _ ?_ ?_)
 ·have other:∀b u,b≠x->h1.get? b=some u->((h1.push oT).update x (Obj.mapFields (·.setIfInBounds 1 (Value.ref h1.objs.size)))).get? b=some u:=λb u hb q=>by
   rw[Heap.get?_update_other _ _ (Ne.symm hb)]
   exact Heap.get?_push_of_some _ q
  refine⟨λb u hb=>other b u (λq=>by rw[q,hn]at hb;cases hb) (k1 b u hb),hn,hl.of_keeps λb u hb hnf=>?_,?_⟩
  ·obtain⟨sl,q⟩:=so.2.2 b u hb
   exact⟨_,other b _ (YT hb hnf hx hd) q,rfl⟩
  ·have oTf:oT.isFreed=false:=by rw[<-hOT];rfl
   refine⟨_,_,x3,(Obj.cls_mapFields _ _).trans hc,(SD _ _).trans hdd,d3,by simpa using hz,.inr ⟨h1.objs.size,oT,([head,.ref L,.none,rawInt L,.none]++(if pl.isEmpty then List.replicate 6 Value.none else pl)).toArray,by simp[hz],k1.fresh,nT,?_,by rw[<-hOT],?_⟩⟩
   ·rw[Heap.get?_update_other _ _ (Ne.symm nT)]
    exact Heap.get?_push_size h1 oTf
   ·first
    |(simp;done)
    |(rcases hpl with rfl|⟨_,_,_,_,_,_,_,rfl⟩<;>simp)
 ·intro b u hb hnf
  obtain⟨sl,q⟩:=so.2.2 b u hb
  refine⟨sl,?_⟩
  rw[Heap.get?_update_other _ _ (Ne.symm (YT hb hnf hx hd))]
  exact Heap.get?_push_of_some _ q
theorem PV(hfr:A.frames=some (env::outer))(hf:env.frame=some L)(F:Fly B (env::outer) x c dd .none s.heap)(hQ:∀h',Fly B (env::outer) x c dd (rawInt L) h'->s.heap.UpToSlots h'->Q () {s with heap:=h'}):wpAny M A (noteFrame (.ref x) env) Q E s:=by
 obtain⟨o,vs,hx,hc,hdd,hd,hz,tr⟩:=F.row;unfold noteFrame;simp only[hf];rcases tr with⟨h1,_⟩|⟨T,oT,ts,h1,bT,nT,hT,hdT,h3⟩
 ·refine wpAny_bind (wpAny_field hx hd h1 ?_);rw[if_neg (by decide)];exact MP hfr hf F.frames F.keep F.new hx hc hdd hd hz hQ
 ·refine wpAny_bind (wpAny_field hx hd h1 ?_);rw[if_pos (show(Value.ref T != Value.none)=true from by simp)];refine wpAny_bind (wpAny_field hT hdT h3 ?_);rw[if_neg (show ¬((Value.none==rawInt L)=true)from by simp[rawInt])];refine wpAny_bind (wpAny_setField hT hdT (Array.getElem?_eq_some_iff.mp h3).1 ?_);have other:∀b,b≠T->(s.heap.update T (Obj.mapFields (·.setIfInBounds 3 Value.none))).get? b=s.heap.get? b:=λb hb=>Heap.get?_update_other _ _ (Ne.symm hb);refine MP hfr hf (F.frames.of_keeps λb u hb hnf=>⟨u,(other b (YT hb hnf hT hdT)).trans hb,rfl⟩) (λb u hb=>(other b λq=>by rw[q,bT]at hb;cases hb).trans (F.keep b u hb)) F.new ((other x (Ne.symm nT)).trans hx) hc hdd hd hz λh' F' U=>hQ h' F' λb u hb hnf=>U b u ((other b (YT hb hnf hT hdT)).trans hb) hnf
theorem PX{l:List Env}{fl:Value}(F:Fly B l x c dd fl s.heap)(hQ:∀h',Fly B l x c dd .none h'->s.heap.UpToSlots h'->Q () {s with heap:=h'}):wpAny M A (setFlight (.ref x) none) Q E s:=by
 obtain⟨o,vs,hx,hc,hdd,hd,hz,tr⟩:=F.row;unfold setFlight;rcases tr with⟨h1,e⟩|⟨T,oT,ts,h1,bT,nT,hT,hdT,h3⟩
 ·subst e;refine wpAny_bind (wpAny_field hx hd h1 ?_);rw[if_neg (by decide)];exact wpAny_pure (hQ _ F (.refl _))
 ·have z3:3<ts.size:=(Array.getElem?_eq_some_iff.mp h3).1;refine wpAny_bind (wpAny_field hx hd h1 ?_);rw[if_pos (show(Value.ref T != Value.none)=true from by simp)];have other:∀b,b≠T->(s.heap.update T (Obj.mapFields (·.setIfInBounds 3 ((none:Option Addr).elim Value.none λf=>rawInt f)))).get? b=s.heap.get? b:=λb hb=>Heap.get?_update_other _ _ (Ne.symm hb);refine wpAny_setField hT hdT z3 (hQ _ ⟨λb u hb=>(other b λq=>by rw[q,bT]at hb;cases hb).trans (F.keep b u hb),F.new,F.frames.of_keeps λb u hb hnf=>⟨u,(other b (YT hb hnf hT hdT)).trans hb,rfl⟩,?_⟩ λb u hb hnf=>⟨u.slots,(other b (YT hb hnf hT hdT)).trans hb⟩);exact⟨o,vs,(other x (Ne.symm nT)).trans hx,hc,hdd,hd,hz,.inr ⟨T,_,_,h1,bT,nT,Heap.get?_update_self _ hT (Obj.isFreed_of_fields (Obj.data_mapFields hdT _)),Obj.data_mapFields hdT _,by simp[z3]⟩⟩
theorem SU(hfr:A.frames=some (env::outer))(hf:env.frame=some L)(F:Fly B (env::outer) x c dd .none s.heap)(hQ:∀h',Fly B outer x c dd .none h'->s.heap.UpToSlots h'->Q () {s with heap:=h'}):wpAny M A (leaving env (.ref x)) Q E s:=by unfold leaving;refine wpAny_bind (PV hfr hf F λh1 F1 U1=>?_);refine PX (s:={s with heap:=h1}) F1 λh2 F2 U2=>?_;exact hQ h2 ⟨F2.keep,F2.new,F2.frames.2.2,F2.row⟩ (U1.trans U2)
end
structure BaseX(B:Heap)(fs:List Addr)(x:Addr)(H H':Hp)(h:Heap):Prop where
 trk:∀b u,H' b=some u->∃o,B.get? b=some o
 old:∀b o,h.get? b=some o->H b=none->b∉fs->B.get? b=some o
 all:∀b o,h.get? b=some o->b∈fs\/b=x\/∃o',B.get? b=some o'
 xn:H' x=none
noncomputable def CX1(P:Program)(w:World):CXT:=λouter H s E e s'=>∃(x:Addr)(c:Value)(dd:Option Addr)(B:Heap)(H':Hp),e=.ref x/\s'.os=s.os/\AllBare s'.gens/\Un (frs outer) [] H H' s.heap s'.heap/\HOk P w H' s'.heap /\Fly B outer x c dd .none s'.heap/\BaseX B (frs outer) x H H' s.heap/\E c dd H'
theorem PM{P:Program}{w:World}{H:Hp}{h h' B:Heap}(ok:HOk P w H h)(trk:∀b u,H b=some u->∃o,B.get? b=some o)(k:B.StaysIn h)(k':B.StaysIn h'):HOk P w H h':=λb u e=>by
 have go:∀c v,H c≠none->h.get? c=some v->h'.get? c=some v:=λc v hc q=>by
  cases e':H c with
 |none=>exact absurd e' hc
 |some u'=>obtain⟨o,ho⟩:=trk c u' e';have:=k c o ho;rw[q]at this;cases this;exact k' c _ ho
 refine(ok b u e).stay (λc v hc q=>go c v ?_ q) (λ_ q=>q) λ_ _ q=>q;rcases hc with rfl|hc
 ·rw[e];simp
 ·rw[hc];simp
section
variable {P:Program}{w:World}{K:PySem.W.Frag}{mg:Str->Option Value}{base:Heap}{N:List Str}{qual:Str}{scope:Scope}{f:Addr}{cd:Value}{A:Around}{outer:List Env}{s:Shared}{H:Hp}{E:XK}
theorem W4{pins:List (Addr×Obj)}{σ:St}{H1:Hp}{s1:Shared}{x:Addr}{c:Value}{dd:Option Addr}{B:Heap}(I:Inv (cxOf (CX1 P w) P w K mg base N qual scope f cd A outer s H E) pins σ H1 s1)(F:Fly B (cxOf (CX1 P w) P w K mg base N qual scope f cd A outer s H E).stack x c dd .none s1.heap)(b:BaseX B (frs outer) x H H1 s.heap)(hE:E c dd H1):(cxOf (CX1 P w) P w K mg base N qual scope f cd A outer s H E).xe (.ref x) s1:=by
 refine SU (L:=s.heap.objs.size) I.ok.frames rfl F λh2 F2 U=>?_;have un:Un (frs outer) [] H H1 s.heap s1.heap:=I.base;refine⟨x,c,dd,B,H1,rfl,I.os,I.bare,⟨λd o e n hd _=>F2.keep d o (b.old d o e n hd),λd o e n hd _=>?_,un.free,λd o e _=>?_,un.tups,un.frzs,un.tbls⟩,PM I.hok b.trk F.keep F2.keep,F2,b,hE⟩
 ·obtain⟨sl,q⟩:=un.slot d o e n hd (by simp);obtain⟨_,o',ho',hnf⟩:=I.ok.funs.mem hd;have eo:o'=o:=by have:s.heap.get? d=some o':=ho';rw[e]at this;exact(Option.some.inj this).symm
  subst eo;obtain⟨sl2,q2⟩:=U d _ q hnf;exact⟨sl2,q2⟩
 ·rcases b.all d o e with z|z|⟨o',z⟩
  ·obtain⟨_,o2,ho2,hnf⟩:=I.ok.funs.mem z;have ho2':s.heap.get? d=some o2:=ho2;obtain⟨sl,q⟩:=un.slot d o2 ho2' (I.ok.frf d z) z (by simp);obtain⟨sl2,q2⟩:=U d _ q hnf;exact⟨_,q2⟩
  ·subst z;obtain⟨o3,_,q,_⟩:=F2.row;exact⟨o3,q⟩
  ·exact⟨o',F2.keep d o' z⟩
theorem BaseX.up{X:Cx}{pins:List (Addr×Obj)}{σ:St}{H1 H2:Hp}{s1:Shared}{x:Addr}{B:Heap}(I:Inv X pins σ H1 s1)(hex:X.ex=[])(b:BaseX B (frs X.stack) x H1 H2 s1.heap):BaseX B X.fs x X.H₀ H2 X.s₀.heap:=by
 have low:∀d o,X.s₀.heap.get? d=some o->d∈frs X.stack->d∈X.fs:=λd o e hd=>by
  rcases List.mem_cons.mp (I.stkSub d hd)with z|z
  ·exact absurd (Nat.lt_of_lt_of_le (Heap.lt_size e) I.ok.above) (by rw[z];exact Nat.lt_irrefl _)
  ·exact z
 refine⟨b.trk,λd o e n hd=>?_,λd o e=>?_,b.xn⟩
 ·exact b.old d o (I.base.keep d o e n hd (by rw[hex];simp)) (I.base.free d o e n (by rw[hex];simp)) λz=>hd (low d o e z)
 ·obtain⟨o1,e1⟩:=I.base.there d o e (by rw[hex];simp);rcases b.all d o1 e1 with z|z|z
  ·exact .inl (low d o e z)
  ·exact .inr (.inl z)
  ·exact .inr (.inr z)
theorem Xe:Passes (CX1 P w) (cxOf (CX1 P w) P w K mg base N qual scope f cd A outer s H E) E:=by intro pins σ H1 s1 e s2 I h;obtain⟨x,c,dd,B,H2,rfl,os,bare,un,hok,F,b,hE⟩:=h;have I2:Inv (cxOf (CX1 P w) P w K mg base N qual scope f cd A outer s H E) pins σ H2 s2:=I.call' os un hok bare λb z=>absurd z (by simp);exact W4 I2 F (BaseX.up I rfl b) hE
end
noncomputable abbrev bmV:List Value:=[.type "ValueError",.type "Exception",.type "BaseException",.type "object"]
structure XC(K:PySem.W.Frag)(C fI Qa:Addr):Prop where
 obj:∃nm q N bs sn sub ab col dd k0 k1 k2 k3 k5,K.lookup C=some (excClassObj nm q C N bs (.ref Qa::bmV) true sn sub ab col dd k0 k1 k2 k3 k5 "ValueError.__new__") /\
  PySem.W.nsOkIn K N=true/\PySem.W.nsIn K N "__init__"=some (some (.ref fI))
 tail:PySem.W.tailIn K bmV (.ref Qa::bmV)=true
 fn:∃o,K.lookup fI=some o/\o.cls=.type "function"
 sa:PySem.W.findIn K (.ref C) "__setattr__"=some (some (.builtin "object.__setattr__"))
 ob:PySem.W.mroIn K C (.type "object")=some true
theorem QI{K:PySem.W.Frag}{h:Heap}{N:Addr}{mg:Str->Option Value}{n:Str}{v:Value}(X:K.In h)(G:h.Ns N mg)(e:PySem.W.nsIn K N n=some (some v)):mg n=some v:=by
 obtain⟨o,es,ep,ho,hd,_,hf⟩:=G;unfold PySem.W.nsIn at e;split at e
 ·rename_i c d es' n' sl q;have this:=X _ _ q;rw[ho]at this;cases this;cases hd;split at e
  ·rename_i en he;cases e;rw[<-hf];unfold nsFind findBy;rw[<-Array.find?_toList,he];rfl
  ·split at e<;>cases e
 ·cases e
section
variable {prog:Program}{w:World}{A:Around}{E:Value->Shared->Prop}{K:PySem.W.Frag}{C fI Qa:Addr}{h:Heap}{g:Array GenState}{d:Drawn}{t:Nat}{os:OsState}{rest:List Value}
theorem Qh{Q:Fin->Shared->Prop}(X:K.In h)(c:XC K C fI Qa)(hz:rest.length<=sizeLine)(hq:∀h' e,h.objs.size<=e->Heap.MadeExcOf h h' e (.ref C) rest->wpAny (model prog w) A (call (.ref fI) (.ref e::rest)) (λr s'=>r=.none/\Q (.done (.ret (.ref e))) s') E ⟨h',g,d,t,os⟩):wpAny (model prog w) A (Builtin.«type.__call__» ⟨.ref C::rest,[]⟩) Q E ⟨h,g,d,t,os⟩:=by
 obtain⟨nm,q,N,bs,sn,sub,ab,col,dd,k0,k1,k2,k3,k5,lk,nok,hin⟩:=c.obj;obtain⟨oI,lI,cI⟩:=c.fn;have FV:=PySem.F.excBase_ValueError;have hC:=X _ _ lk;have hN:h.Ns N (h.nsMap N):=.of_isNs (PySem.W.isNs_of_in X nok);have hI:h.nsMap N "__init__"=some (.ref fI):=QI X hN hin;have TL:OwnTail h bmV (.ref Qa::bmV):=PySem.W.tail_of_in X c.tail;repeat (first|with_reducible refine wpAny_loadPart_at hC ?_|(with_reducible refine wpAny_madeBy_exc hC ?_)|wp_step)
 refine codeAny_call_builtin_code (Code.quiet_builtin _ FV.quiet) (wpAny_check_new_subU FV FV.hasB TL hC ?_);refine codeAny_exc_new_subU FV FV.hasB FV TL hC ?_ hz;show wpAny _ _ _ _ _ _;generalize hh1:(h.push {cls:=.type "tuple",data:=.seq rest.toArray}).push {cls:=.ref C,data:=.fields #[.ref h.objs.size,.none,.none,.none,.bool false,.none]}=h1;have k1':∀b o,h.get? b=some o->h1.get? b=some o:=λb o e=>by rw[<-hh1];exact Heap.get?_push_of_some _ (Heap.get?_push_of_some _ e)
 have ge:h1.get? (h.objs.size+1)=some {cls:=.ref C,data:=.fields #[.ref h.objs.size,.none,.none,.none,.bool false,.none]}:=by rw[<-hh1];heap_get
 have gt:h1.get? h.objs.size=some {cls:=.type "tuple",data:=.seq rest.toArray}:=by rw[<-hh1];exact Heap.get?_push_of_some _ (Heap.get?_push_at rfl rfl)
 have hC1:=k1' _ _ hC;have hcC:(Value.ref C::.ref Qa::bmV).contains (.ref C)=true:=by simp
 unfold isInstance;repeat (first|with_reducible refine wpAny_loadPart_at ge ?_|(with_reducible refine wpAny_isSubtype_exc hC1 ?_;rw[hcC])|wp_step)
 show wpAny _ _ (typeLookup (.ref C) _) _ _ _;refine wpAny_typeLookup_tail hC1 (hN.keeps k1') (TL.keeps k1') FV.mroIs FV.init.lookup ?_;rw[hI];refine wpAny_holding (wpAny_bind (m:=bindSpecial _ _) ?_);unfold bindSpecial;refine wpAny_bind (wpAny_typeOf (T:="function") ⟨_,k1' _ _ (X _ _ lI),cI⟩ ?_);rw[if_pos (by decide)];have mk:Heap.MadeExcOf h h1 (h.objs.size+1) (.ref C) rest:=⟨k1',Heap.get?_none_of_le (Nat.le_succ _),h.objs.size,ge,Heap.get?_none_of_le (Nat.le_refl _),gt⟩;refine wpAny_pure (wpAny_bind (wpAny_mono (hq h1 _ (Nat.le_succ _) mk) (λr s' hr=>?_) λ_ _ z=>z));obtain⟨rfl,hQ⟩:=hr;wp_walk;exact hQ
theorem Ex{Q:Value->Shared->Prop}(X:K.In h)(c:XC K C fI Qa)(hz:rest.length<=sizeLine)(hq:∀h' e,h.objs.size<=e->Heap.MadeExcOf h h' e (.ref C) rest->wpAny (model prog w) (A.under (.builtin "type.__call__" ⟨.ref C::rest,[]⟩)) (call (.ref fI) (.ref e::rest)) (λr s'=>r=.none/\Q (.ref e) s') E ⟨h',g,d,t,os⟩):wpAny (model prog w) A (call (.ref C) rest) Q E ⟨h,g,d,t,os⟩:=by
 obtain⟨nm,q,N,bs,sn,sub,ab,col,dd,k0,k1,k2,k3,k5,lk,nok,hin⟩:=id c.obj;have hC:=X _ _ lk;have f1:=tc_lookup;have f2:=tc_bind (.ref C);have hT:(⟨h,g,d,t,os⟩:Shared).TypeIs (.ref C) "type":=⟨_,hC,rfl⟩;refine wpAny_call (codeAny_of_tree ?_);show wpAny _ _ (callAny (.ref C) _) _ _ _;repeat (any_goals (first|assumption|with_reducible refine wpAny_loadPart_at hC ?_|wp_step))
 refine⟨rfl,codeAny_call_builtin_at (Code.quiet_builtin _ (by decide +kernel)) entry_typeCall (wpAny_check_type_call_sub hC ?_)⟩;exact Qh X c hz λh' e he hm=>hq h' e he hm
theorem MY{x:Addr}{name:Str}{v:Value}{mA:Str->Option Value}{tk:Tok}{Q:Fin->Shared->Prop}{ns:List Str}(X:K.In h)(c:XC K C fI Qa)(hna:PySem.W.findIn K (.ref C) name=some none)(I:h.Inst x C mA)(hw:Within mA ns)(hz:ns.length<=1000)(hq:∀h' tk',h'.Inst x C (λy=>if y=name then some v else mA y) ->(∀b o,b≠x->(∀o₀ dx,h.get? x=some o₀->o₀.dict=some dx->b≠dx)->h.get? b=some o->h'.get? b=some o) ->(∀o₀,h.get? x=some o₀->∃o₁ d₁,h'.get? x=some o₁/\o₁.cls=o₀.cls/\o₁.data=o₀.data/\o₁.dict=some d₁/\((o₀.dict=some d₁)\/(o₀.dict=none/\h.get? d₁=none)))->Q (.done (.ret .none)) ⟨h',g,d,tk',os⟩):wpAny (model prog w) A (Builtin.«object.__setattr__» ⟨[.ref x,.str name tk,v],[]⟩) Q E ⟨h,g,d,t,os⟩:=by
 obtain⟨nm,q,N,bs,sn,sub,ab,col,dd,k0,k1,k2,k3,k5,lk,nok,hin⟩:=c.obj;have hC:=X _ _ lk;obtain⟨o,hx,hc,hnc,hd⟩:=I;have hpass:=PySem.F.store_ValueError.passes (.ref x);have LN:=PySem.W.looks_findIn (M:=model prog w) X hna;unfold Builtin.«object.__setattr__»;repeat (first|rw[refuse_eq]|(rw[refuseLoop_ref,refuseLoop_ref,hpass])|(with_reducible refine wpAny_loadPart_at hx ?_;rw[hc])|(with_reducible refine wpAny_mroOf_exc hC ?_)|(with_reducible refine LN.at ?_)|wp_step)
 rcases hd with⟨hdn,hmA⟩|⟨dx,hdx,hne,hns⟩
 ·rw[hdn,if_neg (by simp[typeHasDict])];split
  ·rename_i hcd;cases hcd
  split
  ·rename_i cc hcd;exact absurd hcd (hnc cc)
  ·have xs:x≠h.objs.size:=Nat.ne_of_lt (Heap.lt_size hx);have dn:h.get? h.objs.size=none:=Heap.get?_none_of_le (Nat.le_refl _);have x1:(h.push {cls:=.type "dict",data:=.dict #[]}).get? x=some o:=Heap.get?_push_of_some _ hx;refine wpAny_bind (wpAny_alloc' (wpAny_bind (wpAny_update' x1 (wpAny_pure ?_))));generalize hU:(h.push {cls:=.type "dict",data:=.dict #[]}).update x (λo=>{cls:=o.cls,dict:=some h.objs.size,data:=o.data,slots:=o.slots})=hu;have gd:hu.get? h.objs.size=some {cls:=.type "dict",data:=.dict #[]}:=by rw[<-hU];exact(Heap.get?_update_ne _ _ _ _ xs.symm).trans (Heap.get?_push_at rfl rfl)
   have gx:hu.get? x=some {cls:=o.cls,dict:=some h.objs.size,data:=o.data,slots:=o.slots}:=by rw[<-hU];refine Heap.get?_update_self _ x1 ?_;have hfr:=(Heap.get?_some_iff.mp hx).2;obtain⟨oc,od,odt,osl⟩:=o;cases odt<;>first|rfl|exact hfr
   have nd:hu.Ns h.objs.size (λ_=>none):=⟨_,#[],_,gd,rfl,λe he=>absurd he (by simp),λ_=>rfl⟩;have ob:∀b u,b≠x->h.get? b=some u->hu.get? b=some u:=λb u hb e=>by rw[<-hU];exact(Heap.get?_update_ne _ _ _ _ hb).trans (Heap.get?_push_of_some _ e)
   show wpAny _ _ (Builtin.ObjectAttr.storeInDict h.objs.size (.str name tk) name v) _ _ _;unfold Builtin.ObjectAttr.storeInDict Builtin.ObjectAttr.newKeyGuard;refine wpAny_bind (wpAny_pure (wpAny_bind (wpAny_nsSet1 (Heap.Ns1.of_empty nd) λh2 n2 s2=>?_)));obtain⟨oD,esD,epD,hoD,hdD,hcD⟩:=n2.count (Within.cons name v Within.nil);refine wpAny_bind (wpAny_lookBehind hoD (by rw[hdD];exact pastItsLine_dict (Nat.le_trans hcD (by rw[List.length_cons,List.length_nil,sizeLine_eq];omega))) ?_);wp_walk;have gx2:h2.get? x=some {cls:=o.cls,dict:=some h.objs.size,data:=o.data,slots:=o.slots}:=(s2.2 x xs).trans gx;refine hq h2 _ ⟨_,gx2,hc,hnc,.inr ⟨h.objs.size,rfl,xs.symm,?_⟩⟩ (λb u hb _ e=>(s2.2 b (Nat.ne_of_lt (Heap.lt_size e))).trans (ob b u hb e)) λo₀ e₀=>?_
   ·obtain⟨o',es,ep,e1,e2,e3,eu,e4⟩:=n2;exact⟨o',es,ep,e1,e2,e3,eu,λy=>by rw[e4 y];by_cases hy:y=name<;>simp[hy,hmA]⟩
   ·have eo:o=o₀:=Option.some.inj (hx.symm.trans e₀);subst eo;exact⟨_,h.objs.size,gx2,rfl,rfl,rfl,.inr ⟨hdn,dn⟩⟩
 ·rw[hdx];refine wpAny_pure ?_;show wpAny _ _ (Builtin.ObjectAttr.storeInDict dx (.str name tk) name v) _ _ _;unfold Builtin.ObjectAttr.storeInDict Builtin.ObjectAttr.newKeyGuard;refine wpAny_bind (wpAny_pure (wpAny_bind (wpAny_nsSet1 hns λh2 n2 s2=>?_)));obtain⟨oD,esD,epD,hoD,hdD,hcD⟩:=n2.count (Within.cons name v hw);refine wpAny_bind (wpAny_lookBehind hoD (by rw[hdD];exact pastItsLine_dict (Nat.le_trans hcD (by rw[List.length_cons,sizeLine_eq];omega))) ?_);wp_walk;have gx2:=(s2.2 x hne.symm).trans hx;refine hq h2 _ ⟨o,gx2,hc,hnc,.inr ⟨dx,hdx,hne,n2⟩⟩ (λb u _ hbd e=>(s2.2 b (hbd o dx hx hdx)).trans e) λo₀ e₀=>?_;have eo:o=o₀:=Option.some.inj (hx.symm.trans e₀);subst eo;exact⟨_,dx,gx2,rfl,rfl,hdx,.inl hdx⟩
end
noncomputable def ErrN(x C:Addr)(dd:Option Addr):HO:=.ext λh=>∃o vs,h.get? x=some o/\o.cls=.ref C/\o.dict=dd/\o.data=.fields vs/\1<vs.size/\vs[1]?=some .none
noncomputable def XD(d:Addr)(fs:List (Str×V)):HO:=.ext λh=>∃mA,h.Ns1 d mA/\(∀f,RelO (fs.lookup f) (mA f))/\PySem.Within mA (fs.map (·.1))/\fs.length<=1000
section
variable {P:Program}{w:World}{H:Hp}{h:Heap}{x C d:Addr}{dd:Option Addr}{fs:List (Str×V)}
theorem Jn:ZJ P w H h x (ErrN x C dd)↔∃o vs,h.get? x=some o/\o.cls=.ref C/\o.dict=dd/\o.data=.fields vs/\1<vs.size/\vs[1]?=some .none:=by
 constructor
 ·intro z;exact z.1
 ·rintro ⟨o,vs,hx,r⟩;exact⟨⟨o,vs,hx,r⟩,⟨o,hx⟩,λh1 h2⟨o',vs',e,r'⟩k=>⟨o',vs',k _ e,r'⟩⟩
theorem TR:ZJ P w H h d (XD d fs)↔∃mA,h.Ns1 d mA/\(∀f,RelO (fs.lookup f) (mA f))/\PySem.Within mA (fs.map (·.1))/\fs.length<=1000:=by
 constructor
 ·intro z;exact z.1
 ·rintro ⟨mA,⟨o,es,ep,e,r⟩,q⟩;exact⟨⟨mA,⟨o,es,ep,e,r⟩,q⟩,⟨o,e⟩,λh1 h2⟨m,⟨o',es',ep',e',r'⟩,q'⟩k=>⟨m,⟨o',es',ep',k _ e',r'⟩,q'⟩⟩
end
section
variable {X:Cx}{pins:List (Addr×Obj)}{σ:St}{H:Hp}{s:Shared}{x C fI Qa:Addr}{name:Str}{y:V}{u:Value}{Q:Unit->Shared->Prop}
theorem NU{A:Around}{E:Value->Shared->Prop}{mA:Str->Option Value}{ns:List Str}(I:Inv X pins σ H s)(c:XC X.K C fI Qa)(hna:PySem.W.findIn X.K (.ref C) name=some none)(In:s.heap.Inst x C mA)(hw:PySem.Within mA ns)(hz:ns.length<=1000)(hq:∀h' tk',h'.Inst x C (λz=>if z=name then some u else mA z) ->(∀b o,b≠x->(∀o₀ dx,s.heap.get? x=some o₀->o₀.dict=some dx->b≠dx)->s.heap.get? b=some o->h'.get? b=some o) ->(∀o₀,s.heap.get? x=some o₀->∃o₁ d₁,h'.get? x=some o₁/\o₁.cls=o₀.cls/\o₁.data=o₀.data/\o₁.dict=some d₁/\((o₀.dict=some d₁)\/(o₀.dict=none/\s.heap.get? d₁=none)))->Q () {s with heap:=h',toks:=tk'}):wpAny (model X.prog X.w) A (setAttr (.ref x) name u) Q E s:=by
 have KX:=I.kIn;obtain⟨o,hx,hc,hnc,hd⟩:=id In;have no:PySem.W.notCls o=true:=by
  unfold PySem.W.notCls;split
  ·rename_i cc e;exact absurd e (hnc cc)
  ·rfl
 obtain⟨od,IA⟩:∃od,PySem.W.InstAt s.heap x o C od:=by
  rcases hd with⟨e,_⟩|⟨dx,e,_,oD,es,ep,hD,_⟩
  ·exact⟨none,hx,hc,no,by rw[e];trivial⟩
  ·exact⟨some oD,hx,hc,no,by rw[e];exact hD⟩
 have SF:=PySem.F.store_object;refine PySem.W.set_plain KX IA c.sa ?_;have sub:PySem.W.Looks (model X.prog X.w) s.heap (isInstance (.ref x) (.type "object")) true:=IA.type.andThen (PySem.W.looks_mroIn KX c.ob);refine codeAny_call_builtin SF.slot.plain SF.entry (@PySem.W.check_slot (model X.prog X.w) _ _ {s with toks:=s.toks+1} "object.__setattr__" "object" "__setattr__" (.ref x) [.str name s.toks,u] [] _ SF.kind SF.split sub (SF.args (.ref x) (.str name s.toks) u) ?_);exact MY (h:=s.heap) (g:=s.gens) (d:=s.drawn) (t:=s.toks+1) (os:=s.os) KX c hna In hw hz λh' tk' I' kk same=>hq h' tk' I' kk same
end
def Jv(H:Hp)(h:Heap)(d:Addr):Prop:=(H d=none/\h.get? d=none)\/∃φ,H d=some (.ext φ)
section
variable {P:Program}{w:World}{H:Hp}{h h':Heap}{x d:Addr}{o1 o2:HO}{fs:List Addr}
theorem Jv.ne{b:Addr}{u:HO}(q:Jv H h d)(e:H b=some u)(hu:∀φ,u≠.ext φ):b≠d:=by
 rintro rfl;rcases q with⟨z,_⟩|⟨φ,z⟩
 ·rw[e]at z;cases z
 ·rw[e]at z;cases z;exact hu φ rfl
theorem J3{b:Addr}(hx:b≠x)(hd:b≠d):upd (upd H d o1) x o2 b=H b:=by rw[Ze hx,Ze hd]
theorem Pr{a:Addr}{o:HO}(z:ZJ P w H h a o):∃ob,h.get? a=some ob:=by
 induction o with
|lst xs=>obtain⟨_,_,_,_,e⟩:=z;exact⟨_,e⟩
|tup xs=>obtain⟨_,_,_,ob,e,_⟩:=z;exact⟨_,e⟩
|dK kvs=>obtain⟨_,_,_,_,ob,_,_,e,_⟩:=z;exact⟨_,e⟩
|dT kvs=>obtain⟨_,_,_,_,ob,_,_,e,_⟩:=z;exact⟨_,e⟩
|set S n=>obtain⟨ob,_,_,_,e,_⟩:=z;exact⟨_,e⟩
|ins C dx fs=>obtain⟨_,_,_,e,_⟩:=z;exact⟨_,e⟩
|own y=>exact z
|xd fs=>obtain⟨_,⟨ob,_,_,e,_⟩,_⟩:=z;exact⟨_,e⟩
|rng lo hi=>obtain⟨_,_,_,e⟩:=z;exact⟨_,e⟩
|frz ob u ih=>exact⟨_,z.1⟩
|tbl ps=>exact⟨_,z⟩
|met f y=>exact⟨_,z⟩
|ext φ=>exact z.2.1
theorem TV(qx:Jv H h x)(qd:Jv H h d)(k:∀b o,b≠x->b≠d->h.get? b=some o->h'.get? b=some o)(xo:∃o,h'.get? x=some o)(dO:∃o,h'.get? d=some o):Un fs [] H (upd (upd H d o1) x o2) h h':=by
 have off:∀{z:Addr},Jv H h z->∀b o,h.get? b=some o->H b=none->b≠z:=by
  intro z q b o e n;rintro rfl;rcases q with⟨_,y⟩|⟨φ,y⟩
  ·rw[e]at y;cases y
  ·rw[n]at y;cases y
 refine⟨λb o e n _ _=>k b o (off qx b o e n) (off qd b o e n) e,λb o e n _ _=>⟨o.slots,k b o (off qx b o e n) (off qd b o e n) e⟩,λb o e n _=>(J3 (off qx b o e n) (off qd b o e n)).trans n,λb o e _=>?_,λb xs e=>(J3 (qx.ne e (by simp)) (qd.ne e (by simp))).trans e,λb o u e=>(J3 (qx.ne e (by simp)) (qd.ne e (by simp))).trans e,λb ps e=>⟨#[],(J3 (qx.ne e (by simp)) (qd.ne e (by simp))).trans (by simpa using e)⟩⟩;by_cases hx:b=x
 ·exact hx▸xo
 ·by_cases hd:b=d
  ·exact hd▸dO
  ·exact⟨o,k b o hx hd e⟩
theorem RQ(ok:HOk P w H h)(qx:Jv H h x)(qd:Jv H h d)(ne:d≠x)(k:∀b o,b≠x->b≠d->h.get? b=some o->h'.get? b=some o)(nx:ZJ P w (upd (upd H d o1) x o2) h' x o2)(nd:ZJ P w (upd (upd H d o1) x o2) h' d o1):HOk P w (upd (upd H d o1) x o2) h':=λb u e=>by
 by_cases hx:b=x
 ·subst hx;rw[Zc]at e;cases e;exact nx
 ·by_cases hd:b=d
  ·subst hd;rw[Ze ne,Zc]at e;cases e;exact nd
  ·rw[J3 hx hd]at e;refine(ok b u e).stay (λc v hc q=>?_) (λc q=>(J3 (qx.ne q (by simp)) (qd.ne q (by simp))).trans q) λc xs q=>(J3 (qx.ne q (by simp)) (qd.ne q (by simp))).trans q;rcases hc with rfl|hc
   ·exact k _ v hx hd q
   ·exact k _ v (qx.ne hc (by simp)) (qd.ne hc (by simp)) q
end
section
variable {X:Cx}{pins:List (Addr×Obj)}{σ:St}{H:Hp}{s:Shared}{x C fI Qa:Addr}{f:Str}{y:V}{u:Value}{Q:Unit->Shared->Prop}
theorem MQ{dd:Option Addr}{h:Heap}(e:H x=some (ErrN x C dd)):Jv H h x:=.inr ⟨_,e⟩
theorem Pg{fs:List (Str×V)}{mA:Str->Option Value}(r:∀g,RelO (fs.lookup g) (mA g))(ry:RelV y u)(g:Str):RelO ((putF f y fs).lookup g) (if g=f then some u else mA g):=by
 rw[Zl];by_cases q:g=f
 ·rw[if_pos q,if_pos q];exact ry
 ·rw[if_neg q,if_neg q];exact r g
theorem GN{fs:List (Str×V)}{mA:Str->Option Value}(wi:PySem.Within mA (fs.map (·.1))):PySem.Within (λg=>if g=f then some u else mA g) ((putF f y fs).map (·.1)):=λg hg=>by
 by_cases q:g=f
 ·rw[q];exact(Jb f y fs).1
 ·refine(Jb f y fs).2 g (wi g λz=>hg ?_);show(if g=f then some u else mA g)=none;rw[if_neg q];exact z
theorem TQ{A:Around}{E:Value->Shared->Prop}(I:Inv X pins σ H s)(c:XC X.K C fI Qa)(hna:PySem.W.findIn X.K (.ref C) f=some none)(e:H x=some (ErrN x C none))(ry:RelV y u)(h:∀d s',d≠x->H d=none->Inv X pins σ (upd (upd H d (XD d [(f,y)])) x (ErrN x C (some d))) s'->Q () s'):wpAny (model X.prog X.w) A (setAttr (.ref x) f u) Q E s:=by
 obtain⟨o,vs,hx,hc,hdd,hd,hz,h1⟩:=Jn.mp (I.hok x _ e);have In:s.heap.Inst x C (λ_=>none):=⟨o,hx,hc,(λcc q=>by rw[hd]at q;cases q),.inl ⟨hdd,λ_=>rfl⟩⟩;refine NU (ns:=[]) I c hna In (λg hg=>absurd rfl hg) (Nat.zero_le _) λh' tk' I' k same=>?_;obtain⟨o₁,d₁,hx',c1,dt1,dd1,sd⟩:=same o hx;have dn:s.heap.get? d₁=none:=by
  rcases sd with z|⟨_,z⟩
  ·rw[hdd]at z;cases z
  ·exact z
 obtain⟨o',hx2,_,_,hdx⟩:=I';have eo:o'=o₁:=Option.some.inj (hx2.symm.trans hx');subst eo;have Hd:H d₁=none:=by
  cases q:H d₁ with
 |none=>rfl
 |some v=>
   obtain⟨ob,z⟩:∃ob,s.heap.get? d₁=some ob:=by have:=I.hok _ _ q;exact Pr this
   rw[dn]at z;cases z
 rcases hdx with⟨z,_⟩|⟨dx,z,ne,ns⟩
 ·rw[dd1]at z;cases z
 ·have ed:d₁=dx:=by rw[dd1]at z;exact Option.some.inj z
  subst ed;have kk:∀b ob,b≠x->b≠d₁->s.heap.get? b=some ob->h'.get? b=some ob:=λb ob hb _ q=>k b ob hb (λo₀ dx' e0 e1=>by rw[hx]at e0;cases e0;rw[hdd]at e1;cases e1) q;have qx:Jv H s.heap x:=MQ e;have qd:Jv H s.heap d₁:=.inl ⟨Hd,dn⟩;have nd:ZJ X.prog X.w (upd (upd H d₁ (XD d₁ [(f,y)])) x (ErrN x C (some d₁))) h' d₁ (XD d₁ [(f,y)]):=TR.mpr ⟨_,ns,λg=>Pg (fs:=[]) (mA:=λ_=>none) (λ_=>True.intro) ry g,GN (fs:=[]) λg hg=>absurd rfl hg,by simp⟩;have nx:ZJ X.prog X.w (upd (upd H d₁ (XD d₁ [(f,y)])) x (ErrN x C (some d₁))) h' x (ErrN x C (some d₁)):=Jn.mpr ⟨o',vs,hx',c1.trans hc,dd1,dt1.trans hd,hz,h1⟩;obtain⟨oD,_,_,hoD,_⟩:=id ns;exact h d₁ _ ne Hd (I.un (TV qx qd kk ⟨_,hx'⟩ ⟨_,hoD⟩) (RQ I.hok qx qd ne kk nx nd))
theorem R9{A:Around}{E:Value->Shared->Prop}{d:Addr}{fs:List (Str×V)}(I:Inv X pins σ H s)(c:XC X.K C fI Qa)(hna:PySem.W.findIn X.K (.ref C) f=some none)(e:H x=some (ErrN x C (some d)))(ed:H d=some (XD d fs))(ne:d≠x)(hl:fs.length<1000)(ry:RelV y u)(h:∀s',Inv X pins σ (upd (upd H d (XD d (putF f y fs))) x (ErrN x C (some d))) s'->Q () s'):wpAny (model X.prog X.w) A (setAttr (.ref x) f u) Q E s:=by
 obtain⟨o,vs,hx,hc,hdd,hd,hz,h1⟩:=Jn.mp (I.hok x _ e);obtain⟨mA,ns,r,wi,_⟩:=TR.mp (I.hok d _ ed);have In:s.heap.Inst x C mA:=⟨o,hx,hc,(λcc q=>by rw[hd]at q;cases q),.inr ⟨d,hdd,ne,ns⟩⟩;refine NU (ns:=fs.map (·.1)) I c hna In wi (by rw[List.length_map];omega) λh' tk' I' k same=>?_;obtain⟨o₁,d₁,hx',c1,dt1,dd1,sd⟩:=same o hx;have e1:d₁=d:=by
  rcases sd with z|⟨z,_⟩
  ·rw[hdd]at z;exact(Option.some.inj z).symm
  ·rw[hdd]at z;cases z
 subst e1;obtain⟨o',hx2,_,_,hdx⟩:=I';have eo:o'=o₁:=Option.some.inj (hx2.symm.trans hx');subst eo;rcases hdx with⟨z,_⟩|⟨dx,z,_,ns'⟩
 ·rw[dd1]at z;cases z
 ·have ed':d₁=dx:=by rw[dd1]at z;exact Option.some.inj z
  subst ed';have kk:∀b ob,b≠x->b≠d₁->s.heap.get? b=some ob->h'.get? b=some ob:=λb ob hb hbd q=>k b ob hb (λo₀ dx' e0 e1=>by rw[hx]at e0;cases e0;rw[hdd]at e1;cases e1;exact hbd) q;have qx:Jv H s.heap x:=MQ e;have qd:Jv H s.heap d₁:=.inr ⟨_,ed⟩;have nd:ZJ X.prog X.w (upd (upd H d₁ (XD d₁ (putF f y fs))) x (ErrN x C (some d₁))) h' d₁ (XD d₁ (putF f y fs)):=TR.mpr ⟨_,ns',λg=>Pg r ry g,GN wi,by have:=Yi f y fs;omega⟩;have nx:ZJ X.prog X.w (upd (upd H d₁ (XD d₁ (putF f y fs))) x (ErrN x C (some d₁))) h' x (ErrN x C (some d₁)):=Jn.mpr ⟨o',vs,hx',c1.trans hc,dd1,dt1.trans hd,hz,h1⟩;obtain⟨oD,_,_,hoD,_⟩:=id ns';exact h _ (I.un (TV qx qd kk ⟨_,hx'⟩ ⟨_,hoD⟩) (RQ I.hok qx qd ne kk nx nd))
def EO(K:PySem.W.Frag)(ta tv:TE)(f:Str):TS:=λD σ H=>tv σ H λy H1=>ta σ H1 λx H2=>∃a C fI Qa,x=.ref a/\H2 a=some (ErrN a C none)/\XC K C fI Qa/\PySem.W.findIn K (.ref C) f=some none /\∀d,d≠a->H2 d=none->D.nx σ (upd (upd H2 d (XD d [(f,y)])) a (ErrN a C (some d)))
def ER(K:PySem.W.Frag)(ta tv:TE)(f:Str):TS:=λD σ H=>tv σ H λy H1=>ta σ H1 λx H2=>∃a C fI Qa d fs,x=.ref a/\H2 a=some (ErrN a C (some d))/\H2 d=some (XD d fs)/\d≠a/\fs.length<1000/\XC K C fI Qa/\PySem.W.findIn K (.ref C) f=some none /\D.nx σ (upd (upd H2 d (XD d (putF f y fs))) a (ErrN a C (some d)))
section
variable {o value:Expr}{pos pos':Pos}{ta tv:TE}
theorem Le(ha:PE X o ta)(hv:PE X value tv)(hs:swapsWith value (some (.Attribute o f pos')) pos.line X.env=pure false):PS X (.Assign [.Attribute o f pos'] value pos) (EO X.K ta tv f):=by intro pins s σ H D I h;refine plainObj_wpAny_Assign_Attribute (thn (hv pins s σ H _ I h) λu s1⟨y,H1,I1,ry,q⟩=>thn (ha pins s1 σ H1 _ I1 q) λov s2⟨x,H2,I2,rx,a,C,fI,Qa,ex,ea,c,n,q2⟩=>?_) hs;subst ex;obtain rfl:ov=Value.ref a:=rx;exact TQ I2 c n ea ry λd s3 ne hn I3=>⟨σ,_,I3,q2 d ne hn⟩
theorem RH(ha:PE X o ta)(hv:PE X value tv)(hs:swapsWith value (some (.Attribute o f pos')) pos.line X.env=pure false):PS X (.Assign [.Attribute o f pos'] value pos) (ER X.K ta tv f):=by intro pins s σ H D I h;refine plainObj_wpAny_Assign_Attribute (thn (hv pins s σ H _ I h) λu s1⟨y,H1,I1,ry,q⟩=>thn (ha pins s1 σ H1 _ I1 q) λov s2⟨x,H2,I2,rx,a,C,fI,Qa,d,fs,ex,ea,ed,ne,hl,c,n,q2⟩=>?_) hs;subst ex;obtain rfl:ov=Value.ref a:=rx;exact R9 I2 c n ea ed ne hl ry λs3 I3=>⟨σ,_,I3,q2⟩
end
end
section
variable {X:Cx}{CX:CXT}{k:Nat}{f C Qa:Addr}{fd:FuncData}{ps:List Str}{sp:Sp}{dvs:List V}{ds:List Value}{E:XK}{x m:Str}{p pos apos:Pos}{e o:Expr}{es:List Expr}{ta:TE}{t:TA}
theorem Sl{pins:List (Addr×Obj)}{σ:St}{H:Hp}{s:Shared}{Q:VK}{us:List Value}{vs:List V}(c:XC X.K C f Qa)(F:FnOk X.prog X.w X.K X.mg X.base CX k f fd ps sp)(hr:Room (k+1) X.A)(hb:Binds X.K fd ps ds)(hd:Vals dvs ds)(hx:Passes CX X E)(I:Inv X pins σ H s)(r:Vals vs us)(hz:us.length<=sizeLine)(h:∀x,H x=none->sp (.ref x::(vs++dvs)) (upd H x (ErrN x C none)) (λv H2=>v=.non/\Q (.ref x) H2) E):wpAny (model X.prog X.w) X.A (call (.ref C) us) (EP X pins σ Q) X.xe s:=by
 refine Ex (h:=s.heap) (g:=s.gens) (d:=s.drawn) (t:=s.toks) (os:=s.os) I.kIn c hz λh' a ha mk=>?_;obtain⟨kk,_,T,ge,_,_⟩:=mk;have hq:=h a (I.hok.fresh ha);have I2:Inv X pins σ (upd H a (ErrN a C none)) {s with heap:=h'}:=I.laid (t':=s.toks) kk ha (Jn.mpr ⟨_,_,ge,rfl,rfl,rfl,by simp,by simp⟩);have r2:Vals (V.ref a::(vs++dvs)) (Value.ref a::(us++ds)):=.cons rfl (r.append hd);have hl:(Value.ref a::us++ds).length=ps.length:=by have e:=r2.length;rw[F.len _ _ _ _ hq]at e;exact e.symm
 refine wpAny_call (codeAny_mono (F.run _ X.stack {s with heap:=h'} _ ⟨Value.ref a::us,[]⟩ (Value.ref a::(us++ds)) _ _ E (hr.make C us []) (I2.env0.make C us []) (hb _ (Value.ref a::us) I2.kIn hl) r2 hq) λr s' hq'=>?_);cases r with
|error e=>exact hx pins σ _ _ e s' I2 hq'
|ok fl=>
  cases fl with
 |ret u=>obtain⟨v,H',I3,rv,ev,q3⟩:=I2.after hq';subst ev;exact⟨rv,⟨V.ref a,H',I3,rfl,q3⟩⟩
 |next=>exact False.elim hq'
 |brk=>exact False.elim hq'
 |cont=>exact False.elim hq'
end
noncomputable def del(H:Hp)(a:Addr):Hp:=λb=>if b=a then none else H b
theorem JG{H:Hp}{a:Addr}:del H a a=none:=by simp[del]
theorem XZ{H:Hp}{a b:Addr}(h:b≠a):del H a b=H b:=by simp[del,h]
section
variable {M:Model}{A:Around}{E:Value->Shared->Prop}{env:Env}{K:PySem.W.Frag}
theorem So{s:Shared}{x:Sem Value}{Q:Flow->Shared->Prop}(hh:A.handled=none)(h:wpAny M A x (λv s₁=>∃e oe C fI Qa vs,v=.ref e/\XC K C fI Qa/\K.In s₁.heap/\s₁.heap.get? e=some oe/\oe.cls=.ref C/\oe.data=.fields vs/\vs[1]?=some .none/\E (.ref e) s₁) E s):wpAny M A (raiseStmt env (some x) none) Q E s:=by
 unfold raiseStmt;refine wpAny_bind (wpAny_mono h (λv s₁ h₁=>?_) λ_ _ x=>x);obtain⟨e,⟨oc,od,odt,osl⟩,C,fI,Qa,vs,rfl,c,KI,he,hc,hvs,h1,hE⟩:=h₁;obtain rfl:oc=.ref C:=hc;obtain rfl:odt=.fields vs:=hvs;obtain⟨hp,g,d,tk,os⟩:=s₁;obtain⟨nm,q,N,bs,sn,sub,ab,col,dd,k0,k1,k2,k3,k5,lk,nok,hin⟩:=id c.obj;have hC:=KI _ _ lk;have hcB:(Value.ref C::.ref Qa::bmV).contains (.type "BaseException")=true:=by rw[List.contains_cons,List.contains_cons,show bmV.contains (.type "BaseException")=true from by decide,Bool.or_true,Bool.or_true]
 repeat (first|with_reducible refine wpAny_loadPart_at he ?_|with_reducible refine wpAny_loadPart_at hC ?_|(with_reducible refine wpAny_isSubtype_exc hC ?_;rw[hcB])|wp_step)
 show wpAny M A (match vs[1]? with|some x=>pure x|none=>unsupported "internal:no-such-field") _ _ _
 rw[h1];refine wpAny_pure ?_;show wpAny M A (if(Value.none != Value.none)=true then _ else pure ()) _ _ _;rw[if_neg (by decide)];exact wpAny_pure (wpAny_raiseNew_none hh hE)
end
section
variable {X:Cx}{pins:List (Addr×Obj)}{σ:St}{H:Hp}{s:Shared}{a C:Addr}{dd:Option Addr}{E:XK}
theorem raised(I:Inv X pins σ H s)(e:H a=some (ErrN a C dd))(hE:E (.ref C) dd (del H a)):CX1 X.prog X.w X.stack H s E (.ref a) s:=by
 obtain⟨o,vs,hx,hc,hdd,hd,hz,h1⟩:=Jn.mp (I.hok a _ e);have na:∀b u,H b=some u->(∀φ,u≠.ext φ)->b≠a:=λb u q n z=>by subst z;rw[e]at q;cases q;exact n _ rfl
 have fr:a∉frs X.stack:=λz=>by rw[I.stkFree a z]at e;cases e
 have hB:∀b o',s.heap.get? b=some o'->b≠a->b∉frs X.stack->(PySem.W.hideAll s.heap (a::frs X.stack)).get? b=some o':=λb o' q n1 n2=>PySem.W.hideAll_get _ q λz=>by
  rcases List.mem_cons.mp z with z|z
  ·exact n1 z
  ·exact n2 z
 refine⟨a,.ref C,dd,PySem.W.hideAll s.heap (a::frs X.stack),del H a,rfl,rfl,I.bare,⟨λb o q _ _ _=>q,λb o q _ _ _=>⟨o.slots,q⟩,λb o q n _=>?_,λb o q _=>⟨o,q⟩,λb xs q=>(XZ (na b _ q (by simp))).trans q,λb o u q=>(XZ (na b _ q (by simp))).trans q,λb ps q=>⟨#[],by rw[XZ (na b _ q (by simp))];simpa using q⟩⟩,?_,?_,?_,hE⟩
 ·by_cases hb:b=a
  ·rw[hb];exact JG
  ·rw[XZ hb];exact n
 ·intro b u q;have hb:b≠a:=λz=>by rw[z,JG]at q;cases q
  rw[XZ hb]at q;exact(I.hok b u q).stay (λ_ _ _ z=>z) (λc z=>(XZ (na c _ z (by simp))).trans z) λc xs z=>(XZ (na c _ z (by simp))).trans z
 ·refine⟨λb u q=>PySem.W.of_hideAll _ q,PySem.W.hideAll_none _ (.head _),?_,o,vs,hx,hc,hdd,hd,hz,.inl ⟨h1,rfl⟩⟩;have go:∀l:List Env,(∀b∈frs l,b∈a::frs X.stack)->s.heap.FunFrames X.base l->s.heap.FunFrames (PySem.W.hideAll s.heap (a::frs X.stack)) l:=by
   intro l;induction l with
  |nil=>intro _ _;trivial
  |cons env r ih=>
    intro hs ⟨hk,⟨L,oL,hf,hn,ho,hnd⟩,hr⟩;have hL:frs (env::r)=L::frs r:=by unfold frs;rw[List.filterMap_cons,hf]
    exact⟨hk,⟨L,oL,hf,PySem.W.hideAll_none _ (hs L (by rw[hL];exact .head _)),ho,hnd⟩,ih (λb hb=>hs b (by rw[hL];exact .tail _ hb)) hr⟩
  exact go X.stack (λb hb=>.tail _ hb) I.stack
 ·refine⟨λb u q=>?_,λb o' q n hb=>hB b o' q (λz=>by rw[z,e]at n;cases n) hb,λb o' q=>?_,JG⟩
  ·have hb:b≠a:=λz=>by rw[z,JG]at q;cases q
   rw[XZ hb]at q;obtain⟨o',z⟩:=Pr (I.hok b u q);exact⟨o',hB b o' z hb λm=>by rw[I.stkFree b m]at q;cases q⟩
  ·by_cases hb:b=a
   ·exact .inr (.inl hb)
   ·by_cases hf:b∈frs X.stack
    ·exact .inl hf
    ·exact .inr (.inr ⟨o',hB b o' q hb hf⟩)
end
noncomputable def ErrC(x C:Addr)(dd:Option Addr):HO:=.ext λh=>∃o vs,h.get? x=some o/\o.cls=.ref C/\o.dict=dd/\o.data=.fields vs
structure XB(K:PySem.W.Frag)(D:Addr):Prop where
 obj:∃nm q N bs bm hd sn sub ab col dd k0 k1 k2 k3 k5 nid,K.lookup D=some (excClassObj nm q D N bs bm hd sn sub ab col dd k0 k1 k2 k3 k5 nid)/\bm.contains (.type "BaseException")=true
theorem LG{P:Program}{w:World}{H:Hp}{h:Heap}{x C:Addr}{dd:Option Addr}:ZJ P w H h x (ErrC x C dd)↔∃o vs,h.get? x=some o/\o.cls=.ref C/\o.dict=dd/\o.data=.fields vs:=by
 constructor
 ·intro z;exact z.1
 ·rintro ⟨o,vs,hx,r⟩;exact⟨⟨o,vs,hx,r⟩,⟨o,hx⟩,λh1 h2⟨o',vs',e,r'⟩k=>⟨o',vs',k _ e,r'⟩⟩
section
variable {X:Cx}{pins:List (Addr×Obj)}{σ:St}{H1 H2:Hp}{s1 s2:Shared}{x C:Addr}{dd:Option Addr}{B h':Heap}{fl:Value}
theorem Lz(I:Inv X pins σ H1 s1)(os:s2.os=s1.os)(bare:AllBare s2.gens)(un:Un (frs X.stack) [] H1 H2 s1.heap s2.heap)(hok:HOk X.prog X.w H2 s2.heap)(F:Fly B X.stack x (.ref C) dd .none s2.heap)(b:BaseX B (frs X.stack) x H1 H2 s1.heap)(F':Fly B X.stack x (.ref C) dd fl h')(U:s2.heap.UpToSlots h'):Inv X pins σ (upd H2 x (ErrC x C dd)) {s2 with heap:=h'}:=by
 have nx:∀d o,s1.heap.get? d=some o->H1 d=none->d≠x:=by
  rintro d o e n rfl;by_cases hd:d∈frs X.stack
  ·obtain⟨_,o1,e1,nf⟩:=I.stack.mem hd;rw[e]at e1;cases e1;obtain⟨sl,q⟩:=un.slot d o e n hd (by simp);obtain⟨o3,vs,q3,_,_,q4,_⟩:=F.row;rw[q]at q3;cases q3;exact nf vs q4
  ·have:=b.old d o e n hd;rw[F.new]at this;cases this
 have hne:∀d u,H2 d=some u->d≠x:=by rintro d u e rfl;rw[b.xn]at e;cases e
 have hok':HOk X.prog X.w H2 h':=PM hok b.trk F.keep F'.keep;refine I.call' (s':={s2 with heap:=h'}) (ch:=[]) os ⟨λd o e n hd _=>F'.keep d o (b.old d o e n hd),λd o e n hd _=>?_,λd o e n hx=>?_,λd o e _=>?_,λd xs e=>?_,λd o u e=>?_,λd ps e=>?_⟩ (λd u e=>?_) bare λd z=>absurd z (by simp)
 ·obtain⟨sl,q⟩:=un.slot d o e n hd (by simp);obtain⟨_,o1,e1,nf⟩:=I.stack.mem hd;rw[e]at e1;cases e1;obtain⟨sl2,q2⟩:=U d _ q nf;exact⟨sl2,q2⟩
 ·rw[Ze (nx d o e n)];exact un.free d o e n hx
 ·rcases b.all d o e with z|z|⟨o',z⟩
  ·obtain⟨_,o1,e1,nf⟩:=I.stack.mem z;rw[e]at e1;cases e1;obtain⟨sl,q⟩:=un.slot d o e (I.stkFree d z) z (by simp);obtain⟨sl2,q2⟩:=U d _ q nf;exact⟨_,q2⟩
  ·subst z;obtain⟨o3,_,q,_⟩:=F'.row;exact⟨o3,q⟩
  ·exact⟨o',F'.keep d o' z⟩
 ·have:=un.tups d xs e;rw[Ze (hne d _ this)];exact this
 ·have:=un.frzs d o u e;rw[Ze (hne d _ this)];exact this
 ·obtain⟨more,this⟩:=un.tbls d ps e;exact⟨more,by rw[Ze (hne d _ this)];exact this⟩
 ·by_cases hd:d=x
  ·subst hd;rw[Zc]at e;cases e;obtain⟨o,vs,q1,q2,q3,q4,_⟩:=F'.row;exact LG.mpr ⟨o,vs,q1,q2,q3,q4⟩
  ·rw[Ze hd]at e;exact(hok' d u e).stay (λ_ _ _ q=>q) (λc q=>by rw[Ze (hne c _ q)];exact q) λc xs q=>by rw[Ze (hne c _ q)];exact q
end
noncomputable abbrev Cx.tryX(X:Cx)(E:Value->Shared->Prop)(pn':List (Addr×Obj)):Cx:={X with xe:=E,pn:=pn'}
section
variable {X:Cx}{pins pins':List (Addr×Obj)}{σ:St}{H:Hp}{s:Shared}{E:Value->Shared->Prop}
theorem Inv.try(I:Inv X pins σ H s)(E:Value->Shared->Prop):Inv (X.tryX E (X.pn++pins)) [] σ H s:=⟨⟨I.ok.mod,I.ok.kind,I.ok.glob,I.ok.blt,I.ok.above,I.ok.inj,I.ok.has,I.ok.cab,I.ok.hd,I.ok.frames,I.ok.stk,I.ok.exf,I.ok.bs,I.ok.bsz,I.ok.noex,I.ok.exfs,I.ok.funs,I.ok.frf⟩,I.os,I.bare,I.base,I.loc,I.cell,I.free,I.freeC,λp hp=>I.pin p (by simpa using hp),I.hok,I.len⟩
theorem Inv.untry(ok:X.Ok)(I:Inv (X.tryX E (X.pn++pins)) pins' σ H s):Inv X pins σ H s:=⟨ok,I.os,I.bare,I.base,I.loc,I.cell,I.free,I.freeC,λp hp=>I.pin p (List.mem_append_left _ hp),I.hok,I.len⟩
end
def JK(CX:CXT)(X:Cx)(E:XK)(p:St->Prop):Prop:=∀(pins:List (Addr×Obj))(σ:St)(H:Hp)(s:Shared)(e:Value)(s':Shared),p σ->Inv X pins σ H s->CX X.stack H s E e s'->X.xe e s'
def Hd(X:Cx)(hs:List ExceptHandler)(th:Addr->Addr->Option Addr->TS):Prop:=∀(pins:List (Addr×Obj))(s:Shared)(σ:St)(H:Hp)(D:Ends)(x C:Addr)(dd:Option Addr)(B:Heap),Inv X pins σ H s->H x=some (ErrC x C dd)->RecX B x (.ref C) dd .none s.heap->th x C dd D σ H ->wpAny (model X.prog X.w) X.A (handleBy (.ref x) X.env hs) (SP X pins D) X.xe s
noncomputable def hNil:Addr->Addr->Option Addr->TS:=λ_ _ _ _ _ _=>False
def sTry(tb:(St->Prop)->XK->TS)(th:Addr->Addr->Option Addr->TS):TS:=λD σ H=>∃E:XK,tb (λσ'=>σ'=σ) E D σ H/\∀c dd H',E c dd H'->∃C,c=.ref C/\∀x,H' x=none->th x C dd D σ (upd H' x (ErrC x C dd))
section
variable {X:Cx}{Dc:Addr}{cn n:Str}{i:Nat}{p pos:Pos}{b₀:Stmt}{suite:List Stmt}{rest:List ExceptHandler}{ts:Addr->TS}{r th:Addr->Addr->Option Addr->TS}
theorem DJ{body:List Stmt}{h₀:ExceptHandler}{hs:List ExceptHandler}{tb:(St->Prop)->XK->TS}(hst:X.stack=X.env::X.outer/\X.env.frame=some X.env.locals)(hb:∀(E':Value->Shared->Prop)(pn':List (Addr×Obj))(p:St->Prop)(E:XK),JK (CX1 X.prog X.w) (X.tryX E' pn') E p->PSs (X.tryX E' pn') body (tb p E))(hh:Hd X (h₀::hs) th):PS X (.Try body (h₀::hs) [] [] pos) (sTry tb th):=by
 rintro pins s σ H D I ⟨E,hbody,hE⟩;refine wpAny_Try_except ?_;generalize hXE:(λ(e:Value)(s₁:Shared)=>wpAny (model X.prog X.w) X.A (noteFrame e X.env) (λ_ s₂=>wpAny (model X.prog X.w) X.A (setFlight e none) (λ_ s₃=>wpAny (model X.prog X.w) X.A (handleBy e X.env (h₀::hs)) (SP X pins D) X.xe s₃) X.xe s₂) X.xe s₁)=E';have hp:JK (CX1 X.prog X.w) (X.tryX E' (X.pn++pins)) E (λσ'=>σ'=σ):=by
  rintro pins' σ' H1 s1 e s2 eσ J ⟨x,c,dd,B,H2,rfl,os,bare,un,hok,F,b,hc⟩;subst eσ;obtain⟨C,rfl,hth⟩:=hE c dd H2 hc;show E' (.ref x) s2;rw[<-hXE];have J':Inv X pins σ' H1 s1:=J.untry I.ok;have fr:X.A.frames=some (X.env::X.outer):=by rw[J'.ok.frames,hst.1]
  have FF:Fly B (X.env::X.outer) x (.ref C) dd .none s2.heap:=by rw[<-hst.1];exact F
  refine PV fr hst.2 FF λh1 F1 U1=>?_;refine PX (s:={s2 with heap:=h1}) F1 λh2 F2 U2=>?_;have F2':Fly B X.stack x (.ref C) dd .none h2:=by rw[hst.1];exact F2
  have I2:Inv X pins σ' (upd H2 x (ErrC x C dd)) {s2 with heap:=h2}:=Lz J' os bare un hok F b F2' (U1.trans U2);exact hh pins _ σ' _ D x C dd B I2 (Zc ..) F2.row (hth x b.xn)
 refine wpAny_mono (hb E' (X.pn++pins) _ E hp [] s σ H D (I.try E') hbody) (λf s1 q=>?_) λe s1 q=>?_
 ·cases f with
 |next=>obtain⟨σ',H',J,q⟩:=q;exact wpAny_execs_nil ⟨σ',H',J.untry I.ok,q⟩
 |brk=>obtain⟨σ',H',J,q⟩:=q;exact⟨σ',H',J.untry I.ok,q⟩
 |cont=>obtain⟨σ',H',J,q⟩:=q;exact⟨σ',H',J.untry I.ok,q⟩
 |ret u=>obtain⟨v,σ',H',J,r,q⟩:=q;exact⟨v,σ',H',J.untry I.ok,r,q⟩
 ·exact q
end
def tAt(p:St->Prop)(t:TE):TE:=λσ H Q=>p σ/\t σ H Q
section
variable {X:Cx}{CX:CXT}{k:Nat}{f C Qa:Addr}{fd:FuncData}{ps:List Str}{sp:Sp}{dvs:List V}{ds:List Value}{E:XK}{x m:Str}{pp pos apos:Pos}{e o:Expr}{es:List Expr}{ta:TE}{t:TA}{p:St->Prop}
def Qe(CX:CXT)(X:Cx)(E:XK)(σ:St):Prop:=∀(pins:List (Addr×Obj))(H:Hp)(s:Shared)(e:Value)(s':Shared),Inv X pins σ H s->CX X.stack H s E e s'->X.xe e s'
theorem JK.at{σ:St}(h:JK CX X E p)(hp:p σ):Qe CX X E σ:=λpins H s e s' I c=>h pins σ H s e s' hp I c
theorem Ls{pins:List (Addr×Obj)}{σ:St}{H:Hp}{s:Shared}{Q:VK}{us:List Value}{vs:List V}(M:Mk X.K C f)(F:FnOk X.prog X.w X.K X.mg X.base CX k f fd ps sp)(hr:Room (k+1) X.A)(hb:Binds X.K fd ps ds)(hd:Vals dvs ds)(hx:Qe CX X E σ)(I:Inv X pins σ H s)(r:Vals vs us)(h:∀x dx,H x=none->H dx=none->dx≠x->sp (.ref x::(vs++dvs)) (upd (upd H dx (.own x)) x (.ins C dx [])) (λv H2=>v=.non/\Q (.ref x) H2) E):wpAny (model X.prog X.w) X.A (call (.ref C) us) (EP X pins σ Q) X.xe s:=by
 generalize hn:s.heap.objs.size=n;have hq:=h (n+1) n (I.hok.fresh (by rw[hn];exact Nat.le_succ _)) (I.hok.fresh (by rw[hn];exact Nat.le_refl _)) (Nat.ne_of_lt (Nat.lt_succ_self _));have I2:=Inv.made (C:=C) I;rw[hn]at I2;have r2:Vals (V.ref (n+1)::(vs++dvs)) (Value.ref (n+1)::(us++ds)):=.cons rfl (r.append hd);have hl:(Value.ref (n+1)::us++ds).length=ps.length:=(r2.length).symm.trans (F.len _ _ _ _ hq);refine wpAny_call (PB (f:=f) I.kIn M.makes M.init (beq_iff_eq.mp M.fn) ?_);rw[hn];refine codeAny_mono (F.run _ X.stack _ _ ⟨Value.ref (n+1)::us,[]⟩ (Value.ref (n+1)::(us++ds)) _ _ E (hr.make C us []) (I2.env0.make C us []) (hb _ (Value.ref (n+1)::us) I2.kIn hl) r2 hq) λres s' hq'=>?_;match res,hq' with
|.error e,hq'=>exact hx pins _ _ e s' I2 hq'
|.ok (.ret u),hq'=>obtain⟨v,H',I3,rv,ev,q3⟩:=I2.after hq';subst ev;exact⟨rv,⟨V.ref (n+1),H',I3,rfl,q3⟩⟩
|.ok .next,hq'=>exact hq'.elim
|.ok .brk,hq'=>exact hq'.elim
|.ok .cont,hq'=>exact hq'.elim
theorem QG(M:Mk X.K C f)(F:FnOk X.prog X.w X.K X.mg X.base CX k f fd ps sp)(hr:Room (k+1) X.A)(hg:Gl X x)(hm:X.mg x=some (.ref C))(hb:Binds X.K fd ps ds)(hd:Vals dvs ds)(hx:JK CX X E p)(ha:PA X (e::es) t)(hdb:(x==("__debug__":Str))=false:=by decide)(he:starEach (e::es) X.env=(false,eval e X.env)::starEach es X.env:=by rfl)(hpl:(backTo pos (starEach es X.env)).any (·.1)=false:=by rfl):PE X (.Call (.Name x pp) (e::es) [] pos) (tAt p (LV C sp dvs E t)):=by rintro pins s σ H Q I ⟨hp,h⟩;refine wpAny_Call_Name_kw (VP I hg hm ?_ hdb);refine PySem.W.callWith_K (h₀:=X.base) I.ok.mod.kin M.kp (thn (ha pos pins s σ H _ I h) λus s1⟨vs,H1,I1,r,q⟩=>⟨I1.kIn,?_⟩) he hpl;exact Ls M F hr hb hd (hx.at hp) I1 r q
end
structure XR(K:PySem.W.Frag)(C:Addr):Prop where
 ga:PySem.W.findIn K (.ref C) "__getattribute__"=some (some (.builtin "BaseException.__getattribute__"))
 gg:PySem.W.findIn K (.ref C) "__getattr__"=some none
 hd:PySem.W.hasDictIn K C=true
 be:PySem.W.mroIn K C (.type "BaseException")=some true
section
variable {P:Program}{w:World}{K:PySem.W.Frag}{mg:Str->Option Value}{base:Heap}
theorem Fun.okX{x qual:Str}{st:Stmt}{f:Addr}{fd:FuncData}{N ps:List Str}{k:Nat}{sp:Sp}(F:Fun K x qual st f fd)(S:FnScope N ps (Zg st))(len:∀vs H Q E,sp vs H Q E->vs.length=ps.length)(hbody:∀(cdv:Value)(A:Around)(outer:List Env)(s:Shared)(H:Hp)(vs:List V)(Q:VK)(E:XK),Room k (A.deeper (envOfC qual (Zg st) s.heap.objs.size f cdv))->sp vs H Q E ->∃t,PSs (cxOf (CX1 P w) P w K mg base N qual (Zg st) f cdv A outer s H E) (ZX st) t/\t {nx:=λ_ H'=>Q .non H',rt:=Q} (start N vs) H):FnOk P w K mg base (CX1 P w) (k+1) f fd ps sp:=by obtain⟨oc,od,kV,doc,pm,an,cdv,ct,osl,rfl,lk,hcd⟩:=F.ex;exact Dh lk hcd S len λA outer s H vs Q E hr hsp=>hbody cdv A outer s H vs Q E hr hsp
def CanX(P:Program)(w:World)(K:PySem.W.Frag)(mg:Str->Option Value)(base:Heap)(k:Nat)(x:Str)(ps:List Str)(sp:Sp):Prop:=∃f fd,FnOk P w K mg base (CX1 P w) k f fd ps sp/\mg x=some (.ref f)/\PySem.W.keepIn K (.ref f)=true/\Binds K fd ps []
theorem CanX.mono{j k:Nat}{x:Str}{ps:List Str}{sp:Sp}(C:CanX P w K mg base j x ps sp)(h:j<=k):CanX P w K mg base k x ps sp:=by obtain⟨f,fd,F,r⟩:=C;exact⟨f,fd,F.mono h,r⟩
theorem Df.canX{x:Str}{st:Stmt}{N ps:List Str}{k:Nat}{sp:Sp}(D:Df K mg x st ps)(S:FnScope N ps (Zg st))(len:∀vs H Q E,sp vs H Q E->vs.length=ps.length)(hbody:∀(f:Addr)(cdv:Value)(A:Around)(outer:List Env)(s:Shared)(H:Hp)(vs:List V)(Q:VK)(E:XK),Room k (A.deeper (envOfC x (Zg st) s.heap.objs.size f cdv))->sp vs H Q E ->∃t,PSs (cxOf (CX1 P w) P w K mg base N x (Zg st) f cdv A outer s H E) (ZX st) t/\t {nx:=λ_ H'=>Q .non H',rt:=Q} (start N vs) H):CanX P w K mg base (k+1) x ps sp:=by obtain⟨f,fd,F,m,b⟩:=D;exact⟨f,fd,F.okX S len (λcdv A outer s H vs Q E hr h=>hbody f cdv A outer s H vs Q E hr h),m,F.kp,b⟩
end
section
variable {X:Cx}{E:XK}
theorem XM{k:Nat}{x:Str}{ps:List Str}{sp:Sp}{p pos:Pos}{e:Expr}{es:List Expr}{t:TA}(C:CanX X.prog X.w X.K X.mg X.base k x ps sp)(hx:Passes (CX1 X.prog X.w) X E)(hr:Room k X.A)(hg:Gl X x)(ha:PA X (e::es) t)(hdb:(x==("__debug__":Str))=false:=by decide)(he:starEach (e::es) X.env=(false,eval e X.env)::starEach es X.env:=by rfl)(hpl:(backTo pos (starEach es X.env)).any (·.1)=false:=by rfl):PE X (.Call (.Name x p) (e::es) [] pos) (Rk sp [] E t):=by obtain⟨f,fd,F,m,kp,b⟩:=C;exact RI F hr hg m kp b .nil hx ha hdb he hpl
end
def Wo(C:Addr)(names:List Str):Sp:=λvs H Q _=>∃a xs,vs=.ref a::xs/\xs.length=names.length/\H a=some (ErrN a C none) /\∀H' d,d≠a->H d=none->H' a=some (ErrN a C (some d))->H' d=some (XD d (names.zip xs))->(∀b,b≠a->b≠d->H' b=H b)->Q .non H'
structure Err(P:Program)(w:World)(K:PySem.W.Frag)(mg:Str->Option Value)(base:Heap)(x:Str)(names:List Str)(C:Addr):Prop where
 xc:∃fI Qa fd ps,XC K C fI Qa/\FnOk P w K mg base CX0 1 fI fd ps (Wo C names)/\ps.length<=1000/\Binds K fd ps []
 xr:XR K C
 mg:mg x=some (.ref C)
 kp:PySem.W.keepIn K (.ref C)=true
section
variable {X:Cx}{E:XK}{x:Str}{names:List Str}{C:Addr}{p cpos pos:Pos}{e:Expr}{es:List Expr}{t:TA}
def K7(C:Addr)(names:List Str)(t:TA)(E:XK):TS:=λ_ σ H=>t σ H λvs H1=>vs.length=names.length/\∀H' d,H1 d=none->H' d=some (XD d (names.zip vs))->(∀b,b≠d->H' b=H1 b)->E (.ref C) (some d) H'
theorem JN(R:Err X.prog X.w X.K X.mg X.base x names C)(hx:Passes (CX1 X.prog X.w) X E)(hcalm:X.calm=true)(hr:Room 2 X.A)(hg:Gl X x)(ha:PA X (e::es) t)(hdb:(x==("__debug__":Str))=false:=by decide)(he:starEach (e::es) X.env=(false,eval e X.env)::starEach es X.env:=by rfl)(hpl:(backTo cpos (starEach es X.env)).any (·.1)=false:=by rfl):PS X (.Raise (some (.Call (.Name x p) (e::es) [] cpos)) none pos) (K7 C names t E):=by
 obtain⟨fI,Qa,fd,ps,xc,F,hn,hb⟩:=R.xc;intro pins s σ H D I h;rw[arm_exec_Raise];refine wpAny_bind (wpAny_standAt ?_);refine So (K:=X.K) (I.ok.hd hcalm) (wpAny_bind (wpAny_mono (wpAny_Call_Name_kw (VP I hg R.mg ?_ hdb)) (λu s1 q=>wpAny_bind (wpAny_standAt (wpAny_pure q))) λ_ _ z=>z));refine PySem.W.callWith_K (h₀:=X.base) I.ok.mod.kin R.kp (thn (ha cpos pins s σ H _ I h) λus s1⟨vs,H1,I1,r,hl,q⟩=>⟨I1.kIn,?_⟩) he hpl;refine thn (Sl (k:=1) (E:=E0) (Q:=λv H2=>∃a d H',v=.ref a/\H2 a=some (ErrN a C (some d))/\del H2 a=H'/\E (.ref C) (some d) H') (dvs:=[]) (ds:=[]) xc F hr hb .nil VJ I1 r ?_ λa ha'=>?_) λu s2 q2=>?_
 ·rw[sizeLine_eq];have e1:=r.length;have e2:=F.len (.ref s1.heap.objs.size::vs) (upd H1 s1.heap.objs.size (ErrN s1.heap.objs.size C none)) (λ_ _=>True) E0 ⟨_,vs,rfl,hl,Zc ..,λ_ _ _ _ _ _ _=>trivial⟩;rw[List.length_cons]at e2;have e3:us.length=vs.length:=e1.symm;show us.length<=_;omega
 ·rw[List.append_nil];refine⟨a,vs,rfl,hl,Zc ..,λH' d hne hd h1 h2 h3=>⟨rfl,a,d,_,rfl,h1,rfl,q (del H' a) d ?_ ?_ ?_⟩⟩
  ·rwa [Ze hne]at hd
  ·rw[XZ hne];exact h2
  ·intro b hb;by_cases hba:b=a
   ·rw[hba,JG,ha']
   ·rw[XZ hba,h3 b hba hb,Ze hba]
 ·obtain⟨v,H2,I2,rv,a,d,H',ev,ea,eH,hE⟩:=q2;subst ev;obtain rfl:u=Value.ref a:=rv;obtain⟨o,vs',hx',hc,hdd,hd,hz,h1⟩:=Jn.mp (I2.hok a _ ea);exact⟨a,o,C,fI,Qa,vs',rfl,xc,I2.kIn,hx',hc,hd,h1,hx pins σ H2 s2 _ s2 I2 (raised I2 ea (by rw[eH];exact hE))⟩
end
noncomputable def Nr(f v:Str)(p1 p2 p3 p4:Pos):Stmt:=.Assign [.Attribute (.Name "self" p1) f p2] (.Name v p3) p4
theorem Uy{N ps:List Str}{sc:Scope}(S:FnScope N ps sc){x:Str}(h:x∈ps):Vis sc x:=by
 rcases S.par x h with z|z
 ·exact .inl z
 ·exact .inr (.inl z)
section
variable {P:Program}{w:World}{K:PySem.W.Frag}{mg:Str->Option Value}{base:Heap}{fI C Qa:Addr}{fd:FuncData}{qual f1 v1 f2 v2 f3 v3:Str}{st:Stmt}{p1 p2 p3 p4 q1 q2 q3 q4 r1 r2 r3 r4:Pos}
def Plain(x:Str):Prop:=(x==("__debug__":Str))=false/\(x==("__classdict__":Str))=false
theorem E3(F:Fun K "__init__" qual st fI fd)(S:FnScope ["self",v1,v2,v3] ["self",v1,v2,v3] (Zg st))(hb:ZX st=[Nr f1 v1 p1 p2 p3 p4,Nr f2 v2 q1 q2 q3 q4,Nr f3 v3 r1 r2 r3 r4])(pl1:Plain v1)(pl2:Plain v2)(pl3:Plain v3)(xc:XC K C fI Qa)(n1:Yl K C f1)(n2:Yl K C f2)(n3:Yl K C f3)(h12:f1≠f2)(h13:f1≠f3)(h23:f2≠f3):FnOk P w K mg base CX0 1 fI fd ["self",v1,v2,v3] (Wo C [f1,f2,f3]):=by
 refine F.ok (k:=0) S (λvs H Q E h=>?_) λcdv A outer s H vs Q E hr h=>?_
 ·obtain⟨a,xs,rfl,hl,_⟩:=h;rw[List.length_cons,hl];rfl
 ·obtain⟨a,xs,rfl,hl,hH,k⟩:=h;obtain⟨y,z,u,rfl⟩:=len3 hl;rw[hb];refine⟨_,Zd (Le (J7 (i:=0) rfl (Uy S (by simp)) (by decide) (by decide)) (J7 (i:=1) rfl (Uy S (by simp)) pl1.1 pl1.2) rfl) (Zd (RH (J7 (i:=0) rfl (Uy S (by simp)) (by decide) (by decide)) (J7 (i:=2) rfl (Uy S (by simp)) pl2.1 pl2.2) rfl) (Zk (RH (J7 (i:=0) rfl (Uy S (by simp)) (by decide) (by decide)) (J7 (i:=3) rfl (Uy S (by simp)) pl3.1 pl3.2) rfl))),?_⟩;refine⟨y,rfl,.ref a,rfl,a,C,fI,Qa,rfl,hH,xc,n1,λd hne hd=>?_⟩;refine⟨z,rfl,.ref a,rfl,a,C,fI,Qa,d,[(f1,y)],rfl,Zc ..,by rw[Ze hne,Zc],hne,by simp,xc,n2,?_⟩;refine⟨u,rfl,.ref a,rfl,a,C,fI,Qa,d,putF f2 z [(f1,y)],rfl,Zc ..,by rw[Ze hne,Zc],hne,by simp[putF,h12],xc,n3,?_⟩;refine k _ d hne hd (Zc ..) ?_ λb hb1 hb2=>by rw[Ze hb1,Ze hb2,Ze hb1,Ze hb2,Ze hb1,Ze hb2]
  rw[Ze hne,Zc];show some (XD d (putF f3 u (putF f2 z [(f1,y)])))=_;simp[putF,h12,h13,h23]
end
structure XK1(K:PySem.W.Frag)(mg:Str->Option Value)(x:Str)(C fI Qa:Addr):Prop where
 xc:XC K C fI Qa
 xr:XR K C
 xb:XB K C
 mg:mg x=some (.ref C)
 kp:PySem.W.keepIn K (.ref C)=true
section
variable {X:Cx}{a b e:Expr}{es:List Expr}{ta tb te:TE}{t:TA}{pos:Pos}
noncomputable def notStar:Expr->Bool
|.Starred ..=>false
|_=>true
theorem Qu{env:Env}(h:notStar e=true):starEach (e::es) env=(false,eval e env)::starEach es env:=by cases e<;>first|rfl|cases h
theorem Za(ha:PE X e te)(hr:PA X es t)(hn:notStar e=true:=by rfl):PA X (e::es) (MH te t):=Zh ha hr (Qu hn)
theorem il(K:PySem.W.Frag)(ha:PE X a ta)(hb:PE X b tb)(hK:X.K=K:=by rfl)(hs:NP b:=by exact λ_ _=>rfl):PE X (.Subscript a b pos) (tOp (rIxL K) ta tb):=by subst hK;exact Z2 LC ha hb hs
theorem it(K:PySem.W.Frag)(ha:PE X a ta)(hb:PE X b tb)(hK:X.K=K:=by rfl)(hs:NP b:=by exact λ_ _=>rfl):PE X (.Subscript a b pos) (tOp (rIxT K) ta tb):=by subst hK;exact Z2 ZY ha hb hs
theorem cn{k j:Nat}{x:Str}{ps:List Str}{sp:Sp}{p:Pos}(C:Can X.prog X.w X.K X.mg X.base k x ps sp)(hr:Room j X.A)(ha:PA X (e::es) t)(hk:k<=j:=by decide)(hg:Gl X x:=by rfl)(hdb:(x==("__debug__":Str))=false:=by decide)(he:starEach (e::es) X.env=(false,eval e X.env)::starEach es X.env:=by rfl)(hpl:(backTo pos (starEach es X.env)).any (·.1)=false:=by rfl):PE X (.Call (.Name x p) (e::es) [] pos) (Rk sp [] E0 t):=ZS C (hr.mono hk) hg ha hdb he hpl
theorem st(i:Nat){x:Str}{p:Pos}(hN:X.N.Nodup)(he:PE X e te)(hi:X.N[i]?=some x:=by rfl)(hx:Loc X.env.scope x:=by exact Or.inl rfl)(hs:swapsWith e (some (.Name x p)) pos.line X.env=pure false:=by rfl)(hf:X.fn x=true\/X.env.scope.names.lookup x=some .local:=by first|exact .inl rfl|exact .inr rfl):PS X (.Assign [.Name x p] e pos) (tAsg te (PU i)):=Yn hN hi hx he hs hf
end
theorem zl{n:Nat}(h:Nat.ble n 1000=true:=by rfl):n<=sizeLine:=Nat.le_trans (Nat.le_of_ble_eq_true h) (by decide)
theorem gE{α:Type}{l:List α}{i:Nat}(h:i<l.length):l[i]?=some l[i]:=List.getElem?_eq_getElem h
theorem scO{N P:List Str}{sc:Scope}(h:sc.kind=.function/\sc.isCoroutine=false/\sc.isGenerator=false/\N.Nodup/\N.take P.length=P/\(∀x∈P,sc.names.lookup x=some .local\/sc.names.lookup x=some .cell)/\∀y∈sc.names,y.2≠.free):FnScope N P sc:=⟨h.1,h.2.1,h.2.2.1,h.2.2.2.1,h.2.2.2.2.1,h.2.2.2.2.2.1,h.2.2.2.2.2.2⟩
section
variable {t u:TS}{D:Ends}{σ:St}{H:Hp}
theorem sq(S:St->Hp->Prop)(h1:∀n:St->Hp->Prop,(∀σ' H',S σ' H'->n σ' H')->t {D with nx:=n} σ H)(h2:∀σ' H',S σ' H'->u D σ' H'):tSeq t u D σ H:=h1 _ h2
end
def Xg(K:PySem.W.Frag)(w:World)(a:Addr)(z:Str)(v:V):Prop:=∃es n u,K.lookup a=some ⟨.type "dict",none,.dict es n,#[]⟩/\PySem.W.KeysLit w.params es.toList/\PySem.W.nsIn K a z=some (some u)/\RelV v u
def EE(K:PySem.W.Frag)(w:World)(td ty:TE):TE:=λσ H Q=>td σ H λx H1=>ty σ H1 λy H2=>∃a z v,x=.ref a/\y=.str z/\Xg K w a z v/\Q v H2
section
variable {X:Cx}{o i:Expr}{td ty:TE}{pos:Pos}
theorem Gz(ho:PE X o td)(hi:PE X i ty)(hs:NoSl i):PE X (.Subscript o i pos) (EE X.K X.w td ty):=by intro pins s σ H Q I h;refine Rn PySem.F.slot_dict_getitem.lookup hs (thn (ho pins s σ H _ I h) λu s1⟨x,H1,I1,rx,q1⟩=>thn (hi pins s1 σ H1 _ I1 q1) λiv s2⟨y,H2,I2,ry,a,z,v,ex,ey,⟨es,n,u',hl,hk,hn,rv⟩,q2⟩=>?_);subst ex ey;obtain rfl:u=Value.ref a:=rx;obtain⟨t,rfl⟩:=(show ∃t,iv=Value.str z t from ry);have hm:=PySem.W.mapOf_K (prog:=X.prog) I2.kIn hl hk;exact⟨hm.typeIs,wpAny_getItem_of (strKind_is X.prog X.w z t) hm (PySem.W.find_K hl hn) ⟨v,H2,I2.tok _,rv,q2⟩⟩
end
end L2
namespace T
open PySem L2
noncomputable def top(i:Nat):Stmt:=PySem.Challenge.pw_homequay_k07_texts_there_and_back.main.body.getD i (.Pass ⟨0,0,0,0⟩)
noncomputable abbrev m_BadTable___init__:Stmt:=inClass (top 3) 0
noncomputable abbrev f_is_whole:Stmt:=top 13
noncomputable abbrev f_is_within:Stmt:=top 14
noncomputable abbrev f_is_text_of:Stmt:=top 15
noncomputable abbrev f_is_name:Stmt:=top 16
noncomputable abbrev f_is_group_name:Stmt:=top 17
noncomputable abbrev f_number_of:Stmt:=top 18
noncomputable abbrev f_is_known:Stmt:=top 26
noncomputable abbrev f_rows_of:Stmt:=top 27
noncomputable abbrev f_wrong_beginning:Stmt:=top 28
noncomputable abbrev f_wrong_ends:Stmt:=top 29
noncomputable abbrev f_wrong_place:Stmt:=top 30
noncomputable abbrev f_wrong_ride:Stmt:=top 31
noncomputable abbrev f_wrong_way:Stmt:=top 32
noncomputable abbrev f_wrong_group:Stmt:=top 33
noncomputable abbrev f_refuse_row:Stmt:=top 34
noncomputable abbrev m_Table___init__:Stmt:=inClass (top 35) 0
noncomputable abbrev m_Table_take_places:Stmt:=inClass (top 35) 1
noncomputable abbrev m_Table_take_rides:Stmt:=inClass (top 35) 2
noncomputable abbrev m_Table_take_ways:Stmt:=inClass (top 35) 3
noncomputable abbrev m_Table_take_groups:Stmt:=inClass (top 35) 4
noncomputable abbrev m_Table_told:Stmt:=inClass (top 35) 5
noncomputable abbrev m_Table_is_place:Stmt:=inClass (top 35) 6
noncomputable abbrev m_Table_is_home:Stmt:=inClass (top 35) 7
noncomputable abbrev f_row_text:Stmt:=top 39
noncomputable abbrev f_place_text:Stmt:=top 40
noncomputable abbrev f_show_table:Stmt:=top 41
noncomputable abbrev f_read_word:Stmt:=top 42
noncomputable abbrev f_read_row:Stmt:=top 43
noncomputable abbrev f_read_rows:Stmt:=top 44
noncomputable abbrev f_made_table:Stmt:=top 45
noncomputable abbrev f_read_table:Stmt:=top 46
noncomputable abbrev f__law_box:Stmt:=top 49
noncomputable abbrev f__law_take:Stmt:=top 50
noncomputable abbrev f__law_names:Stmt:=top 51
noncomputable abbrev f__law_places:Stmt:=top 52
noncomputable abbrev f__law_size:Stmt:=top 53
noncomputable abbrev f__law_ends:Stmt:=top 54
noncomputable abbrev f__law_ride:Stmt:=top 55
noncomputable abbrev f__law_way:Stmt:=top 56
noncomputable abbrev f__law_group:Stmt:=top 57
noncomputable abbrev f__law_world:Stmt:=top 58
noncomputable abbrev f__law_rows:Stmt:=top 59
noncomputable abbrev f__law_woven:Stmt:=top 60
noncomputable abbrev f__law_turned:Stmt:=top 61
noncomputable abbrev f__law_wild:Stmt:=top 62
noncomputable abbrev f__law_due:Stmt:=top 63
noncomputable abbrev f__law_is:Stmt:=top 64
noncomputable abbrev f_law:Stmt:=top 65
end T
namespace K1
noncomputable def LET:List Nat:=[97,98,99,100,101,102,103,104,105,106,107,108,109,110,111,112,113,114,115,116,117,118,119,120,121,122]
noncomputable def FIG:List Nat:=[48,49,50,51,52,53,54,55,56,57]
noncomputable def lenB(n:Int)(y:List Nat):Bool:=decide ((1:Int)<=y.length)&&decide ((y.length:Int)<=n)
noncomputable def Z6(n:Int)(zs y:List Nat):Bool:=lenB n y&&y.all λc=>decide (c∈zs)
noncomputable def Y1(n:Int)(zs y:List Nat):Bool:=Z6 n zs y&&decide (y.getD 0 0∈LET)
noncomputable def figV(y:List Nat):Nat:=y.foldl (λacc c=>acc*10+(c-48)) 0
noncomputable def numB(y:List Nat):Option Int:=if Z6 4 FIG y=true then(if y.getD 0 0=48/\y≠[48]then none else some (figV y:Int))else none
theorem LD{c:Nat}(h:c∈FIG):48<=c/\c<=57:=by unfold FIG at h;simp at h;omega
open PySem L2
noncomputable abbrev WB:Stmt:=T.f_is_whole
noncomputable abbrev RD:Stmt:=T.f_is_within
noncomputable abbrev Np:Stmt:=T.f_is_text_of
noncomputable abbrev L8:Stmt:=T.f_is_name
noncomputable abbrev WC:Stmt:=T.f_is_group_name
noncomputable def tLET:Str:="abcdefghijklmnopqrstuvwxyz"
noncomputable def tFIG:Str:="0123456789"
noncomputable def tNAME:Str:="abcdefghijklmnopqrstuvwxyz0123456789"
noncomputable def tGROUP:Str:="abcdefghijklmnopqrstuvwxyz0123456789."
structure Txt(K:PySem.W.Frag)(mg:Str->Option Value):Prop where
 lets:∃t,mg "LETTERS"=some (.str tLET t)
 names:∃t,mg "NAME_SIGNS"=some (.str tNAME t)
 groups:∃t,mg "GROUP_SIGNS"=some (.str tGROUP t)
 ln:∃t,mg "LONGEST_NAME"=some (.int 8 t)
 lg:∃t,mg "LONGEST_GROUP_NAME"=some (.int 12 t)
 isi:mg "isinstance"=none
 int:mg "int"=none
 bool:mg "bool"=none
 str:mg "str"=none
 len:mg "len"=none
 all:mg "all"=none
noncomputable def TU(x:V):Bool:=W7 x
noncomputable def Zt(x:V)(lo hi:Int):Bool:=match x with
|.int i=>decide (lo<=i)&&decide (i<=hi)
|_=>false
noncomputable def codes(z:Str):List Nat:=z.cps.toList
noncomputable def GQ(x:V)(n:Int)(z:Str):Bool:=match x with
|.str y=>Z6 n (codes z) (codes y)
|_=>false
noncomputable def VN(x:V)(n:Int)(z:Str):Bool:=match x with
|.str y=>Y1 n (codes z) (codes y)
|_=>false
noncomputable def optV:Option Int->V
|some i=>.int i
|none=>.non
noncomputable def numV(x:V):V:=match x with
|.str y=>optV (numB (codes y))
|_=>.non
def Rp:Sp:=λvs H Q _=>∃x T,vs=[x]/\Th H x T/\Q (.bl (TU x)) H
def X8:Sp:=λvs H Q _=>∃x T lo hi,vs=[x,.int lo,.int hi]/\Th H x T/\Q (.bl (Zt x lo hi)) H
def VB:Sp:=λvs H Q _=>∃x T n z,vs=[x,.int n,.str z]/\Th H x T/\∀H',Same H H'->Q (.bl (GQ x n z)) H'
def UE(n:Int)(z:Str):Sp:=λvs H Q _=>∃x T,vs=[x]/\Th H x T/\∀H',Same H H'->Q (.bl (VN x n z)) H'
def N8:Sp:=λvs H Q _=>∃x T,vs=[x]/\Th H x T/\∀H',Same H H'->Q (numV x) H'
theorem slen{z:Str}(h:z.length<=1000):z.length<=sizeLine:=Nat.le_of_lt (Z4 h)
theorem clen(z:Str):(codes z).length=z.length:=by simp[codes,Str.length]
section
variable {P:Program}{w:World}{K:PySem.W.Frag}{mg:Str->Option Value}{base:Heap}
theorem K3:FnScope ["thing"] ["thing"] (Zg WB):=⟨rfl,rfl,rfl,by decide +kernel,rfl,by decide +kernel,by decide +kernel⟩
theorem Tf(T:Txt K mg)(D:Df K mg "is_whole" WB ["thing"]):Can P w K mg base 1 "is_whole" ["thing"] Rp:=by
 refine D.can K3 (λvs H Q E h=>?_) (λf cdv A outer s H vs Q E hr h=>?_)
 ·obtain⟨x,T',rfl,_⟩:=h;rfl
 ·obtain⟨x,T',rfl,th,k⟩:=h;refine⟨_,Zk (Zq (JE (UL (c:="int") (pv 0) rfl T.isi rfl T.int Mv) (Y4 (DL (UL (c:="bool") (pv 0) rfl T.isi rfl T.bool LL))))),?_⟩;refine⟨_,rfl,_,_,_,_,rfl,th.ty,th.kitI,_,rfl,?_⟩;have fin:∀b,b=TU x->Q (.bl b) H:=λb e=>e▸k;refine ite2 (λe=>?_) (λe=>fin _ ?_)
  ·refine⟨_,rfl,_,_,_,_,rfl,th.ty,th.kitB,_,rfl,fin _ ?_⟩;cases th<;>first|rfl|(exact absurd (show false=true from e) Bool.false_ne_true)
  ·cases th<;>first|rfl|(exact absurd rfl e)
theorem Wr:FnScope ["thing","low","high"] ["thing","low","high"] (Zg RD):=⟨rfl,rfl,rfl,by decide +kernel,rfl,by decide +kernel,by decide +kernel⟩
theorem QY(D:Df K mg "is_within" RD ["thing","low","high"])(CW:Can P w K mg base 1 "is_whole" ["thing"] Rp):Can P w K mg base 2 "is_within" ["thing","low","high"] X8:=by
 refine D.can Wr (λvs H Q E h=>?_) (λf cdv A outer s H vs Q E hr h=>?_)
 ·obtain⟨x,T',lo,hi,rfl,_⟩:=h;rfl
 ·obtain⟨x,T',lo,hi,rfl,th,k⟩:=h;refine⟨_,Zk (Zq (JE (ZS CW hr rfl (Zh (pv 0) Zb)) (Y4 (WT RJ RJ (pv 1) (pv 0) (pv 2))))),?_⟩;refine⟨_,rfl,x,T',rfl,th,_,rfl,?_⟩;have fin:∀b,b=Zt x lo hi->Q (.bl b) H:=λb e=>e▸k;refine ite2 (λe=>?_) (λe=>fin _ ?_)
  ·cases th with
  |int i=>
    refine⟨_,rfl,_,rfl,_,_,rfl,rfl,_,rfl,?_⟩;refine ite2 (λe2=>?_) (λe2=>fin _ ?_)
    ·refine⟨_,rfl,_,_,rfl,rfl,fin _ ?_⟩;show _=(decide (lo<=i)&&decide (i<=hi));rw[e2,Bool.true_and]
    ·show false=(decide (lo<=i)&&decide (i<=hi));have e3:decide (lo<=i)=false:=by simpa using e2
     rw[e3,Bool.false_and]
  |_=>exact absurd (show false=true from e) Bool.false_ne_true
  ·cases th<;>first|rfl|(exact absurd rfl e)
theorem Ww:FnScope ["thing","longest","signs"] ["thing","longest","signs"] (Zg Np):=⟨rfl,rfl,rfl,by decide +kernel,rfl,by decide +kernel,by decide +kernel⟩
noncomputable def cs1:Scope:={kind:=.function,names:=[(Str.ofString ".0",.local),(Str.ofString "sign",.local),(Str.ofString "signs",.free)],isGenerator:=false,isCoroutine:=false,more:=[]}
theorem Es:CompScope cs1 (Zg Np):=⟨rfl,by decide +kernel,by decide +kernel,by decide +kernel⟩
theorem Eu:(["sign","signs"]:List Str).Nodup:=by decide +kernel
theorem Et:CompNames ["thing","longest","signs"] cs1 ["sign","signs"] [none,some 2]:=.mk' (by decide +kernel)
theorem QP(z:Str)(c:Nat):(!(Builtin.Str.occurrences z ⟨#[c]⟩ 0 z.length 1).isEmpty)=decide (c∈codes z):=PySem.StrLaws.found_one z c
theorem take_all{α β:Type}(l:List α)(p:α->β)(i:Nat)(c:α)(h:l[i]?=some c):(l.take (i+1)).map p=(l.take i).map p++[p c]:=by rw[List.take_add_one,h,List.map_append];rfl
theorem Ms(T:Txt K mg)(D:Df K mg "is_text_of" Np ["thing","longest","signs"]):Can P w K mg base 1 "is_text_of" ["thing","longest","signs"] VB:=by
 refine D.can Ww (λvs H Q E h=>?_) (λf cdv A outer s H vs Q E hr h=>?_)
 ·obtain⟨x,T',n,z,rfl,_⟩:=h;rfl
 ·obtain⟨x,T',n,z,rfl,th,k⟩:=h;refine⟨_,Zd (ZP (PW.pt (JY (Ye (Z0 (UL (c:="str") (pv 0) rfl T.isi rfl T.str YV))) (XW (Ye (WI RJ RJ Zi (ZI Kz rfl T.len PySem.boot_len (Zh (pv 0) Zb)) (pv 1)))))) (Zk (Zq Pn)) Zx) (Zk (Zq (ZI (KC rfl) rfl T.all PyProof.Rows.boot_all (Zh (Yz (scope:=cs1) (N:=["sign","signs"]) (cp:=[none,some 2]) rfl Es Et (DK (pv 0)) (λC s H ex pn=>Zo (i:=0) Eu rfl (Or.inl rfl)) (λC s H ex pn=>ZO) (λC s H ex pn=>YY UO (pv 0) (pv 1) (by with_unfolding_all rfl))) Zb)))),?_⟩;have fin:∀b H',Same H H'->b=GQ x n z->Q (.bl b) H':=λb H' sm e=>e▸k H' sm;refine⟨_,rfl,_,_,_,_,rfl,th.ty,th.kitS,_,rfl,?_⟩;refine ite2 (λe=>?_) (λe=>?_)
  ·refine iteT (fin _ _ (Same.refl _) ?_);cases th<;>first|rfl|(exact absurd (show false=true from e) Bool.false_ne_true)
  ·cases th with
  |str y hy=>
    have hlen:(codes y).length=y.length:=clen y;refine⟨_,rfl,_,_,rfl,⟨slen hy,rfl⟩,_,_,rfl,rfl,_,rfl,?_⟩;refine ite2 (λe1=>?_) (λe1=>?_)
    ·refine⟨_,rfl,_,_,rfl,rfl,_,rfl,?_⟩;refine ite2 (λe2=>?_) (λe2=>?_)
     ·refine fin _ _ (Same.refl _) ?_;show false=Z6 n (codes z) (codes y);unfold Z6 lenB;have e3:decide ((y.length:Int)<=n)=false:=by simpa using e2
      rw[hlen,e3,Bool.and_false,Bool.false_and]
     ·have e3:decide ((y.length:Int)<=n)=true:=by simpa using e2
      refine⟨_,rfl,y,rfl,ZF (J:=Its y) y.length (slen hy) (λi ys τ H1=>H1=H/\ys=((codes y).take i).map (λc=>V.bl (decide (c∈codes z)))/\∃v,τ=[v,some (.str z)]) ⟨rfl,rfl,none,rfl⟩ (λi ys τ H1 p=>?_) (λi ys τ H1 hi p=>hi) (λys τ H1 p=>Nat.le_refl _) (λi ys τ H1 x' H2 hi p yl=>?_) (λys τ H1 p l hl=>?_)⟩
      ·rw[p.2.1,List.length_map,List.length_take];omega
      ·obtain⟨rfl,rfl,v,rfl⟩:=p;obtain⟨rfl,c,hc,rfl⟩:=yl;refine⟨_,rfl,_,rfl,_,_,rfl,rfl,rfl,?_,_,rfl⟩;rw[QP];exact(take_all (codes y) (λc=>V.bl (decide (c∈codes z))) i c hc).symm
      ·obtain⟨rfl,rfl,v,rfl⟩:=p;refine⟨l,(codes y).map (λc=>decide (c∈codes z)),rfl,SqL.of ?_,fin _ _ (λb o q=>?_) ?_⟩
       ·rw[Zc,<-hlen,List.take_length,List.map_map];rfl
       ·rw[Ze (Zf q hl)];exact q
       ·show _=Z6 n (codes z) (codes y);unfold Z6 lenB;rw[hlen,e1,e3,Bool.true_and,Bool.true_and,List.all_map];rfl
    ·refine⟨_,rfl,iteT (fin _ _ (Same.refl _) ?_)⟩;show false=Z6 n (codes z) (codes y);unfold Z6 lenB;have e3:decide ((1:Int)<=y.length)=false:=by simpa using e1
     rw[hlen,e3,Bool.false_and,Bool.false_and]
  |_=>exact absurd rfl e
theorem cLET:codes tLET=LET:=by decide +kernel
theorem cFIG:codes tFIG=FIG:=by decide +kernel
theorem Ff:codes tNAME=LET++FIG++[]:=by decide +kernel
theorem Ew:codes tGROUP=LET++FIG++[46]:=by decide +kernel
theorem UD{x:V}{n:Int}{z:Str}(h:GQ x n z=true):∃y c r,x=.str y/\codes y=c::r:=by
 cases x with
|str y=>
  have h':Z6 n (codes z) (codes y)=true:=h;unfold Z6 lenB at h';rw[Bool.and_eq_true,Bool.and_eq_true]at h';have h1:=of_decide_eq_true h'.1.1;cases e:codes y with
 |nil=>rw[e]at h1;simp at h1
 |cons c r=>exact⟨y,c,r,rfl,e⟩
|_=>exact absurd (show false=true from h) Bool.false_ne_true
theorem NK{y:Str}{c:Nat}{r:List Nat}(e:codes y=c::r):atI y.cps.toList 0=some c:=by have e':y.cps.toList=c::r:=e;rw[e'];exact Zr (j:=0) rfl
theorem _root_.L2.Th.strLen{H:Hp}{y:Str}{T:String}(h:Th H (.str y) T):y.length<=1000:=by
 cases h with
|str z h=>exact h
theorem Gd{x:V}{n:Int}{z:Str}(h:GQ x n z=false):VN x n z=false:=by
 cases x with
|str y=>have h':Z6 n (codes z) (codes y)=false:=h;show(Z6 n (codes z) (codes y)&&_)=false;rw[h',Bool.false_and]
|_=>rfl
theorem K2:FnScope ["thing"] ["thing"] (Zg L8):=⟨rfl,rfl,rfl,by decide +kernel,rfl,by decide +kernel,by decide +kernel⟩
theorem Qc(T:Txt K mg)(D:Df K mg "is_name" L8 ["thing"])(CT:Can P w K mg base 1 "is_text_of" ["thing","longest","signs"] VB):Can P w K mg base 2 "is_name" ["thing"] (UE 8 tNAME):=by
 refine D.can K2 (λvs H Q E h=>?_) (λf cdv A outer s H vs Q E hr h=>?_)
 ·obtain⟨x,T',rfl,_⟩:=h;rfl
 ·obtain⟨x,T',rfl,th,k⟩:=h;obtain⟨t1,h1⟩:=T.ln;obtain⟨t2,h2⟩:=T.names;obtain⟨t3,h3⟩:=T.lets;refine⟨_,Zk (Zq (JE (ZS CT hr rfl (Zh (pv 0) (Zh (ZW (v:=V.int 8) rfl h1 ⟨t1,rfl⟩) (Zh (ZW (v:=V.str tNAME) rfl h2 ⟨t2,rfl⟩) Zb)))) (Y4 (YY UO (Z2 UT (pv 0) Zi (λ_ _=>rfl)) (ZW (v:=V.str tLET) rfl h3 ⟨t3,rfl⟩) (by with_unfolding_all rfl))))),?_⟩;refine⟨_,rfl,x,T',8,tNAME,rfl,th,λH' sm=>⟨_,rfl,?_⟩⟩;have fin:∀b,b=VN x 8 tNAME->Q (.bl b) H':=λb e=>e▸k H' sm;refine ite2 (λe=>?_) (λe=>fin _ ?_)
  ·obtain⟨y,c,r,rfl,ey⟩:=UD e;refine⟨_,rfl,y,0,c,rfl,rfl,slen th.strLen,NK ey,_,_,rfl,rfl,fin _ ?_⟩;have e':Z6 8 (codes tNAME) (codes y)=true:=e;show _=(Z6 8 (codes tNAME) (codes y)&&decide ((codes y).getD 0 0∈LET));rw[QP,e',Bool.true_and,cLET,ey];rfl
  ·exact(Gd (by simpa using e)).symm
theorem Wq:FnScope ["thing"] ["thing"] (Zg WC):=⟨rfl,rfl,rfl,by decide +kernel,rfl,by decide +kernel,by decide +kernel⟩
theorem MS(T:Txt K mg)(D:Df K mg "is_group_name" WC ["thing"])(CT:Can P w K mg base 1 "is_text_of" ["thing","longest","signs"] VB):Can P w K mg base 2 "is_group_name" ["thing"] (UE 12 tGROUP):=by
 refine D.can Wq (λvs H Q E h=>?_) (λf cdv A outer s H vs Q E hr h=>?_)
 ·obtain⟨x,T',rfl,_⟩:=h;rfl
 ·obtain⟨x,T',rfl,th,k⟩:=h;obtain⟨t1,h1⟩:=T.lg;obtain⟨t2,h2⟩:=T.groups;obtain⟨t3,h3⟩:=T.lets;refine⟨_,Zk (Zq (JE (ZS CT hr rfl (Zh (pv 0) (Zh (ZW (v:=V.int 12) rfl h1 ⟨t1,rfl⟩) (Zh (ZW (v:=V.str tGROUP) rfl h2 ⟨t2,rfl⟩) Zb)))) (Y4 (YY UO (Z2 UT (pv 0) Zi (λ_ _=>rfl)) (ZW (v:=V.str tLET) rfl h3 ⟨t3,rfl⟩) (by with_unfolding_all rfl))))),?_⟩;refine⟨_,rfl,x,T',12,tGROUP,rfl,th,λH' sm=>⟨_,rfl,?_⟩⟩;have fin:∀b,b=VN x 12 tGROUP->Q (.bl b) H':=λb e=>e▸k H' sm;refine ite2 (λe=>?_) (λe=>fin _ ?_)
  ·obtain⟨y,c,r,rfl,ey⟩:=UD e;refine⟨_,rfl,y,0,c,rfl,rfl,slen th.strLen,NK ey,_,_,rfl,rfl,fin _ ?_⟩;have e':Z6 12 (codes tGROUP) (codes y)=true:=e;show _=(Z6 12 (codes tGROUP) (codes y)&&decide ((codes y).getD 0 0∈LET));rw[QP,e',Bool.true_and,cLET,ey];rfl
  ·exact(Gd (by simpa using e)).symm
end
end K1
namespace TB
open PySem L2 PySem.Spec PyProof.Rows
def Bad(C:Addr)(p a y:V)(H:Hp)(E:XK):Prop:=∀H' d,H d=none->H' d=some (XD d [("part",p),("at",a),("why",y)])->(∀b,b≠d->H' b=H b)->E (.ref C) (some d) H'
def Jx(C:Addr):Sp:=λvs H Q E=>∃p a y,vs=[p,a,y]/\((y=.non/\Q .non H)\/(y≠.non/\Bad C p a y H E))
section
variable {P:Program}{w:World}{K:PySem.W.Frag}{mg:Str->Option Value}{base:Heap}{C:Addr}
theorem Wx:FnScope ["part","at","why"] ["part","at","why"] (Zg T.f_refuse_row):=⟨rfl,rfl,rfl,by decide +kernel,rfl,by decide +kernel,by decide +kernel⟩
theorem Q2(B:Err P w K mg base "BadTable" ["part","at","why"] C)(D:Df K mg "refuse_row" T.f_refuse_row ["part","at","why"]):CanX P w K mg base 3 "refuse_row" ["part","at","why"] (Jx C):=by
 refine D.canX Wx (λvs H Q E h=>?_) λf cdv A outer s H vs Q E hr h=>?_
 ·obtain⟨p,a,y,rfl,_⟩:=h;rfl
 ·obtain⟨p,a,y,rfl,h⟩:=h;refine⟨_,Zk (ZP (ZC GA (pv 2) ZR (ZD _)) (Zk (JN (E:=E) B Xe rfl hr rfl (Zh (pv 0) (Zh (pv 1) (Zh (pv 2) Zb))))) Zx),?_⟩;refine⟨_,rfl,rfl,_,rfl,?_⟩;rcases h with⟨rfl,h⟩|⟨hn,h⟩
  ·exact iteF h
  ·rw[if_pos (by simp[hn])];exact⟨_,rfl,_,rfl,_,rfl,rfl,h⟩
structure Txt(K:PySem.W.Frag)(mg:Str->Option Value):Prop where
 turns:∃t,mg "MOST_TURNS"=some (.int 50 t)
 room:∃t,mg "MOST_ROOM"=some (.int 1000 t)
 way:∃t,mg "LONGEST_WAY"=some (.int 50 t)
 people:∃t,mg "MOST_PEOPLE"=some (.int 300 t)
 isi:mg "isinstance"=none
 str:mg "str"=none
 tup:mg "tuple"=none
 lst:mg "list"=none
 len:mg "len"=none
noncomputable def Z5(r:V):V:=if(decide (r=.non)||K1.Zt r 0 1000)=true then .non else .str "number"
def NZ:Sp:=λvs H Q _=>∃p n r T,vs=[.ref p]/\H p=some (.tup [n,r])/\Th H r T/\Q (Z5 r) H
theorem Ws:FnScope ["row"] ["row"] (Zg T.f_wrong_place):=⟨rfl,rfl,rfl,by decide +kernel,rfl,by decide +kernel,by decide +kernel⟩
theorem QX(G:Txt K mg)(D:Df K mg "wrong_place" T.f_wrong_place ["row"])(CI:Can P w K mg base 2 "is_within" ["thing","low","high"] K1.X8):Can P w K mg base 3 "wrong_place" ["row"] NZ:=by
 obtain⟨t1,h1⟩:=G.room;refine D.can Ws (λvs H Q E h=>?_) λf cdv A outer s H vs Q E hr h=>?_
 ·obtain⟨p,n,r,T',rfl,_⟩:=h;rfl
 ·obtain⟨p,n,r,T',rfl,hp,th,k⟩:=h;refine⟨_,Zd (ZP (PW.pt (JY (ZC UN (Z2 ZY (pv 0) Zi (λ_ _=>rfl)) ZR (ZD _)) (XW (Z0 (ZS CI hr rfl (Zh (Z2 ZY (pv 0) Zi (λ_ _=>rfl)) (Zh Zi (Zh (ZW (v:=V.int 1000) rfl h1 ⟨t1,rfl⟩) Zb)))))))) (Zk (Zq ZR)) Zx) (Zk (Zq Zn)),?_⟩;refine⟨_,rfl,p,[n,r],1,r,rfl,rfl,SqT.of hp,rfl,rfl,_,rfl,?_⟩;unfold Z5 at k;refine ite2 (λe=>?_) (λe=>?_)
  ·rw[if_pos (by simp[e])]at k;exact iteT k
  ·refine⟨_,rfl,p,[n,r],1,r,rfl,rfl,SqT.of hp,rfl,r,T',0,1000,rfl,th,_,rfl,?_⟩;refine ite2 (λe2=>?_) (λe2=>?_)
   ·rw[if_pos (by simp[e2])]at k;exact k
   ·rw[if_neg (by simpa using⟨by simpa using e,by simpa using e2⟩)]at k;exact k
noncomputable def ZT(x:V)(kvs:List (Key×V)):Bool:=match x with
|.str z=>(valV kvs (.inr z)).isSome
|_=>false
def Ry:Sp:=λvs H Q _=>∃x T d kvs,vs=[x,.ref d]/\Th H x T/\H d=some (.dK kvs)/\Q (.bl (ZT x kvs)) H
theorem K5:FnScope ["thing","names"] ["thing","names"] (Zg T.f_is_known):=⟨rfl,rfl,rfl,by decide +kernel,rfl,by decide +kernel,by decide +kernel⟩
theorem Tz(G:Txt K mg)(D:Df K mg "is_known" T.f_is_known ["thing","names"]):Can P w K mg base 1 "is_known" ["thing","names"] Ry:=by
 refine D.can K5 (λvs H Q E h=>?_) λf cdv A outer s H vs Q E hr h=>?_
 ·obtain⟨x,T',d,kvs,rfl,_⟩:=h;rfl
 ·obtain⟨x,T',d,kvs,rfl,th,hd,k⟩:=h;refine⟨_,Zk (Zq (JE (UL (c:="str") (pv 0) rfl G.isi rfl G.str YV) (Y4 (DM (WU (YO hr) (pv 0) (pv 1)))))),?_⟩;refine⟨_,rfl,_,_,_,_,rfl,th.ty,th.kitS,_,rfl,?_⟩;have fin:∀b,b=ZT x kvs->Q (.bl b) H:=λb e=>e▸k;refine ite2 (λe=>?_) (λe=>fin _ ?_)
  ·obtain⟨z,rfl⟩:∃z,x=.str z:=by cases th<;>first|exact⟨_,rfl⟩|(exact absurd (show false=true from e) Bool.false_ne_true)
   exact⟨_,rfl,_,rfl,d,_,rfl,DGet.k (k:=Sum.inr z) hd,k⟩
  ·cases th<;>first|rfl|(exact absurd rfl e)
end
end TB
namespace L2
open PySem PySem.Spec PyProof.Rows
theorem YL:bootBuiltins "tuple"=some (.type "tuple"):=by decide +kernel
theorem NJ:bootBuiltins "list"=some (.type "list"):=by decide +kernel
theorem Th.kitT{K:PySem.W.Frag}{H:Hp}{v:V}{T:String}(h:Th H v T):PySem.W.kitOne K (.type T) (.type "tuple")=some (decide (T="tuple")):=by cases h<;>(unfold PySem.W.kitOne;first|rfl|decide +kernel|(show _=_;simp;rfl))
end L2
namespace TB
open PySem L2 PySem.Spec PyProof.Rows
noncomputable def ZL(g:Bool)(x:V):Bool:=if g=true then K1.VN x 12 K1.tGROUP else K1.VN x 8 K1.tNAME
noncomputable def begV(g:Bool)(n:Nat)(kvs:List (Key×V))(xs:List V):V:=if xs.length≠n then .str "form" else if ZL g (xs.getD 0 .non)=false then .str "name" else if ZT (xs.getD 0 .non) kvs=true then .str "double" else .non
def Row(H:Hp)(v:V)(r:Option (List V)):Prop:=match r with
|none=>∃T,Th H v T/\T≠"tuple"
|some xs=>∃p,v=.ref p/\H p=some (.tup xs)/\∀x∈xs,∃T,Th H x T
noncomputable def begR(g:Bool)(n:Nat)(kvs:List (Key×V)):Option (List V)->V
|none=>.str "form"
|some xs=>begV g n kvs xs
structure Sizes(K:PySem.W.Frag)(w:World)(mg:Str->Option Value):Prop where
 at_:∃a,mg "ROW_SIZES"=some (.ref a)/\Xg K w a "places" (.int 2)/\Xg K w a "rides" (.int 6)/\Xg K w a "ways" (.int 5)/\Xg K w a "groups" (.int 4)
noncomputable def G9:List (Str×Nat):=[("places",2),("rides",6),("ways",5),("groups",4)]
def Jw:Sp:=λvs H Q _=>∃z n row r d kvs,vs=[.str z,row,.ref d]/\(z,n)∈G9/\Row H row r/\H d=some (.dK kvs)/\∀H',Same H H'->Q (begR (decide (z="groups")) n kvs r) H'
section
variable {P:Program}{w:World}{K:PySem.W.Frag}{mg:Str->Option Value}{base:Heap}{C:Addr}
theorem Wu:FnScope ["part","row","names_ahead","fits"] ["part","row","names_ahead"] (Zg T.f_wrong_beginning):=⟨rfl,rfl,rfl,by decide +kernel,rfl,by decide +kernel,by decide +kernel⟩
theorem Q0(G:Txt K mg)(Z:Sizes K w mg)(D:Df K mg "wrong_beginning" T.f_wrong_beginning ["part","row","names_ahead"])(CN:Can P w K mg base 2 "is_name" ["thing"] (K1.UE 8 K1.tNAME))(CG:Can P w K mg base 2 "is_group_name" ["thing"] (K1.UE 12 K1.tGROUP)):Can P w K mg base 3 "wrong_beginning" ["part","row","names_ahead"] Jw:=by
 obtain⟨aS,hS,k1,k2,k3,k4⟩:=Z.at_;have nd:(["part","row","names_ahead","fits"]:List Str).Nodup:=by decide +kernel
 refine D.can Wu (λvs H Q E h=>?_) λf cdv A outer s H vs Q E hr h=>?_
 ·obtain⟨z,n,row,r,d,kvs,rfl,_⟩:=h;rfl
 ·obtain⟨z,n,row,r,d,kvs,rfl,hz,hrow,hd,k⟩:=h;have hK:Xg K w aS z (.int n):=by simp only[G9,List.mem_cons,Prod.mk.injEq,List.not_mem_nil,or_false]at hz;rcases hz with⟨rfl,rfl⟩|⟨rfl,rfl⟩|⟨rfl,rfl⟩|⟨rfl,rfl⟩<;>assumption
  refine⟨_,Zd (ZP (PW.pt (JY (Ye (Z0 (UL (c:="tuple") (pv 1) rfl G.isi rfl G.tup YL))) (XW (ZC Ma (ZI Jr rfl G.len PySem.boot_len (Zh (pv 1) Zb)) (Gz (ZW (v:=V.ref aS) rfl hS rfl) (pv 0) (λ_ _=>rfl)) (ZD _))))) (Zk (Zq Zn)) Zx) (Zd (Yn (i:=3) nd rfl (Or.inl rfl) (JC (ZC Xl (pv 0) Zn (ZD _)) (ZS CG hr rfl (Zh (Z2 ZY (pv 1) Zi (λ_ _=>rfl)) Zb)) (ZS CN hr rfl (Zh (Z2 ZY (pv 1) Zi (λ_ _=>rfl)) Zb)))) (Zd (ZP (Ye (Z0 (pv 3))) (Zk (Zq Zn)) Zx) (Zd (ZP (DI (WU (YO hr) (Z2 ZY (pv 1) Zi (λ_ _=>rfl)) (pv 2))) (Zk (Zq Zn)) Zx) (Zk (Zq ZR))))),?_⟩;cases r with
 |none=>obtain⟨T',th,hT⟩:=hrow;refine⟨_,rfl,_,_,_,_,rfl,th.ty,th.kitT,_,rfl,?_⟩;rw[decide_eq_false hT];refine iteT ?_;exact k H (Same.refl H)
 |some xs=>
   obtain⟨p,rfl,hp,hx⟩:=hrow;have th:Th H (.ref p) "tuple":=.tup hp;refine⟨_,rfl,_,_,_,_,rfl,th.ty,th.kitT,_,rfl,?_⟩;refine iteF ?_;refine⟨_,rfl,p,xs,rfl,.inr (SqT.of hp),_,rfl,aS,z,.int n,rfl,rfl,hK,rfl,_,rfl,?_⟩;refine ite2 (λe=>?_) (λe=>?_)
   ·have hl:xs.length≠n:=λq=>by rw[q]at e;simp at e
    show Q (.str "form") H;have q:=k H (Same.refl H);simpa[begR,begV,hl]using q
   ·have hl:xs.length=n:=by
     have e':(xs.length:Int)=n:=by simpa using e
     omega
    obtain⟨x,r,rfl⟩:∃x r,xs=x::r:=by
     cases xs with
    |nil=>simp only[G9,List.mem_cons,Prod.mk.injEq,List.not_mem_nil,or_false]at hz;simp at hl;omega
    |cons x r=>exact⟨x,r,rfl⟩
    obtain⟨T',tx⟩:=hx x (by simp);have a0:∀(u:V)(l:List V),atI (u::l) 0=some u:=λu l=>Zr (xs:=u::l) (j:=0) rfl;have fin:∀b H',Same H H'->b=ZL (decide (z="groups")) x->(if(!b)=true then Q (.str "name") H' else if ZT x kvs=true then Q (.str "double") H' else Q .non H'):=by
     rintro b H' sm rfl;have q:=k H' sm;simp only[begR,begV,hl,ne_eq,not_true_eq_false,if_false,List.getD_cons_zero]at q;cases hb:ZL (decide (z="groups")) x with
    |false=>rw[if_pos (by decide)];rw[hb,if_pos rfl]at q;exact q
    |true=>
      rw[if_neg (by decide)];rw[hb,if_neg (by decide)]at q;by_cases hk:ZT x kvs=true
      ·rw[if_pos hk]at q ⊢;exact q
      ·rw[if_neg hk]at q ⊢;exact q
    have isS:∀b,b=ZL (decide (z="groups")) x->b=true->∃y,x=.str y:=by
     rintro _ rfl hb;unfold ZL at hb;cases x with
    |str y=>exact⟨y,rfl⟩
    |_=>split at hb<;>cases hb
    refine⟨_,rfl,rfl,_,rfl,?_⟩;refine ite2 (λe2=>?_) (λe2=>?_)
    ·refine⟨_,rfl,p,x::r,0,x,rfl,rfl,SqT.of hp,a0 x r,x,T',rfl,tx,λH' sm=>?_⟩;have hb:K1.VN x 12 K1.tGROUP=ZL (decide (z="groups")) x:=by
      have e3:z="groups":=by simpa using e2
      simp[ZL,e3]
     have q:=fin _ H' sm hb;refine⟨_,rfl,_,rfl,?_⟩;refine ite2 (λe3=>?_) (λe3=>?_)
     ·rw[if_pos e3]at q;exact q
     ·rw[if_neg e3]at q;obtain⟨y,rfl⟩:=isS _ hb (by simpa using e3);exact⟨_,rfl,p,_::r,0,_,rfl,rfl,SqT.of (sm _ _ hp),a0 _ r,_,rfl,d,_,rfl,DGet.k (k:=Sum.inr y) (sm _ _ hd),_,rfl,q⟩
    ·refine⟨_,rfl,p,x::r,0,x,rfl,rfl,SqT.of hp,a0 x r,x,T',rfl,tx,λH' sm=>?_⟩;have hb:K1.VN x 8 K1.tNAME=ZL (decide (z="groups")) x:=by
      have e3:z≠"groups":=by simpa using e2
      simp[ZL,e3]
     have q:=fin _ H' sm hb;refine⟨_,rfl,_,rfl,?_⟩;refine ite2 (λe3=>?_) (λe3=>?_)
     ·rw[if_pos e3]at q;exact q
     ·rw[if_neg e3]at q;obtain⟨y,rfl⟩:=isS _ hb (by simpa using e3);exact⟨_,rfl,p,_::r,0,_,rfl,rfl,SqT.of (sm _ _ hp),a0 _ r,_,rfl,d,_,rfl,DGet.k (k:=Sum.inr y) (sm _ _ hd),_,rfl,q⟩
end
end TB
namespace L2
open PySem PySem.Spec PyProof.Rows
def DfM(K:PySem.W.Frag)(C:Addr)(m qual:Str)(st:Stmt)(ps:List Str):Prop:=∃f fd,Fun K m qual st f fd/\Meth K C m f/\Binds K fd ps []
def CanM(P:Program)(w:World)(K:PySem.W.Frag)(mg:Str->Option Value)(base:Heap)(CX:CXT)(k:Nat)(C:Addr)(m:Str)(ps:List Str)(sp:Sp):Prop:=∃f fd,FnOk P w K mg base CX k f fd ps sp/\Meth K C m f/\Binds K fd ps []
section
variable {P:Program}{w:World}{K:PySem.W.Frag}{mg:Str->Option Value}{base:Heap}{C:Addr}{m qual:Str}{st:Stmt}{N ps:List Str}{k:Nat}{sp:Sp}
theorem CanM.mono{j:Nat}{CX:CXT}(c:CanM P w K mg base CX j C m ps sp)(h:j<=k):CanM P w K mg base CX k C m ps sp:=by obtain⟨f,fd,F,r⟩:=c;exact⟨f,fd,F.mono h,r⟩
theorem DfM.can(D:DfM K C m qual st ps)(S:FnScope N ps (Zg st))(len:∀vs H Q E,sp vs H Q E->vs.length=ps.length)(hbody:∀(f:Addr)(cdv:Value)(A:Around)(outer:List Env)(s:Shared)(H:Hp)(vs:List V)(Q:VK)(E:XK),Room k (A.deeper (envOfC qual (Zg st) s.heap.objs.size f cdv))->sp vs H Q E ->∃t,PSs (cxOf CX0 P w K mg base N qual (Zg st) f cdv A outer s H E).nox (ZX st) t/\t {nx:=λ_ H'=>Q .non H',rt:=Q} (start N vs) H):CanM P w K mg base CX0 (k+1) C m ps sp:=by obtain⟨f,fd,F,me,b⟩:=D;exact⟨f,fd,F.ok S len (λcdv A outer s H vs Q E hr h=>hbody f cdv A outer s H vs Q E hr h),me,b⟩
theorem DfM.canX(D:DfM K C m qual st ps)(S:FnScope N ps (Zg st))(len:∀vs H Q E,sp vs H Q E->vs.length=ps.length)(hbody:∀(f:Addr)(cdv:Value)(A:Around)(outer:List Env)(s:Shared)(H:Hp)(vs:List V)(Q:VK)(E:XK),Room k (A.deeper (envOfC qual (Zg st) s.heap.objs.size f cdv))->sp vs H Q E ->∃t,PSs (cxOf (CX1 P w) P w K mg base N qual (Zg st) f cdv A outer s H E) (ZX st) t/\t {nx:=λ_ H'=>Q .non H',rt:=Q} (start N vs) H):CanM P w K mg base (CX1 P w) (k+1) C m ps sp:=by obtain⟨f,fd,F,me,b⟩:=D;exact⟨f,fd,F.okX S len (λcdv A outer s H vs Q E hr h=>hbody f cdv A outer s H vs Q E hr h),me,b⟩
end
section
variable {X:Cx}{CX:CXT}{k:Nat}{C:Addr}{ps:List Str}{sp:Sp}{E:XK}{m:Str}{pos apos:Pos}{e o:Expr}{es:List Expr}{ta:TE}{t:TA}
theorem Xh{pl:Sem Bool}(c:CanM X.prog X.w X.K X.mg X.base CX k C m ps sp)(cl:Cls X.K C)(hx:Passes CX X E)(hr:Room k X.A)(he:PE X o ta)(ha:PA X (e::es) t)
  (hst:starEach (e::es) X.env=(false,eval e X.env)::starEach es X.env:=by rfl) (hpl:(backTo pos (starEach es X.env)).any (·.1)=false:=by rfl)
  (ht:eval (.Call (.Attribute o m apos) (e::es) [] pos) X.env=(do
   let ov <-eval o X.env
   standAt apos.atName
   let (f,first) <-holding [ov] (getMethod ov m pl)
   callWith pos f first (backTo pos (starEach (e::es) X.env)) (backToKw pos (keywordEach [] X.env))):=by rfl):
  PE X (.Call (.Attribute o m apos) (e::es) [] pos) (Rj C m sp [] E ta t):=by
 obtain⟨f,fd,F,me,b⟩:=c
 exact Lk he cl me F hr b .nil hx ha hst hpl ht
end
end L2
namespace TB
open PySem L2 PySem.Spec PyProof.Rows
noncomputable def fields:List Str:=["turns","places","room_by_place","rides","ride_by_name","ways","way_by_name","groups","group_by_name"]
structure TCl(K:PySem.W.Frag)(C:Addr):Prop where
 cl:Cls K C
 na:∀f∈fields,Yl K C f
structure Tab(H:Hp)(C t:Addr)(fs:List (Str×V)):Prop where
 at_:∃dx,H t=some (.ins C dx fs)
 only:∀g,g∉fields->fs.lookup g=none
section
variable {P:Program}{w:World}{K:PySem.W.Frag}{mg:Str->Option Value}{base:Heap}{C:Addr}
def Rz(C:Addr)(fld:Str):Sp:=λvs H Q _=>∃t x T fs d kvs,vs=[.ref t,x]/\Tab H C t fs/\fs.lookup fld=some (.ref d)/\H d=some (.dK kvs)/\Th H x T/\Q (.bl (ZT x kvs)) H
theorem EM:FnScope ["self","thing"] ["self","thing"] (Zg T.m_Table_is_place):=⟨rfl,rfl,rfl,by decide +kernel,rfl,by decide +kernel,by decide +kernel⟩
theorem Qd(Z:TCl K C)(D:DfM K C "is_place" "Table.is_place" T.m_Table_is_place ["self","thing"])(CK:Can P w K mg base 1 "is_known" ["thing","names"] Ry):CanM P w K mg base CX0 2 C "is_place" ["self","thing"] (Rz C "room_by_place"):=by
 refine D.can EM (λvs H Q E h=>?_) λf cdv A outer s H vs Q E hr h=>?_
 ·obtain⟨t,x,T',fs,d,kvs,rfl,_⟩:=h;rfl
 ·obtain⟨t,x,T',fs,d,kvs,rfl,⟨⟨dx,ht⟩,_⟩,hl,hd,th,k⟩:=h;refine⟨_,Zk (Zq (ZS CK hr rfl (Zh (pv 1) (Zh (Z8 (pv 0) rfl) Zb)))),?_⟩;exact⟨_,rfl,_,rfl,t,C,dx,fs,_,rfl,ht,Z.cl,Z.na _ (by simp[fields]),hl,x,T',d,kvs,rfl,th,hd,k⟩
noncomputable def Mh(x:V)(kvs:List (Key×V)):Bool:=match x with
|.str z=>decide (valV kvs (.inr z)=some .non)
|_=>false
theorem JQ{x:V}{kvs:List (Key×V)}(h:ZT x kvs=true):∃z v,x=.str z/\valV kvs (.inr z)=some v:=by
 cases x with
|str z=>have h':(valV kvs (.inr z)).isSome=true:=h;exact⟨z,_,rfl,(Option.some_get h').symm⟩
|_=>cases h
theorem QQ{x:V}{kvs:List (Key×V)}(h:ZT x kvs=false):Mh x kvs=false:=by
 cases x with
|str z=>
  have h':(valV kvs (.inr z)).isSome=false:=h;show decide (valV kvs (.inr z)=some .non)=false;cases e:valV kvs (.inr z)with
 |none=>simp
 |some v=>rw[e]at h';cases h'
|_=>rfl
def Pb(C:Addr):Sp:=λvs H Q _=>∃t x T fs d kvs,vs=[.ref t,x]/\Tab H C t fs/\fs.lookup ("room_by_place":Str)=some (.ref d)/\H d=some (.dK kvs)/\Th H x T/\Q (.bl (Mh x kvs)) H
theorem WA:FnScope ["self","thing"] ["self","thing"] (Zg T.m_Table_is_home):=⟨rfl,rfl,rfl,by decide +kernel,rfl,by decide +kernel,by decide +kernel⟩
theorem Q6(Z:TCl K C)(D:DfM K C "is_home" "Table.is_home" T.m_Table_is_home ["self","thing"])(CP:CanM P w K mg base CX0 2 C "is_place" ["self","thing"] (Rz C "room_by_place")):CanM P w K mg base CX0 3 C "is_home" ["self","thing"] (Pb C):=by
 refine D.can WA (λvs H Q E h=>?_) λf cdv A outer s H vs Q E hr h=>?_
 ·obtain⟨t,x,T',fs,d,kvs,rfl,_⟩:=h;rfl
 ·obtain⟨t,x,T',fs,d,kvs,rfl,tb,hl,hd,th,k⟩:=h;obtain⟨dx,ht⟩:=id tb.at_;refine⟨_,Zk (Zq (JE (Xh CP Z.cl VJ hr (pv 0) (Zh (pv 1) Zb)) (Y4 (YY UN (YI (YO hr) (Z8 (pv 0) rfl) (pv 1) (λ_ _=>rfl)) ZR (by with_unfolding_all rfl))))),?_⟩;refine⟨_,rfl,t,dx,fs,rfl,ht,tb.only _ (by decide +kernel),_,rfl,t,x,T',fs,d,kvs,rfl,tb,hl,hd,th,_,rfl,?_⟩;have fin:∀b,b=Mh x kvs->Q (.bl b) H:=λb e=>e▸k;refine ite2 (λe=>?_) (λe=>fin _ ?_)
  ·obtain⟨z,v,rfl,hv⟩:=JQ e;refine⟨_,rfl,t,C,dx,fs,_,rfl,ht,Z.cl,Z.na _ (by simp[fields]),hl,_,rfl,d,v,rfl,(by rw[<-hv];exact DGet.k (k:=Sum.inr z) hd),rfl,fin _ ?_⟩;show decide (v=.non)=decide (valV kvs (.inr z)=some .non);rw[hv];simp
  ·have e':ZT x kvs=false:=by simpa using e
   exact(QQ e').symm
noncomputable def YC(kvs:List (Key×V))(s g:V):V:=if(!ZT s kvs||!ZT g kvs)=true then .str "place" else if Mh s kvs=true then .str "home" else if g=s then .str "alike" else .non
def Qx(C:Addr):Sp:=λvs H Q _=>∃t x y T T' fs d kvs,vs=[.ref t,x,y]/\Tab H C t fs/\fs.lookup ("room_by_place":Str)=some (.ref d)/\H d=some (.dK kvs)/\Th H x T/\Th H y T'/\Q (YC kvs x y) H
theorem DC:FnScope ["table","start","goal"] ["table","start","goal"] (Zg T.f_wrong_ends):=⟨rfl,rfl,rfl,by decide +kernel,rfl,by decide +kernel,by decide +kernel⟩
theorem Ky(Z:TCl K C)(D:Df K mg "wrong_ends" T.f_wrong_ends ["table","start","goal"])(CP:CanM P w K mg base CX0 2 C "is_place" ["self","thing"] (Rz C "room_by_place"))(CH:CanM P w K mg base CX0 3 C "is_home" ["self","thing"] (Pb C)):Can P w K mg base 4 "wrong_ends" ["table","start","goal"] (Qx C):=by
 refine D.can DC (λvs H Q E h=>?_) λf cdv A outer s H vs Q E hr h=>?_
 ·obtain⟨t,x,y,T1,T2,fs,d,kvs,rfl,_⟩:=h;rfl
 ·obtain⟨t,x,y,T1,T2,fs,d,kvs,rfl,tb,hl,hd,tx,ty,k⟩:=h;obtain⟨dx,ht⟩:=id tb.at_;have hr2:Room 2 (A.deeper (envOfC "wrong_ends" (Zg T.f_wrong_ends) s.heap.objs.size f cdv)):=hr.mono (by decide);refine⟨_,Zd (ZP (PW.pt (JY (Ye (Z0 (Xh CP Z.cl VJ hr2 (pv 0) (Zh (pv 1) Zb)))) (XW (Ye (Z0 (Xh CP Z.cl VJ hr2 (pv 0) (Zh (pv 2) Zb))))))) (Zk (Zq Zn)) Zx) (Zd (ZP (Z0 (Xh CH Z.cl VJ hr (pv 0) (Zh (pv 1) Zb))) (Zk (Zq Zn)) Zx) (Zd (ZP (ZC Xl (pv 2) (pv 1) (ZD _)) (Zk (Zq Zn)) Zx) (Zk (Zq ZR)))),?_⟩;unfold YC at k;refine⟨_,rfl,t,dx,fs,rfl,ht,tb.only _ (by decide +kernel),_,rfl,t,x,T1,fs,d,kvs,rfl,tb,hl,hd,tx,_,rfl,?_⟩;refine ite2 (λe=>?_) (λe=>?_)
  ·rw[if_pos (by rw[e];rfl)]at k;exact iteT k
  ·refine⟨_,rfl,t,dx,fs,rfl,ht,tb.only _ (by decide +kernel),_,rfl,t,y,T2,fs,d,kvs,rfl,tb,hl,hd,ty,_,rfl,?_⟩;refine ite2 (λe2=>?_) (λe2=>?_)
   ·rw[if_pos (by rw[e2];simp)]at k;exact k
   ·have kx:ZT x kvs=true:=by simpa using e
    have ky:ZT y kvs=true:=by simpa using e2
    rw[if_neg (by rw[kx,ky];decide)]at k;refine⟨_,rfl,t,dx,fs,rfl,ht,tb.only _ (by decide +kernel),_,rfl,t,x,T1,fs,d,kvs,rfl,tb,hl,hd,tx,_,rfl,?_⟩;refine ite2 (λe3=>?_) (λe3=>?_)
    ·rw[if_pos e3]at k;exact k
    ·rw[if_neg e3]at k;obtain⟨zx,_,rfl,_⟩:=JQ kx;obtain⟨zy,_,rfl,_⟩:=JQ ky;refine⟨_,rfl,_,rfl,rfl,_,rfl,?_⟩;refine ite2 (λe4=>?_) (λe4=>?_)
     ·rw[if_pos (by simpa using e4)]at k;exact k
     ·rw[if_neg (by simpa using e4)]at k;exact k
noncomputable def Gi(kvs:List (Key×V))(n:Int)(s l g a m:V):V:=if YC kvs s g≠.non then YC kvs s g else match l with
 |.int i=>if(!K1.Zt (.int i) 0 (n-1)||!K1.Zt a (i+1) n)=true then .str "turn" else if(!K1.Zt m 0 1000)=true then .str "number" else .non
 |_=>.str "turn"
noncomputable def wayV(kvs:List (Key×V))(s g l m:V):V:=if YC kvs s g≠.non then YC kvs s g else if(!K1.Zt l 1 50||!K1.Zt m 0 1000)=true then .str "number" else .non
theorem at0{α:Type}{xs:List α}(j:Nat){v:α}(h:xs[j]?=some v):atI xs (j:Int)=some v:=Zr h
def Wj(C:Addr):Sp:=λvs H Q _=>∃t p x0 x1 x2 x3 x4 x5 fs d kvs n,vs=[.ref t,.ref p]/\Tab H C t fs/\fs.lookup ("room_by_place":Str)=some (.ref d)/\fs.lookup ("turns":Str)=some (.int n)/\H d=some (.dK kvs) /\H p=some (.tup [x0,x1,x2,x3,x4,x5])/\(∀x∈[x0,x1,x2,x3,x4,x5],∃T,Th H x T)/\Q (Gi kvs n x1 x2 x3 x4 x5) H
theorem DB:FnScope ["table","row","leave","why"] ["table","row"] (Zg T.f_wrong_ride):=⟨rfl,rfl,rfl,by decide +kernel,rfl,by decide +kernel,by decide +kernel⟩
theorem Ku(G:Txt K mg)(Z:TCl K C)(D:Df K mg "wrong_ride" T.f_wrong_ride ["table","row"])(CI:Can P w K mg base 2 "is_within" ["thing","low","high"] K1.X8)(CE:Can P w K mg base 4 "wrong_ends" ["table","start","goal"] (Qx C)):Can P w K mg base 5 "wrong_ride" ["table","row"] (Wj C):=by
 obtain⟨t1,h1⟩:=G.room;have nd:(["table","row","leave","why"]:List Str).Nodup:=by decide +kernel
 refine D.can DB (λvs H Q E h=>?_) λf cdv A outer s H vs Q E hr h=>?_
 ·obtain⟨t,p,x0,x1,x2,x3,x4,x5,fs,d,kvs,n,rfl,_⟩:=h;rfl
 ·obtain⟨t,p,x0,x1,x2,x3,x4,x5,fs,d,kvs,n,rfl,tb,hl,hn,hd,hp,hx,k⟩:=h;obtain⟨dx,ht⟩:=id tb.at_;obtain⟨T1,h01⟩:=hx x1 (by simp);obtain⟨T2,h02⟩:=hx x2 (by simp);obtain⟨T3,h03⟩:=hx x3 (by simp);obtain⟨T4,h04⟩:=hx x4 (by simp);obtain⟨T5,h05⟩:=hx x5 (by simp);have hr2:Room 2 (A.deeper (envOfC "wrong_ride" (Zg T.f_wrong_ride) s.heap.objs.size f cdv)):=hr.mono (by decide);refine⟨_,Zd (Yn (i:=2) nd rfl (Or.inl rfl) (Z2 ZY (pv 1) Zi (λ_ _=>rfl))) (Zd (Yn (i:=3) nd rfl (Or.inl rfl) (ZS CE hr rfl (Zh (pv 0) (Zh (Z2 ZY (pv 1) Zi (λ_ _=>rfl)) (Zh (Z2 ZY (pv 1) Zi (λ_ _=>rfl)) Zb))))) (Zd (ZP (ZC GA (pv 3) ZR (ZD _)) (Zk (Zq (pv 3))) Zx) (Zd (ZP (PW.pt (JY (Ye (Z0 (ZS CI hr2 rfl (Zh (pv 2) (Zh Zi (Zh (Zv Ny (Z8 (pv 0) rfl) Zi) Zb)))))) (XW (Ye (Z0 (ZS CI hr2 rfl (Zh (Z2 ZY (pv 1) Zi (λ_ _=>rfl)) (Zh (Zv Yp (pv 2) Zi) (Zh (Z8 (pv 0) rfl) Zb))))))))) (Zk (Zq Zn)) Zx) (Zd (ZP (Ye (Z0 (ZS CI hr2 rfl (Zh (Z2 ZY (pv 1) Zi (λ_ _=>rfl)) (Zh Zi (Zh (ZW (v:=V.int 1000) rfl h1 ⟨t1,rfl⟩) Zb)))))) (Zk (Zq Zn)) Zx) (Zk (Zq ZR)))))),?_⟩;refine⟨_,rfl,p,_,2,x2,rfl,rfl,SqT.of hp,at0 2 rfl,?_⟩;refine⟨_,rfl,_,rfl,p,_,1,x1,rfl,rfl,SqT.of hp,at0 1 rfl,_,rfl,p,_,3,x3,rfl,rfl,SqT.of hp,at0 3 rfl,t,x1,x3,T1,T3,fs,d,kvs,rfl,tb,hl,hd,h01,h03,?_⟩;unfold Gi at k;refine⟨_,rfl,rfl,_,rfl,?_⟩;refine ite2 (λe=>?_) (λe=>?_)
  ·have e':YC kvs x1 x3≠.non:=by simpa using e
   rw[if_pos e']at k;exact⟨_,rfl,k⟩
  ·have e':¬YC kvs x1 x3≠.non:=by simpa using e
   rw[if_neg e']at k;refine⟨_,rfl,_,rfl,t,C,dx,fs,_,rfl,ht,Z.cl,Z.na _ (by simp[fields]),hn,_,_,rfl,rfl,x2,T2,0,n-1,rfl,h02,_,rfl,?_⟩;refine ite2 (λe2=>?_) (λe2=>?_)
   ·have q:Q (.str "turn") H:=by
     cases x2 with
    |int i=>
      have k':Q (if(!K1.Zt (.int i) 0 (n-1)||!K1.Zt x4 (i+1) n)=true then V.str "turn" else if(!K1.Zt x5 0 1000)=true then .str "number" else .non) H:=k
      rw[if_pos (by rw[e2];rfl)]at k';exact k'
    |_=>exact k
    exact iteT q
   ·obtain⟨i,rfl⟩:∃i,x2=.int i:=by
     cases x2 with
    |int i=>exact⟨i,rfl⟩
    |_=>exact absurd rfl e2
    have k':Q (if(!K1.Zt (.int i) 0 (n-1)||!K1.Zt x4 (i+1) n)=true then V.str "turn" else if(!K1.Zt x5 0 1000)=true then .str "number" else .non) H:=k
    have w1:K1.Zt (.int i) 0 (n-1)=true:=by simpa using e2
    rw[w1]at k';refine⟨_,rfl,p,_,4,x4,rfl,rfl,SqT.of hp,at0 4 rfl,_,rfl,_,_,rfl,rfl,_,rfl,t,C,dx,fs,_,rfl,ht,Z.cl,Z.na _ (by simp[fields]),hn,x4,T4,i+1,n,rfl,h04,_,rfl,?_⟩;refine ite2 (λe3=>?_) (λe3=>?_)
    ·rw[if_pos (by rw[e3];rfl)]at k';exact k'
    ·have w2:K1.Zt x4 (i+1) n=true:=by simpa using e3
     rw[w2,if_neg (by decide)]at k';refine⟨_,rfl,p,_,5,x5,rfl,rfl,SqT.of hp,at0 5 rfl,x5,T5,0,1000,rfl,h05,_,rfl,?_⟩;refine ite2 (λe4=>?_) (λe4=>?_)
     ·rw[if_pos e4]at k';exact k'
     ·rw[if_neg e4]at k';exact k'
noncomputable def YJ(kvs:List (Key×V))(n pa:Int)(p t m:V):V:=if(!ZT p kvs)=true then .str "place" else if(!K1.Zt t 0 n)=true then .str "turn" else match m with
 |.int i=>if(!K1.Zt (.int i) 0 300)=true then .str "number" else if pa+i>300 then .str "people" else .non
 |_=>.str "number"
def LX(C:Addr):Sp:=λvs H Q _=>∃t p x0 x1 x2 x3 x4 fs d kvs,vs=[.ref t,.ref p]/\Tab H C t fs/\fs.lookup ("room_by_place":Str)=some (.ref d)/\H d=some (.dK kvs) /\H p=some (.tup [x0,x1,x2,x3,x4])/\(∀x∈[x0,x1,x2,x3,x4],∃T,Th H x T)/\Q (wayV kvs x1 x2 x3 x4) H
theorem EL:FnScope ["table","row","why"] ["table","row"] (Zg T.f_wrong_way):=⟨rfl,rfl,rfl,by decide +kernel,rfl,by decide +kernel,by decide +kernel⟩
theorem LH(G:Txt K mg)(Z:TCl K C)(D:Df K mg "wrong_way" T.f_wrong_way ["table","row"])(CI:Can P w K mg base 2 "is_within" ["thing","low","high"] K1.X8)(CE:Can P w K mg base 4 "wrong_ends" ["table","start","goal"] (Qx C)):Can P w K mg base 5 "wrong_way" ["table","row"] (LX C):=by
 obtain⟨t1,h1⟩:=G.room;obtain⟨t2,h2⟩:=G.way;have nd:(["table","row","why"]:List Str).Nodup:=by decide +kernel
 refine D.can EL (λvs H Q E h=>?_) λf cdv A outer s H vs Q E hr h=>?_
 ·obtain⟨t,p,x0,x1,x2,x3,x4,fs,d,kvs,rfl,_⟩:=h;rfl
 ·obtain⟨t,p,x0,x1,x2,x3,x4,fs,d,kvs,rfl,tb,hl,hd,hp,hx,k⟩:=h;obtain⟨dx,ht⟩:=id tb.at_;obtain⟨T1,h01⟩:=hx x1 (by simp);obtain⟨T2,h02⟩:=hx x2 (by simp);obtain⟨T3,h03⟩:=hx x3 (by simp);obtain⟨T4,h04⟩:=hx x4 (by simp);have hr2:Room 2 (A.deeper (envOfC "wrong_way" (Zg T.f_wrong_way) s.heap.objs.size f cdv)):=hr.mono (by decide);refine⟨_,Zd (Yn (i:=2) nd rfl (Or.inl rfl) (ZS CE hr rfl (Zh (pv 0) (Zh (Z2 ZY (pv 1) Zi (λ_ _=>rfl)) (Zh (Z2 ZY (pv 1) Zi (λ_ _=>rfl)) Zb))))) (Zd (ZP (ZC GA (pv 2) ZR (ZD _)) (Zk (Zq (pv 2))) Zx) (Zd (ZP (PW.pt (JY (Ye (Z0 (ZS CI hr2 rfl (Zh (Z2 ZY (pv 1) Zi (λ_ _=>rfl)) (Zh Zi (Zh (ZW (v:=V.int 50) rfl h2 ⟨t2,rfl⟩) Zb)))))) (XW (Ye (Z0 (ZS CI hr2 rfl (Zh (Z2 ZY (pv 1) Zi (λ_ _=>rfl)) (Zh Zi (Zh (ZW (v:=V.int 1000) rfl h1 ⟨t1,rfl⟩) Zb))))))))) (Zk (Zq Zn)) Zx) (Zk (Zq ZR)))),?_⟩;refine⟨_,rfl,_,rfl,p,_,1,x1,rfl,rfl,SqT.of hp,at0 1 rfl,_,rfl,p,_,2,x2,rfl,rfl,SqT.of hp,at0 2 rfl,t,x1,x2,T1,T2,fs,d,kvs,rfl,tb,hl,hd,h01,h02,?_⟩;unfold wayV at k;refine⟨_,rfl,rfl,_,rfl,?_⟩;refine ite2 (λe=>?_) (λe=>?_)
  ·have e':YC kvs x1 x2≠.non:=by simpa using e
   rw[if_pos e']at k;exact⟨_,rfl,k⟩
  ·have e':¬YC kvs x1 x2≠.non:=by simpa using e
   rw[if_neg e']at k;refine⟨_,rfl,p,_,3,x3,rfl,rfl,SqT.of hp,at0 3 rfl,x3,T3,1,50,rfl,h03,_,rfl,?_⟩;refine ite2 (λe2=>?_) (λe2=>?_)
   ·rw[if_pos (by rw[e2];rfl)]at k;exact iteT k
   ·have w1:K1.Zt x3 1 50=true:=by simpa using e2
    rw[w1]at k;refine⟨_,rfl,p,_,4,x4,rfl,rfl,SqT.of hp,at0 4 rfl,x4,T4,0,1000,rfl,h04,_,rfl,?_⟩;refine ite2 (λe3=>?_) (λe3=>?_)
    ·rw[if_pos (by rw[e3];rfl)]at k;exact k
    ·have w2:K1.Zt x4 0 1000=true:=by simpa using e3
     rw[w2,if_neg (by decide)]at k;exact k
def RA(C:Addr):Sp:=λvs H Q _=>∃t p x0 x1 x2 x3 fs d kvs n pa,vs=[.ref t,.ref p,.int pa]/\Tab H C t fs/\fs.lookup ("room_by_place":Str)=some (.ref d)/\fs.lookup ("turns":Str)=some (.int n)/\H d=some (.dK kvs) /\H p=some (.tup [x0,x1,x2,x3])/\(∀x∈[x0,x1,x2,x3],∃T,Th H x T)/\Q (YJ kvs n pa x1 x2 x3) H
theorem K6:FnScope ["table","row","people_ahead"] ["table","row","people_ahead"] (Zg T.f_wrong_group):=⟨rfl,rfl,rfl,by decide +kernel,rfl,by decide +kernel,by decide +kernel⟩
theorem QZ(G:Txt K mg)(Z:TCl K C)(D:Df K mg "wrong_group" T.f_wrong_group ["table","row","people_ahead"])(CI:Can P w K mg base 2 "is_within" ["thing","low","high"] K1.X8)(CP:CanM P w K mg base CX0 2 C "is_place" ["self","thing"] (Rz C "room_by_place")):Can P w K mg base 3 "wrong_group" ["table","row","people_ahead"] (RA C):=by
 obtain⟨t1,h1⟩:=G.people;refine D.can K6 (λvs H Q E h=>?_) λf cdv A outer s H vs Q E hr h=>?_
 ·obtain⟨t,p,x0,x1,x2,x3,fs,d,kvs,n,pa,rfl,_⟩:=h;rfl
 ·obtain⟨t,p,x0,x1,x2,x3,fs,d,kvs,n,pa,rfl,tb,hl,hn,hd,hp,hx,k⟩:=h;obtain⟨dx,ht⟩:=id tb.at_;obtain⟨T1,h01⟩:=hx x1 (by simp);obtain⟨T2,h02⟩:=hx x2 (by simp);obtain⟨T3,h03⟩:=hx x3 (by simp);refine⟨_,Zd (ZP (Ye (Z0 (Xh CP Z.cl VJ hr (pv 0) (Zh (Z2 ZY (pv 1) Zi (λ_ _=>rfl)) Zb)))) (Zk (Zq Zn)) Zx) (Zd (ZP (Ye (Z0 (ZS CI hr rfl (Zh (Z2 ZY (pv 1) Zi (λ_ _=>rfl)) (Zh Zi (Zh (Z8 (pv 0) rfl) Zb)))))) (Zk (Zq Zn)) Zx) (Zd (ZP (Ye (Z0 (ZS CI hr rfl (Zh (Z2 ZY (pv 1) Zi (λ_ _=>rfl)) (Zh Zi (Zh (ZW (v:=V.int 300) rfl h1 ⟨t1,rfl⟩) Zb)))))) (Zk (Zq Zn)) Zx) (Zd (ZP (ZC RK (Zv Yp (pv 2) (Z2 ZY (pv 1) Zi (λ_ _=>rfl))) (ZW (v:=V.int 300) rfl h1 ⟨t1,rfl⟩) (ZD _)) (Zk (Zq Zn)) Zx) (Zk (Zq ZR))))),?_⟩;unfold YJ at k;refine⟨_,rfl,t,dx,fs,rfl,ht,tb.only _ (by decide +kernel),_,rfl,p,_,1,x1,rfl,rfl,SqT.of hp,at0 1 rfl,t,x1,T1,fs,d,kvs,rfl,tb,hl,hd,h01,_,rfl,?_⟩;refine ite2 (λe=>?_) (λe=>?_)
  ·rw[if_pos e]at k;exact k
  rw[if_neg e]at k;refine⟨_,rfl,p,_,2,x2,rfl,rfl,SqT.of hp,at0 2 rfl,_,rfl,t,C,dx,fs,_,rfl,ht,Z.cl,Z.na _ (by simp[fields]),hn,x2,T2,0,n,rfl,h02,_,rfl,?_⟩;refine ite2 (λe2=>?_) (λe2=>?_)
  ·rw[if_pos e2]at k;exact k
  rw[if_neg e2]at k;refine⟨_,rfl,p,_,3,x3,rfl,rfl,SqT.of hp,at0 3 rfl,x3,T3,0,300,rfl,h03,_,rfl,?_⟩;refine ite2 (λe3=>?_) (λe3=>?_)
  ·cases x3 with
  |int i=>have k':Q (if(!K1.Zt (.int i) 0 300)=true then V.str "number" else if pa+i>300 then .str "people" else .non) H:=k;rw[if_pos e3]at k';exact k'
  |_=>exact k
  ·obtain⟨i,rfl⟩:∃i,x3=.int i:=by
    cases x3 with
   |int i=>exact⟨i,rfl⟩
   |_=>exact absurd rfl e3
   have k':Q (if(!K1.Zt (.int i) 0 300)=true then V.str "number" else if pa+i>300 then .str "people" else .non) H:=k;rw[if_neg e3]at k';refine⟨_,rfl,_,rfl,p,_,3,_,rfl,rfl,SqT.of hp,at0 3 rfl,_,_,rfl,rfl,_,_,rfl,rfl,_,rfl,?_⟩;refine ite2 (λe4=>?_) (λe4=>?_)
   ·rw[if_pos (by simpa using e4)]at k';exact k'
   ·rw[if_neg (by simpa using e4)]at k';exact k'
end
end TB
namespace L2
open PySem PySem.Spec PyProof.Rows
theorem sameNew{l:Addr}{H H1:Hp}{o:HO}(x:Same H H1)(hl:H1 l=none):Same H (upd H1 l o):=λc u h=>by rw[Ze (Zf (x c u h) hl)];exact x c u h
theorem nl{c:Addr}{H:Hp}{o:HO}{G:Hp->Prop}(h:H c=none)(k:∀H',Same H H'->H' c=some o->G H'):G (upd H c o):=k _ (sameNew (λ_ _ e=>e) h) Zc
theorem nl2{c:Addr}{H:Hp}{o:HO}{R:Type}{q:R}{G:Hp->R->Prop}(h:H c=none)(k:∀H',Same H H'->H' c=some o->G H' q):G (upd H c o) q:=nl (G:=λH=>G H q) h k
theorem Rh:∀{cs:List String}{us:List Value},Vals (cs.map V.ty) us->us=cs.map Value.type
|[],_,h=>by cases h;rfl
|c::cs,_,h=>by
  cases h with
 |cons r t=>have e:=Rh t;cases(show _=Value.type c from r);rw[e];rfl
section
variable {X:Cx}
theorem TH:YM X (.builtin "isinstance") (λxs H Q=>∃(x:V)(p:Addr)(cs:List String)(T:String)(b:Bool),xs=[x,.ref p]/\Th H x T/\H p=some (.tup (cs.map V.ty))/\PySem.W.kitAny X.K (.type T) (cs.map Value.type)=some b/\Q (.bl b) H):=by
 intro pins s σ H xs us Q I r h;obtain⟨x,p,cs,T,b,rfl,th,hp,e,q⟩:=h;obtain⟨u,w',rfl,ru,rw'⟩:=vals2 r;cases(show w'=Value.ref p from rw');obtain⟨_,its,rv,⟨oc,od,odt,osl⟩,h1,hc,n,hdt⟩:=(show ZJ X.prog X.w H s.heap p (.tup (cs.map V.ty))from I.hok p _ hp);have ei:=Rh rv;subst ei;obtain rfl:oc=.type "tuple":=hc;obtain rfl:odt=.seq (cs.map Value.type).toArray n:=hdt;have fin:∀tk,EP X pins σ Q (.bool b) {s with toks:=tk}:=λtk=>⟨.bl b,H,I.tok tk,rfl,q⟩;cases th with
|non=>cases(show u=Value.none from ru);exact PySem.W.kia_tup PySem.W.kitx_none I.kIn True.intro h1 e (λz=>nomatch z) fin
|bl y=>cases(show u=Value.bool y from ru);exact PySem.W.kia_tup PySem.W.kitx_bool I.kIn True.intro h1 e (λz=>nomatch z) fin
|int i=>obtain⟨t,z⟩:=(show ∃t,u=Value.int i t from ru);cases z;exact PySem.W.kia_tup PySem.W.kitx_int I.kIn True.intro h1 e (λz=>nomatch z) fin
|str y _=>obtain⟨t,z⟩:=(show ∃t,u=Value.str y t from ru);cases z;exact PySem.W.kia_tup PySem.W.kitx_str I.kIn True.intro h1 e (λz=>nomatch z) fin
|@lst a xs ea=>cases(show u=Value.ref a from ru);obtain⟨_,_,n',_,h2⟩:=(show ZJ X.prog X.w H s.heap a (.lst xs)from I.hok a _ ea);exact PySem.W.kia_tup PySem.W.kitx_list I.kIn ⟨_,h2,rfl⟩ h1 e (λz=>nomatch z) fin
|@tup a xs ea=>cases(show u=Value.ref a from ru);obtain⟨_,_,_,o,h2,h3,_⟩:=(show ZJ X.prog X.w H s.heap a (.tup xs)from I.hok a _ ea);exact PySem.W.kia_tup PySem.W.kitx_tuple I.kIn ⟨o,h2,h3⟩ h1 e (λz=>nomatch z) fin
|@dK a kvs ea=>cases(show u=Value.ref a from ru);obtain⟨_,_,vs,_,o,es,ep,h2,h3,_⟩:=(show ZJ X.prog X.w H s.heap a (.dK kvs)from I.hok a _ ea);exact PySem.W.kia_tup PySem.W.kitx_dict I.kIn ⟨o,h2,h3.1⟩ h1 e (λz=>nomatch z) fin
end
theorem Th.kitLT{K:PySem.W.Frag}{H:Hp}{v:V}{T:String}(h:Th H v T):PySem.W.kitAny K (.type T) (["list","tuple"].map Value.type)=some (decide (T="list"\/T="tuple")):=by cases h<;>(first|kernel_rfl|(unfold PySem.W.kitAny;rfl))
end L2
namespace TB
open PySem L2 PySem.Spec PyProof.Rows
structure Mosts(K:PySem.W.Frag)(w:World)(mg:Str->Option Value):Prop where
 at_:∃a,mg "MOST_ROWS"=some (.ref a)/\Xg K w a "places" (.int 14)/\Xg K w a "rides" (.int 80)/\Xg K w a "ways" (.int 40)/\Xg K w a "groups" (.int 300)
noncomputable def Gj:List (Str×Nat):=[("places",14),("rides",80),("ways",40),("groups",300)]
def Part(H:Hp)(v:V)(r:Option (List V)):Prop:=match r with
|none=>∃T,Th H v T/\T≠"list"/\T≠"tuple"
|some xs=>∃p,v=.ref p/\(H p=some (.lst xs)\/H p=some (.tup xs))
def Qw(C:Addr):Sp:=λvs H Q E=>∃z n v r,vs=[.str z,v]/\(z,n)∈Gj/\Part H v r/\match r with
|none=>∀H1,Same H H1->Bad C (.str z) .non (.str "form") H1 E
|some xs=>if xs.length>n then ∀H1,Same H H1->Bad C (.str z) (.int n) (.str "many") H1 E else ∀H1 l,Same H H1->H1 l=some (.tup xs)->Q (.ref l) H1
section
variable {P:Program}{w:World}{K:PySem.W.Frag}{mg:Str->Option Value}{base:Heap}{C:Addr}
theorem DA:FnScope ["part","rows"] ["part","rows"] (Zg T.f_rows_of):=⟨rfl,rfl,rfl,by decide +kernel,rfl,by decide +kernel,by decide +kernel⟩
theorem Kt(G:Txt K mg)(M:Mosts K w mg)(B:Err P w K mg base "BadTable" ["part","at","why"] C)(D:Df K mg "rows_of" T.f_rows_of ["part","rows"]):CanX P w K mg base 3 "rows_of" ["part","rows"] (Qw C):=by
 obtain⟨aM,hM,k1,k2,k3,k4⟩:=M.at_;refine D.canX DA (λvs H Q E h=>?_) λf cdv A outer s H vs Q E hr h=>?_
 ·obtain⟨z,n,v,r,rfl,_⟩:=h;rfl
 ·obtain⟨z,n,v,r,rfl,hz,hp,h⟩:=h;have hK:Xg K w aM z (.int n):=by simp only[Gj,List.mem_cons,Prod.mk.injEq,List.not_mem_nil,or_false]at hz;rcases hz with⟨rfl,rfl⟩|⟨rfl,rfl⟩|⟨rfl,rfl⟩|⟨rfl,rfl⟩<;>assumption
  refine⟨_,Zd (ZP (Ye (Z0 (ZI TH rfl G.isi PyProof.Rows.boot_isinstance (Zh (pv 1) (Zh (Ys (Zh (Nx (v:=V.ty "list") rfl G.lst NJ rfl) (Zh (Nx (v:=V.ty "tuple") rfl G.tup YL rfl) Zb))) Zb))))) (Zk (JN (E:=E) B Xe rfl hr rfl (Zh (pv 0) (Zh ZR (Zh Zn Zb))))) Zx) (Zd (ZP (ZC RK (ZI Jr rfl G.len PySem.boot_len (Zh (pv 1) Zb)) (Gz (ZW (v:=V.ref aM) rfl hM rfl) (pv 0) (λ_ _=>rfl)) (ZD _)) (Zk (JN (E:=E) B Xe rfl hr rfl (Zh (pv 0) (Zh (Gz (ZW (v:=V.ref aM) rfl hM rfl) (pv 0) (λ_ _=>rfl)) (Zh Zn Zb))))) Zx) (Zk (Zq (ZE Yk rfl G.tup YL (Zh (pv 1) Zb))))),?_⟩;cases r with
 |none=>obtain⟨T',th,n1,n2⟩:=hp;refine⟨_,rfl,by show 2<=sizeLine;decide,λl hl=>?_⟩;have sm:Same H (upd H l (.tup [V.ty "list",V.ty "tuple"])):=sameNew (Same.refl H) hl;refine⟨v,l,["list","tuple"],T',_,rfl,th.same sm,Zc ..,(th.same sm).kitLT,_,rfl,?_⟩;rw[decide_eq_false (by simp[n1,n2])];refine iteT ?_;exact⟨_,rfl,rfl,h _ sm⟩
 |some xs=>
   obtain⟨p,rfl,hp⟩:=hp;obtain⟨T',th,hT⟩:∃T',Th H (.ref p) T'/\(T'="list"\/T'="tuple"):=by
    rcases hp with hp|hp
    ·exact⟨_,.lst hp,.inl rfl⟩
    ·exact⟨_,.tup hp,.inr rfl⟩
   refine⟨_,rfl,by show 2<=sizeLine;decide,λl hl=>?_⟩;have sm:Same H (upd H l (.tup [V.ty "list",V.ty "tuple"])):=sameNew (Same.refl H) hl;refine⟨.ref p,l,["list","tuple"],T',_,rfl,th.same sm,Zc ..,(th.same sm).kitLT,_,rfl,?_⟩;rw[decide_eq_true hT];refine iteF ?_;generalize upd H l (.tup [V.ty "list",V.ty "tuple"])=H1 at sm ⊢;have hs:SqL K H1 p xs\/SqT K H1 p xs:=by
    rcases hp with hp|hp
    ·exact .inl (SqL.of (sm _ _ hp))
    ·exact .inr (SqT.of (sm _ _ hp))
   refine⟨_,rfl,p,xs,rfl,hs,_,rfl,aM,z,.int n,rfl,rfl,hK,_,_,rfl,rfl,_,rfl,?_⟩;dsimp only at h;refine ite2 (λe=>?_) (λe=>?_)
   ·have e':xs.length>n:=by simpa using e
    rw[if_pos e']at h;exact⟨_,rfl,_,rfl,aM,z,.int n,rfl,rfl,hK,rfl,h _ sm⟩
   ·have e':¬xs.length>n:=by simpa using e
    rw[if_neg e']at h;refine⟨_,rfl,p,xs,rfl,?_⟩;rcases hp with hp|hp
    ·exact .inl ⟨SqL.of (sm _ _ hp),λl2 hl2=>h _ l2 (sameNew sm hl2) (Zc ..)⟩
    ·exact .inr ⟨SqT.of (sm _ _ hp),h _ p sm (sm _ _ hp)⟩
end
end TB
namespace L2
open PySem PySem.Spec PyProof.Rows
open AutoSeq1 (wpAny_loadPart')
section
variable {prog:Program}{w:World}{A:Around}{E:Value->Shared->Prop}{s:Shared}
theorem Lp{it t:Addr}{i:Nat}{items:Array Value}{x:Value}{Q:Value->Shared->Prop}(hit:s.heap.IsTupleIter it t i)(ht:s.heap.IsTuple t items)(hx:items[i]?=some x)(hQ:∀h',h'.IsTupleIter it t (i+1)->Heap.SameBut it s.heap h'->Q x {s with heap:=h'}):wpAny (model prog w) A (Builtin.SmallTypes.nextOf (.ref it)) Q E s:=by obtain⟨o,ho,hc,hd⟩:=id hit;obtain⟨ol,hol,_,nl,hdl⟩:=id ht;unfold Builtin.SmallTypes.nextOf;refine wpAny_bind (wpAny_callSpecial?_slot (name:=Str.ofString "__next__") hit.typeIs F.slot_tuple_iterator_next (wpAny_call_entry F.slot_tuple_iterator_next hit.typeIs F.entry_tuple_iterator_next ?_ (F.args_tuple_iterator_next_1 _)));show wpAny (model prog w) _ (field (.ref it) 0 >>= _) _ _ s;refine wpAny_bind (wpAny_field (x:=.ref t) ho hd rfl ?_);show wpAny (model prog w) _ (if(Value.ref t==Value.none)=true then _ else _) _ _ s;rw[if_neg (by exact Bool.false_ne_true)];show wpAny (model prog w) _ (field (.ref it) 1 >>= _) _ _ s;refine wpAny_bind (wpAny_field (x:=.int i 0) ho hd rfl ?_);show wpAny (model prog w) _ (seqItems? (.ref t) >>= _) _ _ s;refine wpAny_bind (wpAny_seqItems hol hdl ?_);simp only[hx,Int.toNat_natCast];refine wpAny_bind (wpAny_setField ho hd (by simp) (wpAny_pure ⟨x,rfl,wpAny_pure (hQ _ ⟨_,Heap.get?_update_self _ ho (Obj.isFreed_of_fields (Obj.data_mapFields hd _)),(Obj.cls_mapFields ..).trans hc,by rw[Obj.data_mapFields hd];simp[rawInt]⟩ (Heap.SameBut.update ..))⟩))
theorem WY{it t:Addr}{i:Nat}{items:Array Value}{Q:Value->Shared->Prop}(hh:A.handled=none)(hit:s.heap.IsTupleIter it t i)(ht:s.heap.IsTuple t items)(hx:items[i]?=none)(hE:∀h' e,Heap.ExtBut it s.heap h'->(∃o,h'.get? e=some o/\o.cls=.type "StopIteration")->E (.ref e) {s with heap:=h'}):wpAny (model prog w) A (Builtin.SmallTypes.nextOf (.ref it)) Q E s:=by
 obtain⟨o,ho,hc,hd⟩:=id hit;obtain⟨ol,hol,_,nl,hdl⟩:=id ht;unfold Builtin.SmallTypes.nextOf;refine wpAny_bind (wpAny_callSpecial?_slot (name:=Str.ofString "__next__") hit.typeIs F.slot_tuple_iterator_next (wpAny_call_entry F.slot_tuple_iterator_next hit.typeIs F.entry_tuple_iterator_next ?_ (F.args_tuple_iterator_next_1 _)));show wpAny (model prog w) _ (field (.ref it) 0 >>= _) _ _ s;refine wpAny_bind (wpAny_field (x:=.ref t) ho hd rfl ?_);show wpAny (model prog w) _ (if(Value.ref t==Value.none)=true then _ else _) _ _ s;rw[if_neg (by exact Bool.false_ne_true)];show wpAny (model prog w) _ (field (.ref it) 1 >>= _) _ _ s;refine wpAny_bind (wpAny_field (x:=.int i 0) ho hd rfl ?_);show wpAny (model prog w) _ (seqItems? (.ref t) >>= _) _ _ s;refine wpAny_bind (wpAny_seqItems hol hdl ?_);simp only[hx,Int.toNat_natCast];refine wpAny_bind (wpAny_rule (wpAny_bind (wpAny_setField ho hd (by simp) ?_)));show wpAny (model prog w) _ (newExc (.type "StopIteration") [] >>= _) _ _ _;refine wpAny_bind ?_;simp only[newTuple,newExc];refine wpAny_bind (wpAny_newObj_type (wpAny_bind (m:=firstArgMember _ _) (wpAny_of_eq (a:=Value.none) (by first|rfl|(simp only[firstArgMember];rfl)) (wpAny_newObj_type ?_ (by size_fits)))) (by size_fits))
 simp only[raiseNew];refine wpAny_bind (wpAny_handled ?_);first|rw[show A.in1.handled=none from hh]|rw[hh]
 refine wpAny_bind (wpAny_pure (wpAny_throw ?_));exact hE _ _ (((Heap.SameBut.update ..).extBut.push _).push _) ⟨_,Heap.get?_push_size _ rfl,rfl⟩
end
theorem JV{prog:Program}{w:World}{A:Around}(hh:A.handled=none)(it t:Addr)(hne:t≠it)(items:Array Value):
  Draws prog w A it [it,t] items.size (λi v=>items[i]?=some v) (λi h=>h.IsTupleIter it t i/\h.IsTuple t items) where
 live:=λ_ _ st=>by obtain⟨⟨o,ho,_⟩,_⟩:=st;exact⟨o,ho⟩
 frame:=λ_ _ _ st hk=>by
  obtain⟨⟨o,ho,r⟩,⟨o2,ho2,r2⟩⟩:=st
  exact⟨⟨o,hk it (by simp) o ho,r⟩,⟨o2,hk t (by simp) o2 ho2,r2⟩⟩
 item:=λi s Q E hi st hQ=>Lp st.1 st.2 (x:=items[i]) (by simp[hi]) λh' hit' hs'=>hQ _ h' s.toks (by simp[hi]) ⟨hit',st.2.extBut hs'.extBut hne⟩ hs'
 done:=λs Q E st hE=>WY hh st.1 st.2 (by simp) hE
theorem SV(l:Addr)(items:Array Value)(n:Nat)(dct:Option Addr)(sl:Array (Option Value)):Meets (Builtin.«enumerate.__new__» ⟨[.type "enumerate",.ref l],[]⟩) (λ_ R s=>s.heap.get? l=some {cls:=.type "tuple",dict:=dct,data:=.seq items n,slots:=sl} /\R (.ok (.ret (.ref (s.heap.push {cls:=.type "tuple_iterator",data:=.fields #[.ref l,.int 0 0]}).objs.size))) {s with heap:=(s.heap.push {cls:=.type "tuple_iterator",data:=.fields #[.ref l,.int 0 0]}).push {cls:=.type "enumerate",data:=.fields #[.none,.bool false,.ref s.heap.objs.size,rawInt 0,.none,.none]}}):=.of_wp λprog w A R s h=>by
  obtain⟨hp,g,d,tk,os⟩:=s;obtain⟨hl,h⟩:=h;have hsub:=sub_enumerate;have hT:Heap.IsTuple (Shared.heap ⟨hp,g,d,tk,os⟩) l items:=⟨_,hl,rfl,n,rfl⟩;wp_walk using wpAny_loadPart' hl;refine wpAny_stack_any λst=>wpAny_pure ?_;split
  ·rename_i c _ _ _ _ _;cases(c==Value.type "enumerate")<;>(wp_walk using wpAny_loadPart' hl,wpAny_pyIter_tuple hT;exact⟨_,rfl,h⟩)
  ·wp_walk using wpAny_loadPart' hl,wpAny_pyIter_tuple hT;exact⟨_,rfl,h⟩
theorem Q8{prog:Program}{w:World}{A:Around}{E:Value->Shared->Prop}{s:Shared}{l:Addr}{items:Array Value}{Q:Value->Shared->Prop}(hL:s.heap.IsTuple l items)(h:∀h',IsEnum h' (s.heap.objs.size+1) s.heap.objs.size 0 .none->h'.IsTupleIter s.heap.objs.size l 0->(∀b o,s.heap.get? b=some o->h'.get? b=some o)->Q (.ref (s.heap.objs.size+1)) {s with heap:=h'}):wpAny (model prog w) A (call (.type "enumerate") [.ref l]) Q E s:=by
 obtain⟨⟨c,dct,dt,sl⟩,hl,hc,n,hd⟩:=hL;simp only at hc hd;subst hc hd;refine callType_new F.called_enumerate (by decide) (F.typeCall_enumerate_1 _) (F.newCall_enumerate_1 _) (λobj=>F.args_object_init_2 obj _) F.entry_enumerate_new (SV l items n dct sl) ⟨hl,?_⟩;have hz:(s.heap.push {cls:=.type "tuple_iterator",data:=.fields #[.ref l,.int 0 0]}).objs.size=s.heap.objs.size+1:=Heap.size_push ..;show _/\_;rw[hz];have he:IsEnum ((s.heap.push {cls:=.type "tuple_iterator",data:=.fields #[.ref l,.int 0 0]}).push {cls:=.type "enumerate",data:=.fields #[.none,.bool false,.ref s.heap.objs.size,rawInt 0,.none,.none]}) (s.heap.objs.size+1) s.heap.objs.size 0 .none:=by have:=Heap.get?_push_size (s.heap.push {cls:=.type "tuple_iterator",data:=.fields #[.ref l,.int 0 0]}) (o:={cls:=.type "enumerate",data:=.fields #[.none,.bool false,.ref s.heap.objs.size,rawInt 0,.none,.none]}) rfl;rwa [hz]at this
 exact⟨⟨_,he,rfl⟩,h _ he ⟨_,Heap.get?_push_of_some _ (Heap.get?_push_size _ rfl),rfl,rfl⟩ λb o x=>Heap.get?_push_of_some _ (Heap.get?_push_of_some _ x)⟩
noncomputable def Iten(l:Addr):It:=⟨λi H=>∃xs,H l=some (.tup xs)/\i<xs.length,λi H x H'=>∃(T:Addr)(xs:List V)(y:V),H T=none/\H l=some (.tup xs)/\xs[i]?=some y/\x=.ref T/\H'=upd H T (.tup [.int i,y]),λi H=>∃xs,H l=some (.tup xs)/\i=xs.length⟩
theorem Qm{P:Program}{w:World}{K:PySem.W.Frag}{es:List Expr}{k:Nat}{pt:Pos}(l e it:Addr)(hei:e≠it)(hle:l≠e)(hli:l≠it):
  Turn P w K (.Tuple es k pt) (Iten l) [e,it] e (λi h=>(∃old,IsEnum h e it i old)/\h.IsTupleIter it l i) where
 mem:=by simp
 obj:=λi h st b hb=>by
  obtain⟨⟨old,he⟩,o,ho,c,d⟩:=st
  have hb':b=e\/b=it:=by simpa using hb
  rcases hb' with rfl|rfl
  ·exact⟨_,he,λv z=>by cases z⟩
  ·exact⟨o,ho,λv z=>by rw[d]at z;cases z⟩
 keep:=λi h h' st kk=>by
  obtain⟨⟨old,he⟩,o,ho,r⟩:=st
  exact⟨⟨old,kk e (by simp) _ he⟩,o,kk it (by simp) o ho,r⟩
 item:=by
  intro X hP hw hK hc i pins s σ H E I hf st hg
  subst hP hw hK
  obtain⟨xs,hx,hi⟩:=hg
  obtain⟨⟨old,he⟩,hs⟩:=st
  obtain⟨its,rv,pl,_⟩:=I.tuple (SqT.of hx)
  have hlen:=rv.length
  have D:=JV (prog:=X.prog) (w:=X.w) (A:=X.A.in1) (I.ok.hd hc) it l hli its.toArray
  have W:=WalksT.enumerateD D e hei (by simp[hei,Ne.symm hle]) (by simp)
  refine W.item i s _ _ (by simp only[List.size_toArray];omega) ⟨⟨old,he⟩,hs,pl⟩ λT vals h' tk hv hT ht hm kk=>?_
  obtain⟨tk',u,hu,rfl⟩:=hv
  obtain⟨y,hy⟩:∃y,xs[i]?=some y:=⟨xs[i],List.getElem?_eq_getElem hi⟩
  obtain⟨u2,hu2,ru⟩:=rv.get hy
  have hu':its[i]?=some u:=by simpa using hu
  rw[hu']at hu2;cases hu2
  refine⟨_,rfl,?_⟩
  refine W.go es k pt i T {s with heap:=h',toks:=tk} _ _ hm λh2 st2 kk2=>?_
  have hTn:H T=none:=I.hok.fresh hT
  have hap:=W.apart i T h' hm
  have hb2:∀b,b∉[e,it]->∀o,s.heap.get? b=some o->h2.get? b=some o:=λb hb o q=>kk2 b o hb (kk b o hb q)
  have nb:∀b u,H b=some u->b∉[e,it]:=λb u q hb=>by rw[(hf b hb).1]at q;cases q
  have I1:Inv X pins σ (upd H T (.tup [.int i,y])) {s with heap:=h2,toks:=tk}:=by
   refine I.step (g':=s.gens) (d':=s.drawn) (ch:=[e,it]) (λb hb=>?_) (λb o _ _ hb q _=>hb2 b hb o q) (λb o _ _ hb q _=>⟨o.slots,hb2 b hb o q⟩)
    (λb o hb q n=>?_) (λb o hb q=>⟨o,hb2 b hb o q⟩) (λb xs q=>?_) (λb o u q=>?_) (λb ps q=>?_) (λm hm=>?_) ?_ I.bare
   ·obtain⟨g0,g1,g2,g3,g4,g5⟩:=hf b hb
    exact⟨g3,g1,g4,g5⟩
   ·rw[Ze (Nat.ne_of_lt (Nat.lt_of_lt_of_le (Heap.lt_size q) hT))];exact n
   ·rw[Ze (Zf q hTn)];exact q
   ·rw[Ze (Zf q hTn)];exact q
   ·exact⟨#[],by rw[Ze (Zf q hTn),q];simp⟩
   ·obtain⟨o,es',ep,ho,r⟩:=hm
    refine⟨o,es',ep,hb2 _ ?_ o ho,r⟩
    intro hb
    obtain⟨g0,g1,_⟩:=hf _ hb
    exact g1 rfl
   ·intro b ob q
    by_cases hb:b=T
    ·subst hb
     rw[Zc]at q
     cases q
     obtain⟨o,h1,h2',h3⟩:=ht
     exact⟨by show 2<=sizeLine;decide,[.int i tk',u],.cons ⟨_,rfl⟩ (.cons ru .nil),⟨o,kk2 _ _ hap h1,h2',h3⟩⟩
    ·rw[Ze hb]at q
     refine(I.hok b ob q).stay (λc' v hc' q'=>hb2 c' ?_ v q') (λc' q'=>by rw[Ze (Zf q' hTn)];exact q') λc' xs q'=>by rw[Ze (Zf q' hTn)];exact q'
     rcases hc' with rfl|hc'
     ·exact nb _ _ q
     ·exact nb _ _ hc'
  refine⟨.ref T,_,I1,rfl,⟨T,xs,y,hTn,hx,hy,rfl,rfl⟩,⟨st2.1,st2.2.1⟩,λb hb=>?_⟩
  rw[Ze]
  ·exact(hf b hb).1
  ·rintro rfl
   exact hap hb
 done:=by
  intro X hP hw hK hc i pins s σ H E I hf st hg
  subst hP hw hK
  obtain⟨xs,hx,hi⟩:=hg
  obtain⟨⟨old,he⟩,hs⟩:=st
  obtain⟨its,rv,pl,_⟩:=I.tuple (SqT.of hx)
  have hlen:=rv.length
  have D:=JV (prog:=X.prog) (w:=X.w) (A:=X.A.in1) (I.ok.hd hc) it l hli its.toArray
  have W:=WalksT.enumerateD D e hei (by simp[hei,Ne.symm hle]) (by simp)
  have ei:i=its.toArray.size:=by simp only[List.size_toArray];omega
  subst ei
  refine W.done s _ _ ⟨⟨old,he⟩,hs,pl⟩ λh' tk kk=>⟨rfl,?_⟩
  have nb:∀b u,H b=some u->b∉[e,it]:=λb u q hb=>by rw[(hf b hb).1]at q;cases q
  refine I.step (g':=s.gens) (d':=s.drawn) (ch:=[e,it]) (λb hb=>?_) (λb o _ _ hb q _=>kk b o hb q) (λb o _ _ hb q _=>⟨o.slots,kk b o hb q⟩)
   (λb o hb q n=>n) (λb o hb q=>⟨o,kk b o hb q⟩) (λb xs q=>q) (λb o u q=>q) (λb ps q=>⟨#[],by rw[q];simp⟩) (λm hm=>?_) (λb u q=>?_) I.bare
  ·obtain⟨g0,g1,g2,g3,g4,g5⟩:=hf b hb
   exact⟨g3,g1,g4,g5⟩
  ·obtain⟨o,es',ep,ho,r⟩:=hm
   refine⟨o,es',ep,kk _ o ?_ ho,r⟩
   intro hb
   obtain⟨g0,g1,_⟩:=hf _ hb
   exact g1 rfl
  ·refine(I.hok b u q).stay (λc' v hc' q'=>kk c' v ?_ q') (λ_ q'=>q') λ_ _ q'=>q'
   rcases hc' with rfl|hc'
   ·exact nb _ _ q
   ·exact nb _ _ hc'
 self:=λA i s Q E st h=>by
  obtain⟨⟨old,he⟩,_⟩:=st
  exact wpAny_pyIter_enum he h
section
variable {X:Cx}
noncomputable def iEnT(ta:TA):TI:=λσ H R=>ta σ H λvs H1=>∃(l:Addr)(xs:List V),vs=[.ref l]/\H1 l=some (.tup xs)/\R (Iten l) H1
theorem VI{a:Expr}{ta:TA}{p pos pt:Pos}{es:List Expr}{k:Nat}(hg:Gl X "enumerate")(hm:X.mg "enumerate"=none)(ha:PA X [a] ta)(hb:bootBuiltins "enumerate"=some (.type "enumerate"))(hs:starEach [a] X.env=[(false,eval a X.env)]:=by rfl):PI X (.Tuple es k pt) (.Call (.Name "enumerate" p) [a] [] pos) (iEnT ta):=by
 intro pins s σ H R I h;refine Call_ (Jl I hg hm hb (PyProof.Rows.callWith_type1 (thn (ha pos pins s σ H _ I h) λus s1⟨vs,H1,I1,r1,q1⟩=>?_) hs rfl));obtain⟨l,xs,e,hx,q⟩:=q1;subst e;cases r1 with
|cons r rr=>
  cases rr;cases r;obtain⟨its,rv,pl,_⟩:=I1.tuple (SqT.of hx);refine Q8 pl λh' he hst kk=>?_;have I2:Inv X pins σ H1 {s1 with heap:=h'}:=I1.kept (t':=s1.toks) kk;refine wpAny_pyIter_enum he ?_;have lt:l<s1.heap.objs.size:=I1.hok.lt hx;refine⟨s1.heap.objs.size+1,[s1.heap.objs.size+1,s1.heap.objs.size],_,_,H1,rfl,I2,Qm l (s1.heap.objs.size+1) s1.heap.objs.size (Nat.succ_ne_self _) (Nat.ne_of_lt (Nat.lt_succ_of_lt lt)) (Nat.ne_of_lt lt),⟨⟨_,he⟩,hst⟩,λb hb=>?_,q⟩;have e:b=s1.heap.objs.size+1\/b=s1.heap.objs.size:=by simpa using hb
  rcases e with e|e<;>subst e
  ·exact I1.fpOk (Nat.le_succ _) (I1.hok.fresh (Nat.le_succ _))
  ·exact I1.fpOk (Nat.le_refl _) (I1.hok.fresh (Nat.le_refl _))
end
theorem GI:bootBuiltins "enumerate"=some (.type "enumerate"):=by decide +kernel
def tOrX(K:PySem.W.Frag)(ta tb:TE):TE:=λσ H Q=>ta σ H λx H1=>∃k,TruV K x H1 k/\if k=true then Q x H1 else tb σ H1 Q
theorem Nv{X:Cx}{a b:Expr}{rest:List Expr}{pos:Pos}{ta tb:TE}(ha:PE X a ta)(hb:PE X (.BoolOp .Or (b::rest) pos) tb):PE X (.BoolOp .Or (a::b::rest) pos) (tOrX X.K ta tb):=by
 intro pins s σ H Q I h;refine BoolOp_or (thn (ha pins s σ H _ I h) λv s1⟨x,H1,I1,r1,k,q1,q2⟩=>?_);refine thn (Dr pins s1 σ H1 x v (λk' H'=>H'=H1/\k'=k) I1 r1 ⟨k,q1,rfl,rfl⟩) λc s2⟨H2,I2,e1,e2⟩=>?_;subst e1 e2;cases c with
|false=>exact hb pins s2 σ H2 Q I2 q2
|true=>exact⟨x,H2,I2,r1,q2⟩
def Zj(b:Addr)(H H':Hp):Prop:=∀c o,H c=some o->c≠b->H' c=some o
theorem Zj.refl(b:Addr)(H:Hp):Zj b H H:=λ_ _ h _=>h
theorem Zj.trans{b:Addr}{H H1 H2:Hp}(x:Zj b H H1)(y:Zj b H1 H2):Zj b H H2:=λc o h hc=>y c o (x c o h hc) hc
theorem Zj.upd{b:Addr}{H H1:Hp}{o:HO}(x:Zj b H H1):Zj b H (upd H1 b o):=λc u h hc=>by rw[Ze hc];exact x c u h hc
theorem Zj.of{b:Addr}{H H1:Hp}(x:Same H H1):Zj b H H1:=λc u h _=>x c u h
theorem Th.sameB{H H':Hp}{t C dx:Addr}{fs:List (Str×V)}(ht:H t=some (.ins C dx fs))(s:Zj t H H'){v:V}{T:String}(h:Th H v T):Th H' v T:=by
 cases h with
|non=>exact .non
|bl b=>exact .bl b
|int i=>exact .int i
|str z h=>exact .str z h
|lst e=>exact .lst (s _ _ e (ne_of e ht (by intro z;cases z)))
|tup e=>exact .tup (s _ _ e (ne_of e ht (by intro z;cases z)))
|dK e=>exact .dK (s _ _ e (ne_of e ht (by intro z;cases z)))
theorem XY{J:It}{g:TG}{tb:TS}{D:Ends}{σ:L2.St}{H:Hp}(n:Nat)(Pv:Nat->L2.St->Hp->Prop)(h0:Pv 0 σ H)(hgo:∀i σ H,i<n->Pv i σ H->J.go i H)(hstop:∀σ H,Pv n σ H->J.stop n H)(hs:∀i σ H x H',i<n->Pv i σ H->J.yld i H x H'->g x σ H' λσ2 H2=>tb {D with nx:=Pv (i+1),ct:=Pv (i+1),bk:=D.nx} σ2 H2)(hd:∀σ H,Pv n σ H->D.nx σ H):∃W:Nat->Nat->L2.St->Hp->Prop,(∃m,W 0 m σ H)/\∀i m σ H,W i m σ H ->(J.stop i H/\D.nx σ H)\/(J.go i H/\∃N:L2.St->Hp->Prop,(∀σ' H',N σ' H'->∃m',m'<m/\W (i+1) m' σ' H')/\∀x H',J.yld i H x H'->g x σ H' λσ2 H2=>tb {D with nx:=N,ct:=N,bk:=D.nx} σ2 H2):=by
 refine⟨λi m σ H=>m=n-i/\i<=n/\Pv i σ H,⟨n,rfl,Nat.zero_le _,h0⟩,?_⟩;rintro i m σ H ⟨rfl,hi,p⟩;by_cases hlt:i<n
 ·exact .inr ⟨hgo i σ H hlt p,Pv (i+1),λσ' H' p'=>⟨n-(i+1),by omega,rfl,hlt,p'⟩,λx H' y=>hs i σ H x H' hlt p y⟩
 ·have e:i=n:=by omega
  subst e;exact .inl ⟨hstop σ H p,hd σ H p⟩
end L2
namespace TB
open PySem L2 PySem.Spec PyProof.Rows
theorem Row.sameB{H H':Hp}{t C dx:Addr}{fs:List (Str×V)}(ht:H t=some (.ins C dx fs))(s:Zj t H H'){v:V}{r:Option (List V)}(h:Row H v r):Row H' v r:=by
 cases r with
|none=>obtain⟨T,th,hT⟩:=h;exact⟨T,th.sameB ht s,hT⟩
|some xs=>obtain⟨p,rfl,hp,hx⟩:=h;exact⟨p,rfl,s _ _ hp (ne_of hp ht (by intro z;cases z)),λx hx'=>let ⟨T,th⟩:=hx x hx';⟨T,th.sameB ht s⟩⟩
def Ym(H:Hp)(xs:List V)(rs:List (Option (List V))):Prop:=xs.length=rs.length/\∀(i:Nat)x r,xs[i]?=some x->rs[i]?=some r->Row H x r
noncomputable def Z7:Nat->List (Key×V)->List (Option (List V))->Sum (Nat×V) (List (Key×V))
|_,kvs,[]=>.inr kvs
|i,kvs,r::rs=>
  if begR false 2 kvs r≠.non then .inl (i,begR false 2 kvs r)else match r with
  |some [.str n,room]=>if Z5 room≠.non then .inl (i,Z5 room)else Z7 (i+1) (putK kvs (.inr n) room) rs
  |_=>.inl (i,.str "form")
theorem G8{i:Nat}{kvs:List (Key×V)}{r:Option (List V)}{rs:List (Option (List V))}(h:begR false 2 kvs r≠.non):Z7 i kvs (r::rs)=.inl (i,begR false 2 kvs r):=by unfold Z7;rw[if_pos h]
theorem JI{g:Bool}{n:Nat}{kvs:List (Key×V)}{r:Option (List V)}(h:begR g n kvs r=.non):∃xs y,r=some xs/\xs.length=n/\xs.getD 0 .non=.str y:=by
 cases r with
|none=>cases h
|some xs=>
  have h':begV g n kvs xs=.non:=h;unfold begV at h';by_cases h1:xs.length≠n
  ·rw[if_pos h1]at h';cases h'
  ·rw[if_neg h1]at h';by_cases h2:ZL g (xs.getD 0 .non)=false
   ·rw[if_pos h2]at h';cases h'
   ·have h2':ZL g (xs.getD 0 .non)=true:=by simpa using h2
    unfold ZL at h2';cases e:xs.getD 0 .non with
   |str y=>exact⟨xs,y,rfl,by omega,e⟩
   |_=>rw[e]at h2';split at h2'<;>cases h2'
def R8(v:V):Prop:=v=.non\/∃z:Str,v=.str z/\z.length<=1000/\z.length≠0
theorem R8.tru{K:PySem.W.Frag}{v:V}{H:Hp}(h:R8 v):TruV K v H (decide (v≠.non)):=by
 rcases h with rfl|⟨z,rfl,h1,h2⟩
 ·exact rfl
 ·refine⟨Nat.le_of_lt (Z4 h1),?_⟩;rw[decide_eq_true (by intro q;cases q)];simp[h2]
theorem GJ(g:Bool)(n:Nat)(kvs:List (Key×V))(r:Option (List V)):R8 (begR g n kvs r):=by
 cases r with
|none=>exact .inr ⟨_,rfl,by decide +kernel,by decide +kernel⟩
|some xs=>
  show R8 (begV g n kvs xs);unfold begV;split
  ·exact .inr ⟨_,rfl,by decide +kernel,by decide +kernel⟩
  ·split
   ·exact .inr ⟨_,rfl,by decide +kernel,by decide +kernel⟩
   ·split
    ·exact .inr ⟨_,rfl,by decide +kernel,by decide +kernel⟩
    ·exact .inl rfl
section
variable {P:Program}{w:World}{K:PySem.W.Frag}{mg:Str->Option Value}{base:Heap}{C Cb:Addr}
def Rt(C Cb:Addr):Sp:=λvs H Q E=>∃(t l dx:Addr)(xs:List V)(rs:List (Option (List V)))(fs:List (Str×V)),vs=[.ref t,.ref l]/\H t=some (.ins C dx fs)/\(∀g,g∉fields->fs.lookup g=none)/\fs.length<=20/\H l=some (.tup xs)/\xs.length<=1000/\Ym H xs rs /\match Z7 0 [] rs with
|.inl (i,why)=>∀H1,Zj t H H1->Bad Cb (.str "places") (.int i) why H1 E
|.inr kvs=>∀H' d,Zj t H H'->H d=none->d≠t->H' d=some (.dK kvs)->H' t=some (.ins C dx (putF "room_by_place" (.ref d) (putF "places" (.ref l) fs)))->Q .non H'
theorem Nl:FnScope ["self","places","at","row"] ["self","places"] (Zg T.m_Table_take_places):=⟨rfl,rfl,rfl,by decide +kernel,rfl,by decide +kernel,by decide +kernel⟩
theorem Tj(Z:TCl K C)(he:mg "enumerate"=none)(D:DfM K C "take_places" "Table.take_places" T.m_Table_take_places ["self","places"])(CB:Can P w K mg base 3 "wrong_beginning" ["part","row","names_ahead"] Jw)(CW:Can P w K mg base 3 "wrong_place" ["row"] NZ)(CR:CanX P w K mg base 3 "refuse_row" ["part","at","why"] (Jx Cb)):CanM P w K mg base (CX1 P w) 4 C "take_places" ["self","places"] (Rt C Cb):=by
 refine D.canX Nl (λvs H Q E h=>?_) λf cdv A outer s H vs Q E hr h=>?_
 ·obtain⟨t,l,dx,xs,rs,fs,rfl,_⟩:=h;rfl
 ·obtain⟨t,l,dx,xs,rs,fs,rfl,ht,honly,hfs,hl,hlen,hrows,k⟩:=h;refine⟨_,Zd (Ji (pv 0) (pv 1) rfl) (Zd (Ji (pv 0) JD rfl) (Zk (Y3 PassesOwn.leaving rfl (VI rfl he (Zh (pv 1) Zb) GI) (YS rfl (Zp (Zo (i:=2) Nl.nd rfl (Or.inl rfl)) (Zp (Zo (i:=3) Nl.nd rfl (Or.inl rfl)) ZV))) (Zd (ZU (XM CR Xe hr rfl (Zh Zn (Zh (pv 2) (Zh (Nv (ZS CB hr rfl (Zh Zn (Zh (pv 3) (Zh (Z8 (pv 0) rfl) Zb)))) (Y4 (ZS CW hr rfl (Zh (pv 3) Zb)))) Zb))))) (Zk (VH (YO hr) (Z8 (pv 0) rfl) (Z2 ZY (pv 3) Zi (λ_ _=>rfl)) (Z2 ZY (pv 3) Zi (λ_ _=>rfl)) rfl)))))),?_⟩;have nP:Yl K C "places":=Z.na _ (by simp[fields]);have nR:Yl K C "room_by_place":=Z.na _ (by simp[fields]);have htl:l≠t:=ne_of hl ht (by intro z;cases z);have fl1:(putF "places" (.ref l) fs).length<=21:=by have:=Yi "places" (V.ref l) fs;omega
  refine⟨_,rfl,_,rfl,t,C,dx,_,rfl,ht,Z.cl,nP,by omega,?_⟩;have s1:Zj t H (upd H t (.ins C dx (putF "places" (.ref l) fs))):=(Zj.refl t H).upd;have t1:upd H t (.ins C dx (putF "places" (.ref l) fs)) t=some (.ins C dx (putF "places" (.ref l) fs)):=Zc;have fr1:∀c,upd H t (.ins C dx (putF "places" (.ref l) fs)) c=none->H c=none/\c≠t:=λc e=>by
   by_cases h:c=t
   ·rw[h,Zc]at e;cases e
   ·rw[Ze h]at e;exact⟨e,h⟩
  generalize upd H t (.ins C dx (putF "places" (.ref l) fs))=H1 at s1 t1 fr1 ⊢;refine λd hd=>⟨_,rfl,t,C,dx,_,rfl,(by rw[Ze (Zf t1 hd)];exact t1),Z.cl,nR,by omega,?_⟩;obtain⟨hd0,hdt⟩:=fr1 d hd;have s2:Zj t H (upd (upd H1 d (.dK [])) t (.ins C dx (putF "room_by_place" (.ref d) (putF "places" (.ref l) fs)))):=λc o h hc=>by rw[Ze hc,Ze (λz=>by rw[z,hd0]at h;cases h)];exact s1 c o h hc
  have t2:upd (upd H1 d (.dK [])) t (.ins C dx (putF "room_by_place" (.ref d) (putF "places" (.ref l) fs))) t=some (.ins C dx (putF "room_by_place" (.ref d) (putF "places" (.ref l) fs))):=Zc;have d2:upd (upd H1 d (.dK [])) t (.ins C dx (putF "room_by_place" (.ref d) (putF "places" (.ref l) fs))) d=some (.dK []):=by rw[Ze hdt,Zc]
  have lk:(putF "room_by_place" (.ref d) (putF "places" (.ref l) fs)).lookup ("room_by_place":Str)=some (.ref d):=by rw[Zl,if_pos rfl]
  generalize upd (upd H1 d (.dK [])) t (.ins C dx (putF "room_by_place" (.ref d) (putF "places" (.ref l) fs)))=H2 at s2 t2 d2 ⊢;have kk:∀res,Z7 0 [] rs=res->(match res with
  |.inl (i,why)=>∀H1,Zj t H H1->Bad Cb (.str "places") (.int i) why H1 E
  |.inr kvs=>∀H' d,Zj t H H'->H d=none->d≠t->H' d=some (.dK kvs)->H' t=some (.ins C dx (putF "room_by_place" (.ref d) (putF "places" (.ref l) fs)))->Q .non H'):=λres e=>by rw[<-e];exact k
  clear k;refine⟨_,rfl,l,xs,rfl,s2 _ _ hl htl,XY (J:=Iten l) xs.length (λi σ H'=>∃(kvs:List (Key×V))(v2 v3:Option V),σ=[some (.ref t),some (.ref l),v2,v3]/\Zj t H H'/\H' t=some (.ins C dx (putF "room_by_place" (.ref d) (putF "places" (.ref l) fs)))/\H' d=some (.dK kvs)/\Z7 0 [] rs=Z7 i kvs (rs.drop i)/\kvs.length<=i) ⟨[],none,none,rfl,s2,t2,d2,rfl,Nat.le_refl _⟩ (λi σ H' hi p=>?_) (λσ H' p=>?_) (λi σ H' x H'' hi p yl=>?_) (λσ H' p=>?_)⟩
  ·obtain⟨kvs,v2,v3,rfl,sm,_⟩:=p;exact⟨xs,sm _ _ hl htl,hi⟩
  ·obtain⟨kvs,v2,v3,rfl,sm,_⟩:=p;exact⟨xs,sm _ _ hl htl,rfl⟩
  ·obtain⟨kvs,v2,v3,rfl,sm,tt,dd,hgo,hkl⟩:=p;obtain⟨Tt,xs',y,hT,e1,hy,rfl,rfl⟩:=yl;rw[sm _ _ hl htl]at e1;cases e1;have hi':i<rs.length:=by rw[<-hrows.1];exact hi
   have hr0:rs[i]?=some rs[i]:=List.getElem?_eq_getElem hi';have hdrop:rs.drop i=rs[i]::rs.drop (i+1):=List.drop_eq_getElem_cons hi';have hrow0:=hrows.2 i y rs[i] hy hr0;generalize rs[i]=r at hr0 hdrop hrow0;have sm3:Zj t H (upd H' Tt (.tup [.int i,y])):=λc o h hc=>by rw[Ze (Zf (sm c o h hc) hT)];exact sm c o h hc
   have t3:upd H' Tt (.tup [.int i,y]) t=some (.ins C dx (putF "room_by_place" (.ref d) (putF "places" (.ref l) fs))):=by rw[Ze (Zf tt hT)];exact tt
   have d3:upd H' Tt (.tup [.int i,y]) d=some (.dK kvs):=by rw[Ze (Zf dd hT)];exact dd
   refine⟨Tt,_,rfl,SqT.of Zc,rfl,_,_,rfl,_,_,rfl,rfl,?_⟩;generalize upd H' Tt (.tup [.int i,y])=H3 at sm3 t3 d3 ⊢;have hrow3:Row H3 y r:=hrow0.sameB ht sm3;refine⟨_,rfl,_,rfl,_,rfl,t,C,dx,_,_,rfl,t3,Z.cl,nR,lk,"places",2,y,r,d,kvs,rfl,by simp[G9],hrow3,d3,λH4 sm34=>⟨_,(GJ _ _ _ _).tru,?_⟩⟩;have sm4:Zj t H H4:=sm3.trans (Zj.of sm34);have t4:=sm34 _ _ t3;have d4:=sm34 _ _ d3;have eg:decide ((("places":Str))="groups")=false:=by decide +kernel
   rw[eg];rw[hdrop]at hgo;by_cases hb:begR false 2 kvs r=.non
   ·rw[hb];refine iteF ?_;obtain⟨ys,n,rfl,hyl,hyn⟩:=JI hb;obtain⟨q,rfl,hq,hqx⟩:=hrow3;obtain⟨x0,room,rfl⟩:=len2 hyl;have hx0:x0=.str n:=hyn;subst hx0;have hq4:=sm34 _ _ hq;obtain⟨T5,th5⟩:=hqx room (by simp);refine⟨_,rfl,q,.str n,room,T5,rfl,hq4,th5.same sm34,?_⟩;have hstep:Z7 i kvs (some [.str n,room]::rs.drop (i+1))=if Z5 room≠.non then .inl (i,Z5 room)else Z7 (i+1) (putK kvs (.inr n) room) (rs.drop (i+1)):=by rw[Z7,if_neg (by rw[hb];exact λz=>z rfl)]
    by_cases hw:Z5 room=.non
    ·refine⟨_,_,_,rfl,.inl ⟨hw,?_⟩⟩;refine⟨_,rfl,q,_,1,room,rfl,rfl,SqT.of hq4,at0 1 rfl,_,rfl,t,C,dx,_,_,rfl,t4,Z.cl,nR,lk,_,rfl,q,_,0,.str n,rfl,rfl,SqT.of hq4,at0 0 rfl,d,_,rfl,DPut.k (k:=Sum.inr n) d4 (Z4 (by omega)),?_⟩;refine⟨putK kvs (.inr n) room,_,_,rfl,λc o h hc=>?_,(by rw[Ze (Ne.symm hdt)];exact t4),Zc,?_,?_⟩
     ·rw[Ze (λz=>by rw[z,hd0]at h;cases h)];exact sm4 c o h hc
     ·rw[hgo,hstep,if_neg (λz=>z hw)]
     ·have:=Yw kvs (Sum.inr n) room;omega
    ·refine⟨_,_,_,rfl,.inr ⟨hw,?_⟩⟩;exact kk (.inl (i,Z5 room)) (by rw[hgo,hstep,if_pos hw]) H4 sm4
   ·rw[decide_eq_true hb];refine iteT ?_;refine⟨_,_,_,rfl,.inr ⟨hb,?_⟩⟩;exact kk (.inl (i,begR false 2 kvs r)) (by rw[hgo,G8 hb]) H4 sm4
  ·obtain⟨kvs,v2,v3,rfl,sm,tt,dd,hgo,hkl⟩:=p;have hd':rs.drop xs.length=[]:=by rw[hrows.1];exact List.drop_length
   rw[hd',Z7]at hgo;exact kk _ hgo H' d sm hd0 hdt dd tt
noncomputable def nameOf(ys:List V):Str:=match ys.getD 0 .non with
|.str y=>y
|_=>Str.empty
noncomputable def Yj(g:Bool)(n:Nat)(why:List V->V):Nat->List (Key×V)->List (V×Option (List V))->Sum (Nat×V) (List (Key×V))
|_,kvs,[]=>.inr kvs
|i,kvs,(x,r)::rs=>
  if begR g n kvs r≠.non then .inl (i,begR g n kvs r)else match r with
  |some ys=>if why ys≠.non then .inl (i,why ys)else Yj g n why (i+1) (putK kvs (.inr (nameOf ys)) x) rs
  |none=>.inl (i,.str "form")
theorem G6{g:Bool}{n:Nat}{why:List V->V}{i:Nat}{kvs:List (Key×V)}{x:V}{r:Option (List V)}{rs:List (V×Option (List V))}(h:begR g n kvs r≠.non):Yj g n why i kvs ((x,r)::rs)=.inl (i,begR g n kvs r):=by unfold Yj;rw[if_pos h]
theorem UH{g:Bool}{n:Nat}{why:List V->V}{i:Nat}{kvs:List (Key×V)}{x:V}{ys:List V}{rs:List (V×Option (List V))}(h:begR g n kvs (some ys)=.non):Yj g n why i kvs ((x,some ys)::rs)=if why ys≠.non then .inl (i,why ys)else Yj g n why (i+1) (putK kvs (.inr (nameOf ys)) x) rs:=by
 conv=>lhs;unfold Yj
 rw[if_neg (λz=>z h)]
noncomputable def at_(ys:List V)(i:Nat):V:=ys.getD i .non
noncomputable def JA(kvs:List (Key×V))(n:Int)(ys:List V):V:=Gi kvs n (at_ ys 1) (at_ ys 2) (at_ ys 3) (at_ ys 4) (at_ ys 5)
noncomputable def wayW(kvs:List (Key×V))(ys:List V):V:=wayV kvs (at_ ys 1) (at_ ys 2) (at_ ys 3) (at_ ys 4)
def Rr(C Cb:Addr):Sp:=λvs H Q E=>∃(t l dx dP:Addr)(xs:List V)(rs:List (Option (List V)))(fs:List (Str×V))(kvsP:List (Key×V))(nT:Int),vs=[.ref t,.ref l]/\H t=some (.ins C dx fs)/\(∀g,g∉fields->fs.lookup g=none)/\fs.length<=20 /\fs.lookup ("room_by_place":Str)=some (.ref dP)/\H dP=some (.dK kvsP)/\fs.lookup ("turns":Str)=some (.int nT)/\H l=some (.tup xs)/\xs.length<=1000/\Ym H xs rs /\match Yj false 6 (JA kvsP nT) 0 [] (xs.zip rs)with
|.inl (i,why)=>∀H1,Zj t H H1->Bad Cb (.str "rides") (.int i) why H1 E
|.inr kvs=>∀H' d,Zj t H H'->H d=none->d≠t->H' d=some (.dK kvs)->H' t=some (.ins C dx (putF "ride_by_name" (.ref d) (putF "rides" (.ref l) fs)))->Q .non H'
theorem Nk:FnScope ["self","rides","at","row"] ["self","rides"] (Zg T.m_Table_take_rides):=⟨rfl,rfl,rfl,by decide +kernel,rfl,by decide +kernel,by decide +kernel⟩
theorem Ti(Z:TCl K C)(he:mg "enumerate"=none)(D:DfM K C "take_rides" "Table.take_rides" T.m_Table_take_rides ["self","rides"])(CB:Can P w K mg base 3 "wrong_beginning" ["part","row","names_ahead"] Jw)(CW:Can P w K mg base 5 "wrong_ride" ["table","row"] (Wj C))(CR:CanX P w K mg base 3 "refuse_row" ["part","at","why"] (Jx Cb)):CanM P w K mg base (CX1 P w) 6 C "take_rides" ["self","rides"] (Rr C Cb):=by
 refine D.canX Nk (λvs H Q E h=>?_) λf cdv A outer s H vs Q E hr h=>?_
 ·obtain⟨t,l,dx,dP,xs,rs,fs,kvsP,nT,rfl,_⟩:=h;rfl
 ·obtain⟨t,l,dx,dP,xs,rs,fs,kvsP,nT,rfl,ht,honly,hfs,hdP,hkP,hnT,hl,hlen,hrows,k⟩:=h;have hr3:=hr.mono (by decide:3<=5);refine⟨_,Zd (Ji (pv 0) (pv 1) rfl) (Zd (Ji (pv 0) JD rfl) (Zk (Y3 PassesOwn.leaving rfl (VI rfl he (Zh (pv 1) Zb) GI) (YS rfl (Zp (Zo (i:=2) Nk.nd rfl (Or.inl rfl)) (Zp (Zo (i:=3) Nk.nd rfl (Or.inl rfl)) ZV))) (Zd (ZU (XM CR Xe hr3 rfl (Zh Zn (Zh (pv 2) (Zh (Nv (ZS CB hr3 rfl (Zh Zn (Zh (pv 3) (Zh (Z8 (pv 0) rfl) Zb)))) (Y4 (ZS CW hr rfl (Zh (pv 0) (Zh (pv 3) Zb))))) Zb))))) (Zk (VH (YO hr) (Z8 (pv 0) rfl) (Z2 ZY (pv 3) Zi (λ_ _=>rfl)) (pv 3) rfl)))))),?_⟩;have nP:Yl K C "rides":=Z.na _ (by simp[fields]);have nR:Yl K C "ride_by_name":=Z.na _ (by simp[fields]);have htl:l≠t:=ne_of hl ht (by intro z;cases z);have hdPt:dP≠t:=ne_of hkP ht (by intro z;cases z);have fl1:(putF "rides" (.ref l) fs).length<=21:=by have:=Yi "rides" (V.ref l) fs;omega
  refine⟨_,rfl,_,rfl,t,C,dx,_,rfl,ht,Z.cl,nP,by omega,?_⟩;have s1:Zj t H (upd H t (.ins C dx (putF "rides" (.ref l) fs))):=(Zj.refl t H).upd;have t1:upd H t (.ins C dx (putF "rides" (.ref l) fs)) t=some (.ins C dx (putF "rides" (.ref l) fs)):=Zc;have fr1:∀c,upd H t (.ins C dx (putF "rides" (.ref l) fs)) c=none->H c=none/\c≠t:=λc e=>by
   by_cases h:c=t
   ·rw[h,Zc]at e;cases e
   ·rw[Ze h]at e;exact⟨e,h⟩
  generalize upd H t (.ins C dx (putF "rides" (.ref l) fs))=H1 at s1 t1 fr1 ⊢;refine λd hd=>⟨_,rfl,t,C,dx,_,rfl,(by rw[Ze (Zf t1 hd)];exact t1),Z.cl,nR,by omega,?_⟩;obtain⟨hd0,hdt⟩:=fr1 d hd;have s2:Zj t H (upd (upd H1 d (.dK [])) t (.ins C dx (putF "ride_by_name" (.ref d) (putF "rides" (.ref l) fs)))):=λc o h hc=>by rw[Ze hc,Ze (λz=>by rw[z,hd0]at h;cases h)];exact s1 c o h hc
  have t2:upd (upd H1 d (.dK [])) t (.ins C dx (putF "ride_by_name" (.ref d) (putF "rides" (.ref l) fs))) t=some (.ins C dx (putF "ride_by_name" (.ref d) (putF "rides" (.ref l) fs))):=Zc;have d2:upd (upd H1 d (.dK [])) t (.ins C dx (putF "ride_by_name" (.ref d) (putF "rides" (.ref l) fs))) d=some (.dK []):=by rw[Ze hdt,Zc]
  have lk:(putF "ride_by_name" (.ref d) (putF "rides" (.ref l) fs)).lookup ("ride_by_name":Str)=some (.ref d):=by rw[Zl,if_pos rfl]
  have lkP:(putF "ride_by_name" (.ref d) (putF "rides" (.ref l) fs)).lookup ("room_by_place":Str)=some (.ref dP):=by rw[Zl,if_neg (by decide +kernel),Zl,if_neg (by decide +kernel)];exact hdP
  have lkT:(putF "ride_by_name" (.ref d) (putF "rides" (.ref l) fs)).lookup ("turns":Str)=some (.int nT):=by rw[Zl,if_neg (by decide +kernel),Zl,if_neg (by decide +kernel)];exact hnT
  have lkO:∀g,g∉fields->(putF "ride_by_name" (.ref d) (putF "rides" (.ref l) fs)).lookup g=none:=λg hg=>by rw[Zl,if_neg (λz=>hg (by rw[z];simp[fields])),Zl,if_neg (λz=>hg (by rw[z];simp[fields]))];exact honly g hg
  have hFin:∀kvs,(∀H' d,Zj t H H'->H d=none->d≠t->H' d=some (.dK kvs)->H' t=some (.ins C dx (putF "ride_by_name" (.ref d) (putF "rides" (.ref l) fs)))->Q .non H')->∀H',Zj t H H'->H' d=some (.dK kvs)->H' t=some (.ins C dx (putF "ride_by_name" (.ref d) (putF "rides" (.ref l) fs)))->Q .non H':=λkvs kf H' h1 h2 h3=>kf H' d h1 hd0 hdt h2 h3;generalize hF2:putF "ride_by_name" (.ref d) (putF "rides" (.ref l) fs)=F2 at s2 t2 d2 lk lkP lkT lkO ⊢;generalize upd (upd H1 d (.dK [])) t (.ins C dx F2)=H2 at s2 t2 d2 ⊢;have kk:∀res,Yj false 6 (JA kvsP nT) 0 [] (xs.zip rs)=res->(match res with
  |.inl (i,why)=>∀H1,Zj t H H1->Bad Cb (.str "rides") (.int i) why H1 E
  |.inr kvs=>∀H',Zj t H H'->H' d=some (.dK kvs)->H' t=some (.ins C dx F2)->Q .non H'):=λres e=>by
    rw[e]at k;cases res with
   |inl p=>exact k
   |inr kvs=>exact λH' h1 h2 h3=>hFin kvs k H' h1 h2 (by rw[hF2];exact h3)
  clear k;refine⟨_,rfl,l,xs,rfl,s2 _ _ hl htl,XY (J:=Iten l) xs.length (λi σ H'=>∃(kvs:List (Key×V))(v2 v3:Option V),σ=[some (.ref t),some (.ref l),v2,v3]/\Zj t H H'/\H' t=some (.ins C dx F2)/\H' d=some (.dK kvs)/\Yj false 6 (JA kvsP nT) 0 [] (xs.zip rs)=Yj false 6 (JA kvsP nT) i kvs ((xs.zip rs).drop i)/\kvs.length<=i) ⟨[],none,none,rfl,s2,t2,d2,rfl,Nat.le_refl _⟩ (λi σ H' hi p=>?_) (λσ H' p=>?_) (λi σ H' x H'' hi p yl=>?_) (λσ H' p=>?_)⟩
  ·obtain⟨kvs,v2,v3,rfl,sm,_⟩:=p;exact⟨xs,sm _ _ hl htl,hi⟩
  ·obtain⟨kvs,v2,v3,rfl,sm,_⟩:=p;exact⟨xs,sm _ _ hl htl,rfl⟩
  ·obtain⟨kvs,v2,v3,rfl,sm,tt,dd,hgo,hkl⟩:=p;obtain⟨Tt,xs',y,hT,e1,hy,rfl,rfl⟩:=yl;rw[sm _ _ hl htl]at e1;cases e1;have hi':i<rs.length:=by rw[<-hrows.1];exact hi
   have hr0:rs[i]?=some rs[i]:=List.getElem?_eq_getElem hi';have hzl:i<(xs.zip rs).length:=by rw[List.length_zip];omega
   have hyx:xs[i]=y:=by rw[List.getElem?_eq_getElem hi]at hy;exact Option.some.inj hy
   have hdrop:(xs.zip rs).drop i=(y,rs[i])::(xs.zip rs).drop (i+1):=by rw[List.drop_eq_getElem_cons hzl,List.getElem_zip,hyx]
   have hrow0:=hrows.2 i y rs[i] hy hr0;generalize rs[i]=r at hr0 hdrop hrow0;have sm3:Zj t H (upd H' Tt (.tup [.int i,y])):=λc o h hc=>by rw[Ze (Zf (sm c o h hc) hT)];exact sm c o h hc
   have t3:upd H' Tt (.tup [.int i,y]) t=some (.ins C dx F2):=by rw[Ze (Zf tt hT)];exact tt
   have d3:upd H' Tt (.tup [.int i,y]) d=some (.dK kvs):=by rw[Ze (Zf dd hT)];exact dd
   refine⟨Tt,_,rfl,SqT.of Zc,rfl,_,_,rfl,_,_,rfl,rfl,?_⟩;generalize upd H' Tt (.tup [.int i,y])=H3 at sm3 t3 d3 ⊢;have hrow3:Row H3 y r:=hrow0.sameB ht sm3;refine⟨_,rfl,_,rfl,_,rfl,t,C,dx,_,_,rfl,t3,Z.cl,nR,lk,"rides",6,y,r,d,kvs,rfl,by simp[G9],hrow3,d3,λH4 sm34=>⟨_,(GJ _ _ _ _).tru,?_⟩⟩;have sm4:Zj t H H4:=sm3.trans (Zj.of sm34);have t4:=sm34 _ _ t3;have d4:=sm34 _ _ d3;have eg:decide ((("rides":Str))="groups")=false:=by decide +kernel
   rw[eg];rw[hdrop]at hgo;by_cases hb:begR false 6 kvs r=.non
   ·rw[hb];refine iteF ?_;obtain⟨ys,n,rfl,hyl,hyn⟩:=JI hb;obtain⟨q,rfl,hq,hqx⟩:=hrow3;have hq4:=sm34 _ _ hq;have hnm:nameOf ys=n:=by unfold nameOf;rw[hyn]
    have hstep:=UH (why:=JA kvsP nT) (i:=i) (x:=.ref q) (rs:=(xs.zip rs).drop (i+1)) hb;rw[hnm]at hstep;obtain⟨x0,x1,x2,x3,x4,x5,rfl⟩:=len6 hyl;have hx0:x0=.str n:=hyn;subst hx0;have tb4:Tab H4 C t F2:=⟨⟨dx,t4⟩,lkO⟩;refine⟨_,rfl,_,rfl,t,q,.str n,x1,x2,x3,x4,x5,F2,dP,kvsP,nT,rfl,tb4,lkP,lkT,sm34 _ _ (sm3 _ _ hkP hdPt),hq4,λx hx=>(let ⟨T,th⟩:=hqx x hx;⟨T,th.same sm34⟩),?_⟩;by_cases hw:JA kvsP nT [.str n,x1,x2,x3,x4,x5]=.non
    ·refine⟨_,_,_,rfl,.inl ⟨hw,?_⟩⟩;refine⟨_,rfl,_,rfl,t,C,dx,_,_,rfl,t4,Z.cl,nR,lk,_,rfl,q,_,0,.str n,rfl,rfl,SqT.of hq4,at0 0 rfl,d,_,rfl,DPut.k (k:=Sum.inr n) d4 (Z4 (by omega)),?_⟩;refine⟨putK kvs (.inr n) (.ref q),_,_,rfl,λc o h hc=>?_,(by rw[Ze (Ne.symm hdt)];exact t4),Zc,?_,?_⟩
     ·rw[Ze (λz=>by rw[z,hd0]at h;cases h)];exact sm4 c o h hc
     ·rw[hgo,hstep,if_neg (λz=>z hw)]
     ·have:=Yw kvs (Sum.inr n) (V.ref q);omega
    ·refine⟨_,_,_,rfl,.inr ⟨hw,?_⟩⟩;exact kk (.inl (i,JA kvsP nT [.str n,x1,x2,x3,x4,x5])) (by rw[hgo,hstep,if_pos hw]) H4 sm4
   ·rw[decide_eq_true hb];refine iteT ?_;refine⟨_,_,_,rfl,.inr ⟨hb,?_⟩⟩;exact kk (.inl (i,begR false 6 kvs r)) (by rw[hgo,G6 hb]) H4 sm4
  ·obtain⟨kvs,v2,v3,rfl,sm,tt,dd,hgo,hkl⟩:=p;have hd':(xs.zip rs).drop xs.length=[]:=List.drop_eq_nil_iff.mpr (by rw[List.length_zip];omega);rw[hd',Yj]at hgo;exact kk (.inr kvs) hgo H' sm dd tt
def Rq(C Cb:Addr):Sp:=λvs H Q E=>∃(t l dx dP:Addr)(xs:List V)(rs:List (Option (List V)))(fs:List (Str×V))(kvsP:List (Key×V))(nT:Int),vs=[.ref t,.ref l]/\H t=some (.ins C dx fs)/\(∀g,g∉fields->fs.lookup g=none)/\fs.length<=20 /\fs.lookup ("room_by_place":Str)=some (.ref dP)/\H dP=some (.dK kvsP)/\fs.lookup ("turns":Str)=some (.int nT)/\H l=some (.tup xs)/\xs.length<=1000/\Ym H xs rs /\match Yj false 5 (wayW kvsP) 0 [] (xs.zip rs)with
|.inl (i,why)=>∀H1,Zj t H H1->Bad Cb (.str "ways") (.int i) why H1 E
|.inr kvs=>∀H' d,Zj t H H'->H d=none->d≠t->H' d=some (.dK kvs)->H' t=some (.ins C dx (putF "way_by_name" (.ref d) (putF "ways" (.ref l) fs)))->Q .non H'
theorem Nj:FnScope ["self","ways","at","row"] ["self","ways"] (Zg T.m_Table_take_ways):=⟨rfl,rfl,rfl,by decide +kernel,rfl,by decide +kernel,by decide +kernel⟩
theorem Tg(Z:TCl K C)(he:mg "enumerate"=none)(D:DfM K C "take_ways" "Table.take_ways" T.m_Table_take_ways ["self","ways"])(CB:Can P w K mg base 3 "wrong_beginning" ["part","row","names_ahead"] Jw)(CW:Can P w K mg base 5 "wrong_way" ["table","row"] (LX C))(CR:CanX P w K mg base 3 "refuse_row" ["part","at","why"] (Jx Cb)):CanM P w K mg base (CX1 P w) 6 C "take_ways" ["self","ways"] (Rq C Cb):=by
 refine D.canX Nj (λvs H Q E h=>?_) λf cdv A outer s H vs Q E hr h=>?_
 ·obtain⟨t,l,dx,dP,xs,rs,fs,kvsP,nT,rfl,_⟩:=h;rfl
 ·obtain⟨t,l,dx,dP,xs,rs,fs,kvsP,nT,rfl,ht,honly,hfs,hdP,hkP,hnT,hl,hlen,hrows,k⟩:=h;have hr3:=hr.mono (by decide:3<=5);refine⟨_,Zd (Ji (pv 0) (pv 1) rfl) (Zd (Ji (pv 0) JD rfl) (Zk (Y3 PassesOwn.leaving rfl (VI rfl he (Zh (pv 1) Zb) GI) (YS rfl (Zp (Zo (i:=2) Nj.nd rfl (Or.inl rfl)) (Zp (Zo (i:=3) Nj.nd rfl (Or.inl rfl)) ZV))) (Zd (ZU (XM CR Xe hr3 rfl (Zh Zn (Zh (pv 2) (Zh (Nv (ZS CB hr3 rfl (Zh Zn (Zh (pv 3) (Zh (Z8 (pv 0) rfl) Zb)))) (Y4 (ZS CW hr rfl (Zh (pv 0) (Zh (pv 3) Zb))))) Zb))))) (Zk (VH (YO hr) (Z8 (pv 0) rfl) (Z2 ZY (pv 3) Zi (λ_ _=>rfl)) (pv 3) rfl)))))),?_⟩;have nP:Yl K C "ways":=Z.na _ (by simp[fields]);have nR:Yl K C "way_by_name":=Z.na _ (by simp[fields]);have htl:l≠t:=ne_of hl ht (by intro z;cases z);have hdPt:dP≠t:=ne_of hkP ht (by intro z;cases z);have fl1:(putF "ways" (.ref l) fs).length<=21:=by have:=Yi "ways" (V.ref l) fs;omega
  refine⟨_,rfl,_,rfl,t,C,dx,_,rfl,ht,Z.cl,nP,by omega,?_⟩;have s1:Zj t H (upd H t (.ins C dx (putF "ways" (.ref l) fs))):=(Zj.refl t H).upd;have t1:upd H t (.ins C dx (putF "ways" (.ref l) fs)) t=some (.ins C dx (putF "ways" (.ref l) fs)):=Zc;have fr1:∀c,upd H t (.ins C dx (putF "ways" (.ref l) fs)) c=none->H c=none/\c≠t:=λc e=>by
   by_cases h:c=t
   ·rw[h,Zc]at e;cases e
   ·rw[Ze h]at e;exact⟨e,h⟩
  generalize upd H t (.ins C dx (putF "ways" (.ref l) fs))=H1 at s1 t1 fr1 ⊢;refine λd hd=>⟨_,rfl,t,C,dx,_,rfl,(by rw[Ze (Zf t1 hd)];exact t1),Z.cl,nR,by omega,?_⟩;obtain⟨hd0,hdt⟩:=fr1 d hd;have s2:Zj t H (upd (upd H1 d (.dK [])) t (.ins C dx (putF "way_by_name" (.ref d) (putF "ways" (.ref l) fs)))):=λc o h hc=>by rw[Ze hc,Ze (λz=>by rw[z,hd0]at h;cases h)];exact s1 c o h hc
  have t2:upd (upd H1 d (.dK [])) t (.ins C dx (putF "way_by_name" (.ref d) (putF "ways" (.ref l) fs))) t=some (.ins C dx (putF "way_by_name" (.ref d) (putF "ways" (.ref l) fs))):=Zc;have d2:upd (upd H1 d (.dK [])) t (.ins C dx (putF "way_by_name" (.ref d) (putF "ways" (.ref l) fs))) d=some (.dK []):=by rw[Ze hdt,Zc]
  have lk:(putF "way_by_name" (.ref d) (putF "ways" (.ref l) fs)).lookup ("way_by_name":Str)=some (.ref d):=by rw[Zl,if_pos rfl]
  have lkP:(putF "way_by_name" (.ref d) (putF "ways" (.ref l) fs)).lookup ("room_by_place":Str)=some (.ref dP):=by rw[Zl,if_neg (by decide +kernel),Zl,if_neg (by decide +kernel)];exact hdP
  have lkT:(putF "way_by_name" (.ref d) (putF "ways" (.ref l) fs)).lookup ("turns":Str)=some (.int nT):=by rw[Zl,if_neg (by decide +kernel),Zl,if_neg (by decide +kernel)];exact hnT
  have lkO:∀g,g∉fields->(putF "way_by_name" (.ref d) (putF "ways" (.ref l) fs)).lookup g=none:=λg hg=>by rw[Zl,if_neg (λz=>hg (by rw[z];simp[fields])),Zl,if_neg (λz=>hg (by rw[z];simp[fields]))];exact honly g hg
  have hFin:∀kvs,(∀H' d,Zj t H H'->H d=none->d≠t->H' d=some (.dK kvs)->H' t=some (.ins C dx (putF "way_by_name" (.ref d) (putF "ways" (.ref l) fs)))->Q .non H')->∀H',Zj t H H'->H' d=some (.dK kvs)->H' t=some (.ins C dx (putF "way_by_name" (.ref d) (putF "ways" (.ref l) fs)))->Q .non H':=λkvs kf H' h1 h2 h3=>kf H' d h1 hd0 hdt h2 h3;generalize hF2:putF "way_by_name" (.ref d) (putF "ways" (.ref l) fs)=F2 at s2 t2 d2 lk lkP lkT lkO ⊢;generalize upd (upd H1 d (.dK [])) t (.ins C dx F2)=H2 at s2 t2 d2 ⊢;have kk:∀res,Yj false 5 (wayW kvsP) 0 [] (xs.zip rs)=res->(match res with
  |.inl (i,why)=>∀H1,Zj t H H1->Bad Cb (.str "ways") (.int i) why H1 E
  |.inr kvs=>∀H',Zj t H H'->H' d=some (.dK kvs)->H' t=some (.ins C dx F2)->Q .non H'):=λres e=>by
    rw[e]at k;cases res with
   |inl p=>exact k
   |inr kvs=>exact λH' h1 h2 h3=>hFin kvs k H' h1 h2 (by rw[hF2];exact h3)
  clear k;refine⟨_,rfl,l,xs,rfl,s2 _ _ hl htl,XY (J:=Iten l) xs.length (λi σ H'=>∃(kvs:List (Key×V))(v2 v3:Option V),σ=[some (.ref t),some (.ref l),v2,v3]/\Zj t H H'/\H' t=some (.ins C dx F2)/\H' d=some (.dK kvs)/\Yj false 5 (wayW kvsP) 0 [] (xs.zip rs)=Yj false 5 (wayW kvsP) i kvs ((xs.zip rs).drop i)/\kvs.length<=i) ⟨[],none,none,rfl,s2,t2,d2,rfl,Nat.le_refl _⟩ (λi σ H' hi p=>?_) (λσ H' p=>?_) (λi σ H' x H'' hi p yl=>?_) (λσ H' p=>?_)⟩
  ·obtain⟨kvs,v2,v3,rfl,sm,_⟩:=p;exact⟨xs,sm _ _ hl htl,hi⟩
  ·obtain⟨kvs,v2,v3,rfl,sm,_⟩:=p;exact⟨xs,sm _ _ hl htl,rfl⟩
  ·obtain⟨kvs,v2,v3,rfl,sm,tt,dd,hgo,hkl⟩:=p;obtain⟨Tt,xs',y,hT,e1,hy,rfl,rfl⟩:=yl;rw[sm _ _ hl htl]at e1;cases e1;have hi':i<rs.length:=by rw[<-hrows.1];exact hi
   have hr0:rs[i]?=some rs[i]:=List.getElem?_eq_getElem hi';have hzl:i<(xs.zip rs).length:=by rw[List.length_zip];omega
   have hyx:xs[i]=y:=by rw[List.getElem?_eq_getElem hi]at hy;exact Option.some.inj hy
   have hdrop:(xs.zip rs).drop i=(y,rs[i])::(xs.zip rs).drop (i+1):=by rw[List.drop_eq_getElem_cons hzl,List.getElem_zip,hyx]
   have hrow0:=hrows.2 i y rs[i] hy hr0;generalize rs[i]=r at hr0 hdrop hrow0;have sm3:Zj t H (upd H' Tt (.tup [.int i,y])):=λc o h hc=>by rw[Ze (Zf (sm c o h hc) hT)];exact sm c o h hc
   have t3:upd H' Tt (.tup [.int i,y]) t=some (.ins C dx F2):=by rw[Ze (Zf tt hT)];exact tt
   have d3:upd H' Tt (.tup [.int i,y]) d=some (.dK kvs):=by rw[Ze (Zf dd hT)];exact dd
   refine⟨Tt,_,rfl,SqT.of Zc,rfl,_,_,rfl,_,_,rfl,rfl,?_⟩;generalize upd H' Tt (.tup [.int i,y])=H3 at sm3 t3 d3 ⊢;have hrow3:Row H3 y r:=hrow0.sameB ht sm3;refine⟨_,rfl,_,rfl,_,rfl,t,C,dx,_,_,rfl,t3,Z.cl,nR,lk,"ways",5,y,r,d,kvs,rfl,by simp[G9],hrow3,d3,λH4 sm34=>⟨_,(GJ _ _ _ _).tru,?_⟩⟩;have sm4:Zj t H H4:=sm3.trans (Zj.of sm34);have t4:=sm34 _ _ t3;have d4:=sm34 _ _ d3;have eg:decide ((("ways":Str))="groups")=false:=by decide +kernel
   rw[eg];rw[hdrop]at hgo;by_cases hb:begR false 5 kvs r=.non
   ·rw[hb];refine iteF ?_;obtain⟨ys,n,rfl,hyl,hyn⟩:=JI hb;obtain⟨q,rfl,hq,hqx⟩:=hrow3;have hq4:=sm34 _ _ hq;have hnm:nameOf ys=n:=by unfold nameOf;rw[hyn]
    have hstep:=UH (why:=wayW kvsP) (i:=i) (x:=.ref q) (rs:=(xs.zip rs).drop (i+1)) hb;rw[hnm]at hstep;obtain⟨x0,x1,x2,x3,x4,rfl⟩:=len5 hyl;have hx0:x0=.str n:=hyn;subst hx0;have tb4:Tab H4 C t F2:=⟨⟨dx,t4⟩,lkO⟩;refine⟨_,rfl,_,rfl,t,q,.str n,x1,x2,x3,x4,F2,dP,kvsP,rfl,tb4,lkP,sm34 _ _ (sm3 _ _ hkP hdPt),hq4,λx hx=>(let ⟨T,th⟩:=hqx x hx;⟨T,th.same sm34⟩),?_⟩;by_cases hw:wayW kvsP [.str n,x1,x2,x3,x4]=.non
    ·refine⟨_,_,_,rfl,.inl ⟨hw,?_⟩⟩;refine⟨_,rfl,_,rfl,t,C,dx,_,_,rfl,t4,Z.cl,nR,lk,_,rfl,q,_,0,.str n,rfl,rfl,SqT.of hq4,at0 0 rfl,d,_,rfl,DPut.k (k:=Sum.inr n) d4 (Z4 (by omega)),?_⟩;refine⟨putK kvs (.inr n) (.ref q),_,_,rfl,λc o h hc=>?_,(by rw[Ze (Ne.symm hdt)];exact t4),Zc,?_,?_⟩
     ·rw[Ze (λz=>by rw[z,hd0]at h;cases h)];exact sm4 c o h hc
     ·rw[hgo,hstep,if_neg (λz=>z hw)]
     ·have:=Yw kvs (Sum.inr n) (V.ref q);omega
    ·refine⟨_,_,_,rfl,.inr ⟨hw,?_⟩⟩;exact kk (.inl (i,wayW kvsP [.str n,x1,x2,x3,x4])) (by rw[hgo,hstep,if_pos hw]) H4 sm4
   ·rw[decide_eq_true hb];refine iteT ?_;refine⟨_,_,_,rfl,.inr ⟨hb,?_⟩⟩;exact kk (.inl (i,begR false 5 kvs r)) (by rw[hgo,G6 hb]) H4 sm4
  ·obtain⟨kvs,v2,v3,rfl,sm,tt,dd,hgo,hkl⟩:=p;have hd':(xs.zip rs).drop xs.length=[]:=List.drop_eq_nil_iff.mpr (by rw[List.length_zip];omega);rw[hd',Yj]at hgo;exact kk (.inr kvs) hgo H' sm dd tt
end
noncomputable def Jm(kvs:List (Key×V))(n pp:Int)(ys:List V):V:=YJ kvs n pp (at_ ys 1) (at_ ys 2) (at_ ys 3)
noncomputable def Z9(ys:List V):Int:=match ys.getD 3 .non with
|.int i=>i
|_=>0
noncomputable def Yb(kvsP:List (Key×V))(nT:Int):Nat->Int->List (Key×V)->List (V×Option (List V))->Sum (Nat×V) (List (Key×V))
|_,_,kvs,[]=>.inr kvs
|i,pp,kvs,(x,r)::rs=>
  if begR true 4 kvs r≠.non then .inl (i,begR true 4 kvs r)else match r with
  |some ys=>if Jm kvsP nT pp ys≠.non then .inl (i,Jm kvsP nT pp ys)else Yb kvsP nT (i+1) (pp+Z9 ys) (putK kvs (.inr (nameOf ys)) x) rs
  |none=>.inl (i,.str "form")
section
variable {kvsP:List (Key×V)}{nT pp:Int}{i:Nat}{kvs:List (Key×V)}{x:V}{rs:List (V×Option (List V))}
theorem QR{r:Option (List V)}(h:begR true 4 kvs r≠.non):Yb kvsP nT i pp kvs ((x,r)::rs)=.inl (i,begR true 4 kvs r):=by unfold Yb;rw[if_pos h]
theorem Gk{ys:List V}(h:begR true 4 kvs (some ys)=.non):Yb kvsP nT i pp kvs ((x,some ys)::rs)=if Jm kvsP nT pp ys≠.non then .inl (i,Jm kvsP nT pp ys)else Yb kvsP nT (i+1) (pp+Z9 ys) (putK kvs (.inr (nameOf ys)) x) rs:=by
 conv=>lhs;unfold Yb
 rw[if_neg (λz=>z h)]
theorem SQ{n x1 x2 x3:V}(h:Jm kvsP nT pp [n,x1,x2,x3]=.non):∃i,x3=.int i:=by
 have h':YJ kvsP nT pp x1 x2 x3=.non:=h;unfold YJ at h';split at h'
 ·cases h'
 ·split at h'
  ·cases h'
  ·cases x3 with
  |int i=>exact⟨i,rfl⟩
  |_=>cases h'
end
section
variable {P:Program}{w:World}{K:PySem.W.Frag}{mg:Str->Option Value}{base:Heap}{C Cb:Addr}
def Ru(C Cb:Addr):Sp:=λvs H Q E=>∃(t l dx dP:Addr)(xs:List V)(rs:List (Option (List V)))(fs:List (Str×V))(kvsP:List (Key×V))(nT:Int),vs=[.ref t,.ref l]/\H t=some (.ins C dx fs)/\(∀g,g∉fields->fs.lookup g=none)/\fs.length<=20 /\fs.lookup ("room_by_place":Str)=some (.ref dP)/\H dP=some (.dK kvsP)/\fs.lookup ("turns":Str)=some (.int nT)/\H l=some (.tup xs)/\xs.length<=1000/\Ym H xs rs /\match Yb kvsP nT 0 0 [] (xs.zip rs)with
|.inl (i,why)=>∀H1,Zj t H H1->Bad Cb (.str "groups") (.int i) why H1 E
|.inr kvs=>∀H' d,Zj t H H'->H d=none->d≠t->H' d=some (.dK kvs)->H' t=some (.ins C dx (putF "group_by_name" (.ref d) (putF "groups" (.ref l) fs)))->Q .non H'
theorem JM:FnScope ["self","groups","people","at","row","why"] ["self","groups"] (Zg T.m_Table_take_groups):=⟨rfl,rfl,rfl,by decide +kernel,rfl,by decide +kernel,by decide +kernel⟩
theorem To(Z:TCl K C)(he:mg "enumerate"=none)(D:DfM K C "take_groups" "Table.take_groups" T.m_Table_take_groups ["self","groups"])(CB:Can P w K mg base 3 "wrong_beginning" ["part","row","names_ahead"] Jw)(CW:Can P w K mg base 3 "wrong_group" ["table","row","people_ahead"] (RA C))(CR:CanX P w K mg base 3 "refuse_row" ["part","at","why"] (Jx Cb)):CanM P w K mg base (CX1 P w) 4 C "take_groups" ["self","groups"] (Ru C Cb):=by
 refine D.canX JM (λvs H Q E h=>?_) λf cdv A outer s H vs Q E hr h=>?_
 ·obtain⟨t,l,dx,dP,xs,rs,fs,kvsP,nT,rfl,_⟩:=h;rfl
 ·obtain⟨t,l,dx,dP,xs,rs,fs,kvsP,nT,rfl,ht,honly,hfs,hdP,hkP,hnT,hl,hlen,hrows,k⟩:=h;refine⟨_,Zd (Ji (pv 0) (pv 1) rfl) (Zd (Ji (pv 0) JD rfl) (Zd (Yn (i:=2) JM.nd rfl (Or.inl rfl) Zi) (Zk (Y3 PassesOwn.leaving rfl (VI rfl he (Zh (pv 1) Zb) GI) (YS rfl (Zp (Zo (i:=3) JM.nd rfl (Or.inl rfl)) (Zp (Zo (i:=4) JM.nd rfl (Or.inl rfl)) ZV))) (Zd (Yn (i:=5) JM.nd rfl (Or.inl rfl) (Nv (ZS CB hr rfl (Zh Zn (Zh (pv 4) (Zh (Z8 (pv 0) rfl) Zb)))) (Y4 (ZS CW hr rfl (Zh (pv 0) (Zh (pv 4) (Zh (pv 2) Zb))))))) (Zd (ZU (XM CR Xe hr rfl (Zh Zn (Zh (pv 3) (Zh (pv 5) Zb))))) (Zd (VH (YO hr) (Z8 (pv 0) rfl) (Z2 ZY (pv 4) Zi (λ_ _=>rfl)) (pv 4) rfl) (Zk (Yn (i:=2) JM.nd rfl (Or.inl rfl) (Zv Yp (pv 2) (Z2 ZY (pv 4) Zi (λ_ _=>rfl)))))))))))),?_⟩;have nP:Yl K C "groups":=Z.na _ (by simp[fields]);have nR:Yl K C "group_by_name":=Z.na _ (by simp[fields]);have htl:l≠t:=ne_of hl ht (by intro z;cases z);have hdPt:dP≠t:=ne_of hkP ht (by intro z;cases z);have fl1:(putF "groups" (.ref l) fs).length<=21:=by have:=Yi "groups" (V.ref l) fs;omega
  refine⟨_,rfl,_,rfl,t,C,dx,_,rfl,ht,Z.cl,nP,by omega,?_⟩;have s1:Zj t H (upd H t (.ins C dx (putF "groups" (.ref l) fs))):=(Zj.refl t H).upd;have t1:upd H t (.ins C dx (putF "groups" (.ref l) fs)) t=some (.ins C dx (putF "groups" (.ref l) fs)):=Zc;have fr1:∀c,upd H t (.ins C dx (putF "groups" (.ref l) fs)) c=none->H c=none/\c≠t:=λc e=>by
   by_cases h:c=t
   ·rw[h,Zc]at e;cases e
   ·rw[Ze h]at e;exact⟨e,h⟩
  generalize upd H t (.ins C dx (putF "groups" (.ref l) fs))=H1 at s1 t1 fr1 ⊢;refine λd hd=>⟨_,rfl,t,C,dx,_,rfl,(by rw[Ze (Zf t1 hd)];exact t1),Z.cl,nR,by omega,?_⟩;obtain⟨hd0,hdt⟩:=fr1 d hd;have s2:Zj t H (upd (upd H1 d (.dK [])) t (.ins C dx (putF "group_by_name" (.ref d) (putF "groups" (.ref l) fs)))):=λc o h hc=>by rw[Ze hc,Ze (λz=>by rw[z,hd0]at h;cases h)];exact s1 c o h hc
  have t2:upd (upd H1 d (.dK [])) t (.ins C dx (putF "group_by_name" (.ref d) (putF "groups" (.ref l) fs))) t=some (.ins C dx (putF "group_by_name" (.ref d) (putF "groups" (.ref l) fs))):=Zc;have d2:upd (upd H1 d (.dK [])) t (.ins C dx (putF "group_by_name" (.ref d) (putF "groups" (.ref l) fs))) d=some (.dK []):=by rw[Ze hdt,Zc]
  have lk:(putF "group_by_name" (.ref d) (putF "groups" (.ref l) fs)).lookup ("group_by_name":Str)=some (.ref d):=by rw[Zl,if_pos rfl]
  have lkP:(putF "group_by_name" (.ref d) (putF "groups" (.ref l) fs)).lookup ("room_by_place":Str)=some (.ref dP):=by rw[Zl,if_neg (by decide +kernel),Zl,if_neg (by decide +kernel)];exact hdP
  have lkT:(putF "group_by_name" (.ref d) (putF "groups" (.ref l) fs)).lookup ("turns":Str)=some (.int nT):=by rw[Zl,if_neg (by decide +kernel),Zl,if_neg (by decide +kernel)];exact hnT
  have lkO:∀g,g∉fields->(putF "group_by_name" (.ref d) (putF "groups" (.ref l) fs)).lookup g=none:=λg hg=>by rw[Zl,if_neg (λz=>hg (by rw[z];simp[fields])),Zl,if_neg (λz=>hg (by rw[z];simp[fields]))];exact honly g hg
  have hFin:∀kvs,(∀H' d,Zj t H H'->H d=none->d≠t->H' d=some (.dK kvs)->H' t=some (.ins C dx (putF "group_by_name" (.ref d) (putF "groups" (.ref l) fs)))->Q .non H')->∀H',Zj t H H'->H' d=some (.dK kvs)->H' t=some (.ins C dx (putF "group_by_name" (.ref d) (putF "groups" (.ref l) fs)))->Q .non H':=λkvs kf H' h1 h2 h3=>kf H' d h1 hd0 hdt h2 h3;generalize hF2:putF "group_by_name" (.ref d) (putF "groups" (.ref l) fs)=F2 at s2 t2 d2 lk lkP lkT lkO ⊢;generalize upd (upd H1 d (.dK [])) t (.ins C dx F2)=H2 at s2 t2 d2 ⊢;have kk:∀res,Yb kvsP nT 0 0 [] (xs.zip rs)=res->(match res with
  |.inl (i,why)=>∀H1,Zj t H H1->Bad Cb (.str "groups") (.int i) why H1 E
  |.inr kvs=>∀H',Zj t H H'->H' d=some (.dK kvs)->H' t=some (.ins C dx F2)->Q .non H'):=λres e=>by
    rw[e]at k;cases res with
   |inl p=>exact k
   |inr kvs=>exact λH' h1 h2 h3=>hFin kvs k H' h1 h2 (by rw[hF2];exact h3)
  clear k;refine⟨_,rfl,l,xs,rfl,s2 _ _ hl htl,XY (J:=Iten l) xs.length (λi σ H'=>∃(kvs:List (Key×V))(pp:Int)(v3 v4 v5:Option V),σ=[some (.ref t),some (.ref l),some (.int pp),v3,v4,v5]/\Zj t H H'/\H' t=some (.ins C dx F2)/\H' d=some (.dK kvs)/\Yb kvsP nT 0 0 [] (xs.zip rs)=Yb kvsP nT i pp kvs ((xs.zip rs).drop i)/\kvs.length<=i) ⟨[],0,none,none,none,rfl,s2,t2,d2,rfl,Nat.le_refl _⟩ (λi σ H' hi p=>?_) (λσ H' p=>?_) (λi σ H' x H'' hi p yl=>?_) (λσ H' p=>?_)⟩
  ·obtain⟨kvs,pp,v3,v4,v5,rfl,sm,_⟩:=p;exact⟨xs,sm _ _ hl htl,hi⟩
  ·obtain⟨kvs,pp,v3,v4,v5,rfl,sm,_⟩:=p;exact⟨xs,sm _ _ hl htl,rfl⟩
  ·obtain⟨kvs,pp,v3,v4,v5,rfl,sm,tt,dd,hgo,hkl⟩:=p;obtain⟨Tt,xs',y,hT,e1,hy,rfl,rfl⟩:=yl;rw[sm _ _ hl htl]at e1;cases e1;have hi':i<rs.length:=by rw[<-hrows.1];exact hi
   have hr0:rs[i]?=some rs[i]:=List.getElem?_eq_getElem hi';have hzl:i<(xs.zip rs).length:=by rw[List.length_zip];omega
   have hyx:xs[i]=y:=by rw[List.getElem?_eq_getElem hi]at hy;exact Option.some.inj hy
   have hdrop:(xs.zip rs).drop i=(y,rs[i])::(xs.zip rs).drop (i+1):=by rw[List.drop_eq_getElem_cons hzl,List.getElem_zip,hyx]
   have hrow0:=hrows.2 i y rs[i] hy hr0;generalize rs[i]=r at hr0 hdrop hrow0;have sm3:Zj t H (upd H' Tt (.tup [.int i,y])):=λc o h hc=>by rw[Ze (Zf (sm c o h hc) hT)];exact sm c o h hc
   have t3:upd H' Tt (.tup [.int i,y]) t=some (.ins C dx F2):=by rw[Ze (Zf tt hT)];exact tt
   have d3:upd H' Tt (.tup [.int i,y]) d=some (.dK kvs):=by rw[Ze (Zf dd hT)];exact dd
   refine⟨Tt,_,rfl,SqT.of Zc,rfl,_,_,rfl,_,_,rfl,rfl,?_⟩;generalize upd H' Tt (.tup [.int i,y])=H3 at sm3 t3 d3 ⊢;have hrow3:Row H3 y r:=hrow0.sameB ht sm3;refine⟨_,rfl,_,rfl,t,C,dx,_,_,rfl,t3,Z.cl,nR,lk,"groups",4,y,r,d,kvs,rfl,by simp[G9],hrow3,d3,λH4 sm34=>⟨_,(GJ _ _ _ _).tru,?_⟩⟩;have sm4:Zj t H H4:=sm3.trans (Zj.of sm34);have t4:=sm34 _ _ t3;have d4:=sm34 _ _ d3;have eg:decide ((("groups":Str))="groups")=true:=by decide +kernel
   rw[eg];rw[hdrop]at hgo;by_cases hb:begR true 4 kvs r=.non
   ·rw[hb];refine iteF ?_;obtain⟨ys,n,rfl,hyl,hyn⟩:=JI hb;obtain⟨q,rfl,hq,hqx⟩:=hrow3;have hq4:=sm34 _ _ hq;have hnm:nameOf ys=n:=by unfold nameOf;rw[hyn]
    have hstep:=Gk (kvsP:=kvsP) (nT:=nT) (pp:=pp) (i:=i) (x:=.ref q) (rs:=(xs.zip rs).drop (i+1)) hb;rw[hnm]at hstep;obtain⟨x0,x1,x2,x3,rfl⟩:=len4 hyl;have hx0:x0=.str n:=hyn;subst hx0;have tb4:Tab H4 C t F2:=⟨⟨dx,t4⟩,lkO⟩;refine⟨_,rfl,_,rfl,_,rfl,t,q,.str n,x1,x2,x3,F2,dP,kvsP,nT,pp,rfl,tb4,lkP,lkT,sm34 _ _ (sm3 _ _ hkP hdPt),hq4,λx hx=>(let ⟨T,th⟩:=hqx x hx;⟨T,th.same sm34⟩),?_⟩;refine⟨_,rfl,_,rfl,?_⟩;by_cases hw:Jm kvsP nT pp [.str n,x1,x2,x3]=.non
    ·refine⟨_,_,_,rfl,.inl ⟨hw,?_⟩⟩;obtain⟨mm,rfl⟩:=SQ (n:=.str n) hw;refine⟨_,rfl,_,rfl,t,C,dx,_,_,rfl,t4,Z.cl,nR,lk,_,rfl,q,_,0,.str n,rfl,rfl,SqT.of hq4,at0 0 rfl,d,_,rfl,DPut.k (k:=Sum.inr n) d4 (Z4 (by omega)),?_⟩;have hqd:q≠d:=ne_of hq4 d4 (by intro z;cases z);refine⟨_,rfl,_,rfl,q,_,3,.int mm,rfl,rfl,SqT.of (by rw[Ze hqd];exact hq4),at0 3 rfl,_,_,rfl,rfl,?_⟩;refine⟨putK kvs (.inr n) (.ref q),pp+mm,_,_,_,rfl,λc o h hc=>?_,(by rw[Ze (Ne.symm hdt)];exact t4),Zc,?_,?_⟩
     ·rw[Ze (λz=>by rw[z,hd0]at h;cases h)];exact sm4 c o h hc
     ·rw[hgo,hstep,if_neg (λz=>z hw)];rfl
     ·have:=Yw kvs (Sum.inr n) (V.ref q);omega
    ·refine⟨_,_,_,rfl,.inr ⟨hw,?_⟩⟩;exact kk (.inl (i,Jm kvsP nT pp [.str n,x1,x2,x3])) (by rw[hgo,hstep,if_pos hw]) H4 sm4
   ·rw[decide_eq_true hb];refine iteT ?_;refine⟨_,rfl,_,rfl,?_⟩;refine⟨_,_,_,rfl,.inr ⟨hb,?_⟩⟩;exact kk (.inl (i,begR true 4 kvs r)) (by rw[hgo,QR hb]) H4 sm4
  ·obtain⟨kvs,pp,v3,v4,v5,rfl,sm,tt,dd,hgo,hkl⟩:=p;have hd':(xs.zip rs).drop xs.length=[]:=List.drop_eq_nil_iff.mpr (by rw[List.length_zip];omega);rw[hd',Yb]at hgo;exact kk (.inr kvs) hgo H' sm dd tt
end
noncomputable abbrev PR:=Option (List V×List (Option (List V)))
def Xf(H:Hp)(v:V)(r:PR):Prop:=match r with
|none=>Part H v none
|some (xs,rs)=>Part H v (some xs)/\Ym H xs rs
theorem Ym.sameB{H H':Hp}{t C dx:Addr}{fs:List (Str×V)}(ht:H t=some (.ins C dx fs))(s:Zj t H H'){xs:List V}{rs:List (Option (List V))}(h:Ym H xs rs):Ym H' xs rs:=⟨h.1,λi x r a b=>(h.2 i x r a b).sameB ht s⟩
theorem Xf.sameB{H H':Hp}{t C dx:Addr}{fs:List (Str×V)}(ht:H t=some (.ins C dx fs))(s:Zj t H H'){v:V}{r:PR}(h:Xf H v r):Xf H' v r:=by
 cases r with
|none=>obtain⟨T,th,a⟩:=h;exact⟨T,th.sameB ht s,a⟩
|some p=>
  obtain⟨xs,rs⟩:=p;obtain⟨⟨p,rfl,hp⟩,hr⟩:=h;refine⟨⟨p,rfl,?_⟩,hr.sameB ht s⟩;rcases hp with hp|hp
  ·exact .inl (s _ _ hp (ne_of hp ht (by intro z;cases z)))
  ·exact .inr (s _ _ hp (ne_of hp ht (by intro z;cases z)))
noncomputable def YB(n:Nat)(go:List V->List (Option (List V))->Sum (Nat×V) (List (Key×V)))(r:PR):Sum (V×V) (List (Key×V)):=match r with
|none=>.inl (.non,.str "form")
|some (xs,rs)=>if xs.length>n then .inl (.int n,.str "many")else match go xs rs with
 |.inl (i,why)=>.inl (.int i,why)
 |.inr kvs=>.inr kvs
noncomputable def goP(_:List V)(rs:List (Option (List V))):Sum (Nat×V) (List (Key×V)):=Z7 0 [] rs
noncomputable def goR(k1:List (Key×V))(n:Int)(xs:List V)(rs:List (Option (List V))):Sum (Nat×V) (List (Key×V)):=Yj false 6 (JA k1 n) 0 [] (xs.zip rs)
noncomputable def goW(k1:List (Key×V))(xs:List V)(rs:List (Option (List V))):Sum (Nat×V) (List (Key×V)):=Yj false 5 (wayW k1) 0 [] (xs.zip rs)
noncomputable def goG(k1:List (Key×V))(n:Int)(xs:List V)(rs:List (Option (List V))):Sum (Nat×V) (List (Key×V)):=Yb k1 n 0 0 [] (xs.zip rs)
noncomputable abbrev Ks:=List (Key×V)×List (Key×V)×List (Key×V)×List (Key×V)
noncomputable def named(z:Str)(r:Sum (V×V) (List (Key×V)))(k:List (Key×V)->Sum (V×V×V) Ks):Sum (V×V×V) Ks:=match r with
|.inl (a,y)=>.inl (.str z,a,y)
|.inr kvs=>k kvs
noncomputable def Ge(vT:V)(r1 r2 r3 r4:PR):Sum (V×V×V) Ks:=match vT with
|.int n=>if(decide (1<=n)&&decide (n<=50))=true then named "places" (YB 14 goP r1) λk1=>named "rides" (YB 80 (goR k1 n) r2) λk2=>named "ways" (YB 40 (goW k1) r3) λk3=>named "groups" (YB 300 (goG k1 n) r4) λk4=>.inr (k1,k2,k3,k4)else .inl (.str "turns",.non,.str "number")
|_=>.inl (.str "turns",.non,.str "number")
def ZZ(H:Hp)(fs:List (Str×V))(f g:Str)(r:PR)(k:List (Key×V)):Prop:=∃l d xs rs,fs.lookup f=some (.ref l)/\fs.lookup g=some (.ref d)/\r=some (xs,rs)/\H l=some (.tup xs)/\H d=some (.dK k)
structure TabOf(H:Hp)(C t:Addr)(fs:List (Str×V))(n:Int)(r1 r2 r3 r4:PR)(k:Ks):Prop where
 tab:Tab H C t fs
 turns:fs.lookup ("turns":Str)=some (.int n)
 p:ZZ H fs "places" "room_by_place" r1 k.1
 r:ZZ H fs "rides" "ride_by_name" r2 k.2.1
 w:ZZ H fs "ways" "way_by_name" r3 k.2.2.1
 g:ZZ H fs "groups" "group_by_name" r4 k.2.2.2
def Na(C Cb:Addr):Sp:=λvs H Q E=>∃(t dx:Addr)(vT:V)(T:String)(v1 v2 v3 v4:V)(r1 r2 r3 r4:PR),vs=[.ref t,vT,v1,v2,v3,v4]/\H t=some (.ins C dx [])/\Th H vT T/\Xf H v1 r1/\Xf H v2 r2/\Xf H v3 r3/\Xf H v4 r4 /\match Ge vT r1 r2 r3 r4 with
|.inl (p,a,y)=>∀H1,Zj t H H1->Bad Cb p a y H1 E
|.inr k=>∀H' fs n,Zj t H H'->vT=.int n->TabOf H' C t fs n r1 r2 r3 r4 k->Q .non H'
section
variable {C Cb:Addr}
structure Mid(H Hc:Hp)(C t dx:Addr)(fs:List (Str×V))(n:Int)(m:Nat):Prop where
 sm:Zj t H Hc
 at_:Hc t=some (.ins C dx fs)
 only:∀g,g∉fields->fs.lookup g=none
 len:fs.length<=m
 turns:fs.lookup ("turns":Str)=some (.int n)
theorem Mid.same{H Hc H1:Hp}{t dx:Addr}{fs:List (Str×V)}{n:Int}{m:Nat}(M:Mid H Hc C t dx fs n m)(s:Same Hc H1):Mid H H1 C t dx fs n m:=⟨M.sm.trans (Zj.of s),s _ _ M.at_,M.only,M.len,M.turns⟩
theorem Mid.next{H Hc H1:Hp}{t dx l d:Addr}{fs:List (Str×V)}{n:Int}{m:Nat}{f g:Str}(M:Mid H Hc C t dx fs n m)(s:Zj t Hc H1)(h:H1 t=some (.ins C dx (putF g (.ref d) (putF f (.ref l) fs))))(hf:f∈fields)(hg:g∈fields)(nf:("turns":Str)≠f)(ng:("turns":Str)≠g):Mid H H1 C t dx (putF g (.ref d) (putF f (.ref l) fs)) n (m+2):=by
 refine⟨M.sm.trans s,h,λx hx=>?_,?_,?_⟩
 ·rw[Zl,if_neg (λz=>hx (by rw[z];exact hg)),Zl,if_neg (λz=>hx (by rw[z];exact hf))];exact M.only x hx
 ·have h1:=Yi f (V.ref l) fs;have h2:=Yi g (V.ref d) (putF f (V.ref l) fs);have:=M.len;omega
 ·rw[Zl,if_neg ng,Zl,if_neg nf];exact M.turns
theorem ZZ.sameB{H H':Hp}{t C dx:Addr}{fs0 fs:List (Str×V)}{f g:Str}{r:PR}{k:List (Key×V)}(ht:H t=some (.ins C dx fs0))(s:Zj t H H')(h:ZZ H fs f g r k):ZZ H' fs f g r k:=by obtain⟨l,d,xs,rs,a1,a2,a3,a4,a5⟩:=h;exact⟨l,d,xs,rs,a1,a2,a3,s _ _ a4 (ne_of a4 ht (by intro z;cases z)),s _ _ a5 (ne_of a5 ht (by intro z;cases z))⟩
theorem ZZ.put{H:Hp}{fs:List (Str×V)}{f g f' g':Str}{x y:V}{r:PR}{k:List (Key×V)}(h:ZZ H fs f g r k)(n1:f≠f')(n2:f≠g')(n3:g≠f')(n4:g≠g'):ZZ H (putF g' y (putF f' x fs)) f g r k:=by obtain⟨l,d,xs,rs,a1,a2,a3⟩:=h;exact⟨l,d,xs,rs,by rw[Zl,if_neg n2,Zl,if_neg n1];exact a1,by rw[Zl,if_neg n4,Zl,if_neg n3];exact a2,a3⟩
theorem ZZ.new{H:Hp}{fs:List (Str×V)}{f g:Str}{l d:Addr}{xs:List V}{rs:List (Option (List V))}{k:List (Key×V)}(h1:H l=some (.tup xs))(h2:H d=some (.dK k))(n:f≠g):ZZ H (putF g (.ref d) (putF f (.ref l) fs)) f g (some (xs,rs)) k:=⟨l,d,xs,rs,by rw[Zl,if_neg n,Zl,if_pos rfl],by rw[Zl,if_pos rfl],rfl,h1,h2⟩
theorem JO{E:XK}{z:Str}{n:Nat}(hz:(z,n)∈Gj){t dx:Addr}{fs:List (Str×V)}{Hc:Hp}{v:V}{r:PR}{go:List V->List (Option (List V))->Sum (Nat×V) (List (Key×V))}{Kq:VK}(ht:Hc t=some (.ins C dx fs))(hp:Xf Hc v r)(hbad:∀a y,YB n go r=.inl (a,y)->∀H1,Zj t Hc H1->Bad Cb (.str z) a y H1 E)(hgo:∀xs rs H1 l,r=some (xs,rs)->xs.length<=1000->Same Hc H1->H1 l=some (.tup xs)->Ym H1 xs rs->(∀i why,go xs rs=.inl (i,why)->∀H2,Zj t Hc H2->Bad Cb (.str z) (.int i) why H2 E)->(∀kvs,go xs rs=.inr kvs->YB n go r=.inr kvs)->Kq (.ref l) H1):Qw Cb [.str z,v] Hc Kq E:=by
 have hn:n<=300:=by simp only[Gj,List.mem_cons,Prod.mk.injEq,List.not_mem_nil,or_false]at hz;omega
 cases r with
|none=>exact⟨z,n,v,none,rfl,hz,hp,λH1 s=>hbad _ _ rfl H1 (Zj.of s)⟩
|some q=>
  obtain⟨xs,rs⟩:=q;obtain⟨hp,hr⟩:=hp;refine⟨z,n,v,some xs,rfl,hz,hp,?_⟩;dsimp only;by_cases hl:xs.length>n
  ·rw[if_pos hl];exact λH1 s=>hbad _ _ (by show(if xs.length>n then _ else _)=_;rw[if_pos hl]) H1 (Zj.of s)
  ·rw[if_neg hl];refine λH1 l s h=>hgo xs rs H1 l rfl (by omega) s h (hr.sameB ht (Zj.of s)) (λi why e=>?_) (λkvs e=>?_)
   ·exact hbad _ _ (by show(if xs.length>n then _ else _)=_;rw[if_neg hl,e])
   ·show(if xs.length>n then _ else _)=_;rw[if_neg hl,e]
end
section
variable {P:Program}{w:World}{K:PySem.W.Frag}{mg:Str->Option Value}{base:Heap}{C Cb:Addr}
theorem K4:FnScope ["self","turns","places","rides","ways","groups"] ["self","turns","places","rides","ways","groups"] (Zg T.m_Table___init__):=⟨rfl,rfl,rfl,by decide +kernel,rfl,by decide +kernel,by decide +kernel⟩
theorem Q9(G:Txt K mg)(Z:TCl K C)(B:Err P w K mg base "BadTable" ["part","at","why"] Cb)(CI:Can P w K mg base 6 "is_within" ["thing","low","high"] K1.X8)(CRo:CanX P w K mg base 6 "rows_of" ["part","rows"] (Qw Cb))(CP:CanM P w K mg base (CX1 P w) 6 C "take_places" ["self","places"] (Rt C Cb))(CR:CanM P w K mg base (CX1 P w) 6 C "take_rides" ["self","rides"] (Rr C Cb))(CW:CanM P w K mg base (CX1 P w) 6 C "take_ways" ["self","ways"] (Rq C Cb))(CG:CanM P w K mg base (CX1 P w) 6 C "take_groups" ["self","groups"] (Ru C Cb)){f:Addr}{cdv:Value}{A:Around}{outer:List Env}{s:Shared}{H:Hp}{vs:List V}{Q:VK}{E:XK}(hr:Room 6 (A.deeper (envOfC "Table.__init__" (Zg T.m_Table___init__) s.heap.objs.size f cdv)))(h:Na C Cb vs H Q E):∃t,PSs (cxOf (CX1 P w) P w K mg base ["self","turns","places","rides","ways","groups"] "Table.__init__" (Zg T.m_Table___init__) f cdv A outer s H E) (ZX T.m_Table___init__) t/\t {nx:=λ_ H'=>Q .non H',rt:=Q} (start ["self","turns","places","rides","ways","groups"] vs) H:=by
 obtain⟨t,dx,vT,T',v1,v2,v3,v4,r1,r2,r3,r4,rfl,ht,thT,p1,p2,p3,p4,k⟩:=h;obtain⟨t1,h1⟩:=G.turns;refine⟨_,Zd (ZP (Ye (Z0 (ZS CI hr rfl (Zh (pv 1) (Zh Zi (Zh (ZW (v:=V.int 50) rfl h1 ⟨t1,rfl⟩) Zb)))))) (Zk (JN (E:=E) B Xe rfl (hr.mono (by omega)) rfl (Zh Zn (Zh ZR (Zh Zn Zb))))) Zx) (Zd (Ji (pv 0) (pv 1) rfl) (Zd (ZU (Xh CP Z.cl Xe hr (pv 0) (Zh (XM CRo Xe hr rfl (Zh Zn (Zh (pv 2) Zb))) Zb))) (Zd (ZU (Xh CR Z.cl Xe hr (pv 0) (Zh (XM CRo Xe hr rfl (Zh Zn (Zh (pv 3) Zb))) Zb))) (Zd (ZU (Xh CW Z.cl Xe hr (pv 0) (Zh (XM CRo Xe hr rfl (Zh Zn (Zh (pv 4) Zb))) Zb))) (Zk (ZU (Xh CG Z.cl Xe hr (pv 0) (Zh (XM CRo Xe hr rfl (Zh Zn (Zh (pv 5) Zb))) Zb)))))))),?_⟩;have kk:∀res,Ge vT r1 r2 r3 r4=res->(match res with
 |.inl (p,a,y)=>∀H1,Zj t H H1->Bad Cb p a y H1 E
 |.inr k=>∀H' fs n,Zj t H H'->vT=.int n->TabOf H' C t fs n r1 r2 r3 r4 k->Q .non H'):=λres e=>by rw[<-e];exact k
 clear k;refine⟨_,rfl,vT,T',1,50,rfl,thT,_,rfl,?_⟩;by_cases hw:K1.Zt vT 1 50=true
 ·rw[hw];refine iteF ?_;obtain⟨n,rfl⟩:∃n,vT=.int n:=by
   cases vT with
  |int n=>exact⟨n,rfl⟩
  |_=>cases hw
  have hw':(decide (1<=n)&&decide (n<=50))=true:=hw;have ek:Ge (.int n) r1 r2 r3 r4=named "places" (YB 14 goP r1) λk1=>named "rides" (YB 80 (goR k1 n) r2) λk2=>named "ways" (YB 40 (goW k1) r3) λk3=>named "groups" (YB 300 (goG k1 n) r4) λk4=>.inr (k1,k2,k3,k4):=by show(if(decide (1<=n)&&decide (n<=50))=true then _ else _)=_;rw[if_pos hw']
  rw[ek]at kk;refine⟨_,rfl,_,rfl,t,C,dx,_,rfl,ht,Z.cl,Z.na _ (by simp[fields]),by decide,?_⟩;have M0:Mid H (upd H t (.ins C dx (putF "turns" (.int n) []))) C t dx (putF "turns" (.int n) []) n 1:=⟨(Zj.refl t H).upd,Zc,λg hg=>by rw[Zl,if_neg (λz=>hg (by rw[z];simp[fields]))];rfl,Nat.le_refl _,by rw[Zl,if_pos rfl]⟩;generalize upd H t (.ins C dx (putF "turns" (.int n) []))=H0 at M0 ⊢;generalize putF "turns" (.int n) []=F0 at M0;refine⟨_,rfl,t,dx,_,rfl,M0.at_,M0.only _ (by decide +kernel),?_⟩;refine⟨_,rfl,?_⟩;dsimp only[tNil];refine JO (z:="places") (n:=14) (go:=goP) (by simp[Gj]) M0.at_ (p1.sameB ht M0.sm) (λa y e H1 s1=>?_) (λxs rs H1 l er hl s1 hx hrs hb hk=>?_)
  ·rw[e]at kk;exact kk _ rfl H1 (M0.sm.trans s1)
  have M1:=M0.same s1;refine⟨t,l,dx,xs,rs,F0,rfl,M1.at_,M1.only,by have:=M1.len;omega,hx,hl,hrs,?_⟩;have s01:Zj t H0 H1:=Zj.of s1;cases e1:Z7 0 [] rs with
 |inl q=>exact λH2 s2=>hb q.1 q.2 e1 H2 (s01.trans s2)
 |inr k1=>
  rw[hk k1 e1]at kk;dsimp only[named]at kk;intro H2 d s2 hd0 hdt hd2 ht2;have A1:ZZ H2 (putF "room_by_place" (.ref d) (putF "places" (.ref l) F0)) "places" "room_by_place" r1 k1:=by rw[er];exact ZZ.new (s2 _ _ hx (ne_of hx M1.at_ (by intro z;cases z))) hd2 (by decide +kernel)
  have M2:=M1.next s2 ht2 (by simp[fields]) (by simp[fields]) (by decide +kernel) (by decide +kernel);have lkP:(putF "room_by_place" (.ref d) (putF "places" (.ref l) F0)).lookup ("room_by_place":Str)=some (.ref d):=by rw[Zl,if_pos rfl]
  generalize putF "room_by_place" (.ref d) (putF "places" (.ref l) F0)=F2 at A1 M2 lkP;clear hk hb hrs hx ht2 s2 hd0 hl er e1 M1 s01 s1 M0 ek;refine⟨_,rfl,t,dx,_,rfl,M2.at_,M2.only _ (by decide +kernel),?_⟩;refine⟨_,rfl,?_⟩;dsimp only[tNil];refine JO (z:="rides") (n:=80) (go:=goR k1 n) (by simp[Gj]) M2.at_ (p2.sameB ht M2.sm) (λa y e Hb sb=>?_) (λxs rs H3 l er hl s3 hx hrs hb hk=>?_)
  ·rw[e]at kk;exact kk _ rfl Hb (M2.sm.trans sb)
  have M3:=M2.same s3;refine⟨t,l,dx,d,xs,rs,F2,k1,n,rfl,M3.at_,M3.only,by have:=M3.len;omega,lkP,s3 _ _ hd2,M3.turns,hx,hl,hrs,?_⟩;have sx:Zj t H2 H3:=Zj.of s3;cases e1:Yj false 6 (JA k1 n) 0 [] (xs.zip rs)with
 |inl q=>exact λHb sb=>hb q.1 q.2 e1 Hb (sx.trans sb)
 |inr k2=>
  rw[hk k2 e1]at kk;dsimp only at kk;intro H4 d2 s4 hd0 hdm hdk ht4;have sy:Zj t H2 H4:=sx.trans s4;have A2:ZZ H4 (putF "ride_by_name" (.ref d2) (putF "rides" (.ref l) F2)) "rides" "ride_by_name" r2 k2:=by rw[er];exact ZZ.new (s4 _ _ hx (ne_of hx M3.at_ (by intro z;cases z))) hdk (by decide +kernel)
  have A1:=(A1.sameB M2.at_ sy).put (f':="rides") (g':="ride_by_name") (x:=.ref l) (y:=.ref d2) (by decide +kernel) (by decide +kernel) (by decide +kernel) (by decide +kernel);have hd4:H4 d=some (.dK k1):=sy _ _ hd2 hdt;have M4:=M3.next s4 ht4 (by simp[fields]) (by simp[fields]) (by decide +kernel) (by decide +kernel);have lkP:(putF "ride_by_name" (.ref d2) (putF "rides" (.ref l) F2)).lookup ("room_by_place":Str)=some (.ref d):=by rw[Zl,if_neg (by decide +kernel),Zl,if_neg (by decide +kernel)];exact lkP
  generalize putF "ride_by_name" (.ref d2) (putF "rides" (.ref l) F2)=F4 at A1 A2 M4 lkP;clear hk hb hrs hx ht4 s4 hd0 hl er e1 M3 sx sy s3 M2 hdk;refine⟨_,rfl,t,dx,_,rfl,M4.at_,M4.only _ (by decide +kernel),?_⟩;refine⟨_,rfl,?_⟩;dsimp only[tNil];refine JO (z:="ways") (n:=40) (go:=goW k1) (by simp[Gj]) M4.at_ (p3.sameB ht M4.sm) (λa y e Hb sb=>?_) (λxs rs H5 l er hl s5 hx hrs hb hk=>?_)
  ·rw[e]at kk;exact kk _ rfl Hb (M4.sm.trans sb)
  have M5:=M4.same s5;refine⟨t,l,dx,d,xs,rs,F4,k1,n,rfl,M5.at_,M5.only,by have:=M5.len;omega,lkP,s5 _ _ hd4,M5.turns,hx,hl,hrs,?_⟩;have sx:Zj t H4 H5:=Zj.of s5;cases e1:Yj false 5 (wayW k1) 0 [] (xs.zip rs)with
 |inl q=>exact λHb sb=>hb q.1 q.2 e1 Hb (sx.trans sb)
 |inr k3=>
  rw[hk k3 e1]at kk;dsimp only at kk;intro H6 d3 s6 hd0 hdm hdk ht6;have sy:Zj t H4 H6:=sx.trans s6;have A3:ZZ H6 (putF "way_by_name" (.ref d3) (putF "ways" (.ref l) F4)) "ways" "way_by_name" r3 k3:=by rw[er];exact ZZ.new (s6 _ _ hx (ne_of hx M5.at_ (by intro z;cases z))) hdk (by decide +kernel)
  have A1:=(A1.sameB M4.at_ sy).put (f':="ways") (g':="way_by_name") (x:=.ref l) (y:=.ref d3) (by decide +kernel) (by decide +kernel) (by decide +kernel) (by decide +kernel);have A2:=(A2.sameB M4.at_ sy).put (f':="ways") (g':="way_by_name") (x:=.ref l) (y:=.ref d3) (by decide +kernel) (by decide +kernel) (by decide +kernel) (by decide +kernel);have hd6:H6 d=some (.dK k1):=sy _ _ hd4 hdt;have M6:=M5.next s6 ht6 (by simp[fields]) (by simp[fields]) (by decide +kernel) (by decide +kernel);have lkP:(putF "way_by_name" (.ref d3) (putF "ways" (.ref l) F4)).lookup ("room_by_place":Str)=some (.ref d):=by rw[Zl,if_neg (by decide +kernel),Zl,if_neg (by decide +kernel)];exact lkP
  generalize putF "way_by_name" (.ref d3) (putF "ways" (.ref l) F4)=F6 at A1 A2 A3 M6 lkP;clear hk hb hrs hx ht6 s6 hd0 hl er e1 M5 sx sy s5 M4 hdk;refine⟨_,rfl,t,dx,_,rfl,M6.at_,M6.only _ (by decide +kernel),?_⟩;refine⟨_,rfl,?_⟩;dsimp only[tNil];refine JO (z:="groups") (n:=300) (go:=goG k1 n) (by simp[Gj]) M6.at_ (p4.sameB ht M6.sm) (λa y e Hb sb=>?_) (λxs rs H7 l er hl s7 hx hrs hb hk=>?_)
  ·rw[e]at kk;exact kk _ rfl Hb (M6.sm.trans sb)
  have M7:=M6.same s7;refine⟨t,l,dx,d,xs,rs,F6,k1,n,rfl,M7.at_,M7.only,by have:=M7.len;omega,lkP,s7 _ _ hd6,M7.turns,hx,hl,hrs,?_⟩;have sx:Zj t H6 H7:=Zj.of s7;cases e1:Yb k1 n 0 0 [] (xs.zip rs)with
 |inl q=>exact λHb sb=>hb q.1 q.2 e1 Hb (sx.trans sb)
 |inr k4=>
  rw[hk k4 e1]at kk;dsimp only at kk;intro H8 d4 s8 hd0 hdm hdk ht8;have sy:Zj t H6 H8:=sx.trans s8;have A4:ZZ H8 (putF "group_by_name" (.ref d4) (putF "groups" (.ref l) F6)) "groups" "group_by_name" r4 k4:=by rw[er];exact ZZ.new (s8 _ _ hx (ne_of hx M7.at_ (by intro z;cases z))) hdk (by decide +kernel)
  have A1:=(A1.sameB M6.at_ sy).put (f':="groups") (g':="group_by_name") (x:=.ref l) (y:=.ref d4) (by decide +kernel) (by decide +kernel) (by decide +kernel) (by decide +kernel);have A2:=(A2.sameB M6.at_ sy).put (f':="groups") (g':="group_by_name") (x:=.ref l) (y:=.ref d4) (by decide +kernel) (by decide +kernel) (by decide +kernel) (by decide +kernel);have A3:=(A3.sameB M6.at_ sy).put (f':="groups") (g':="group_by_name") (x:=.ref l) (y:=.ref d4) (by decide +kernel) (by decide +kernel) (by decide +kernel) (by decide +kernel);have hd8:H8 d=some (.dK k1):=sy _ _ hd6 hdt;have M8:=M7.next s8 ht8 (by simp[fields]) (by simp[fields]) (by decide +kernel) (by decide +kernel);have lkP:(putF "group_by_name" (.ref d4) (putF "groups" (.ref l) F6)).lookup ("room_by_place":Str)=some (.ref d):=by rw[Zl,if_neg (by decide +kernel),Zl,if_neg (by decide +kernel)];exact lkP
  generalize putF "group_by_name" (.ref d4) (putF "groups" (.ref l) F6)=F8 at A1 A2 A3 A4 M8 lkP;clear hk hb hrs hx ht8 s8 hd0 hl er e1 M7 sx sy s7 M6 hdk;exact kk _ rfl H8 F8 n M8.sm rfl ⟨⟨⟨dx,M8.at_⟩,M8.only⟩,M8.turns,A1,A2,A3,A4⟩
 ·have hw0:K1.Zt vT 1 50=false:=by simpa using hw
  rw[hw0];refine iteT ?_;have ek:Ge vT r1 r2 r3 r4=.inl (.str "turns",.non,.str "number"):=by
   cases vT with
  |int n=>show(if(decide (1<=n)&&decide (n<=50))=true then _ else _)=_;rw[if_neg (by rw[show(decide (1<=n)&&decide (n<=50))=false from hw0];decide)]
  |_=>rfl
  exact⟨rfl,kk _ ek H (Zj.refl t H)⟩
end
end TB
namespace L2
open PySem PySem.Spec PyProof.Rows
section
variable {X:Cx}{CX:CXT}{k:Nat}{C:Addr}{ps:List Str}{sp:Sp}{E:XK}{m:Str}{pos apos:Pos}{o:Expr}{ta:TE}
theorem Pm{pl:Sem Bool}(c:CanM X.prog X.w X.K X.mg X.base CX k C m ps sp)(cl:Cls X.K C)(hx:Passes CX X E)(hr:Room k X.A)(he:PE X o ta)
  (ht:eval (.Call (.Attribute o m apos) [] [] pos) X.env=(do
   let ov <-eval o X.env
   standAt apos.atName
   let (f,first) <-holding [ov] (getMethod ov m pl)
   callWith pos f first (backTo pos (starEach [] X.env)) (backToKw pos (keywordEach [] X.env))):=by rfl):
  PE X (.Call (.Attribute o m apos) [] [] pos) (Rj C m sp [] E ta tNil):=by
 obtain⟨f,fd,F,me,b⟩:=c
 exact WR he cl me F hr b .nil hx ht
end
end L2
namespace TB
open PySem L2 PySem.Spec PyProof.Rows
section
variable {P:Program}{w:World}{K:PySem.W.Frag}{mg:Str->Option Value}{base:Heap}{C Cb:Addr}
def Qv(C:Addr):Sp:=λvs H Q _=>∃(t:Addr)(fs:List (Str×V))(n:Int)(r1 r2 r3 r4:PR)(k:Ks),vs=[.ref t]/\TabOf H C t fs n r1 r2 r3 r4 k /\∀q l1 l2 l3 l4 x1 x2 x3 x4 s1 s2 s3 s4,r1=some (x1,s1)->r2=some (x2,s2)->r3=some (x3,s3)->r4=some (x4,s4)->H l1=some (.tup x1)->H l2=some (.tup x2)->H l3=some (.tup x3)->H l4=some (.tup x4)->H q=none->Q (.ref q) (upd H q (.tup [.int n,.ref l1,.ref l2,.ref l3,.ref l4]))
theorem Dz:FnScope ["self"] ["self"] (Zg T.m_Table_told):=⟨rfl,rfl,rfl,by decide +kernel,rfl,by decide +kernel,by decide +kernel⟩
theorem Kl(Z:TCl K C)(D:DfM K C "told" "Table.told" T.m_Table_told ["self"]):CanM P w K mg base CX0 1 C "told" ["self"] (Qv C):=by
 refine D.can Dz (λvs H Q E h=>?_) λf cdv A outer s H vs Q E hr h=>?_
 ·obtain⟨t,fs,n,r1,r2,r3,r4,k,rfl,_⟩:=h;rfl
 ·obtain⟨t,fs,n,r1,r2,r3,r4,k,rfl,tb,kq⟩:=h;refine⟨_,Zk (Zq (Ys (Zh (Z8 (pv 0) rfl) (Zh (Z8 (pv 0) rfl) (Zh (Z8 (pv 0) rfl) (Zh (Z8 (pv 0) rfl) (Zh (Z8 (pv 0) rfl) Zb))))))),?_⟩;obtain⟨dx,ht⟩:=tb.tab.at_;obtain⟨l1,d1,x1,s1,a1,_,e1,b1,_⟩:=tb.p;obtain⟨l2,d2,x2,s2,a2,_,e2,b2,_⟩:=tb.r;obtain⟨l3,d3,x3,s3,a3,_,e3,b3,_⟩:=tb.w;obtain⟨l4,d4,x4,s4,a4,_,e4,b4,_⟩:=tb.g;refine⟨_,rfl,t,C,dx,fs,_,rfl,ht,Z.cl,Z.na _ (by simp[fields]),tb.turns,_,rfl,t,C,dx,fs,_,rfl,ht,Z.cl,Z.na _ (by simp[fields]),a1,_,rfl,t,C,dx,fs,_,rfl,ht,Z.cl,Z.na _ (by simp[fields]),a2,_,rfl,t,C,dx,fs,_,rfl,ht,Z.cl,Z.na _ (by simp[fields]),a3,_,rfl,t,C,dx,fs,_,rfl,ht,Z.cl,Z.na _ (by simp[fields]),a4,by show 5<=sizeLine;decide,λl hl=>?_⟩;exact kq l l1 l2 l3 l4 x1 x2 x3 x4 s1 s2 s3 s4 e1 e2 e3 e4 b1 b2 b3 b4 hl
structure TMk(P:Program)(w:World)(K:PySem.W.Frag)(mg:Str->Option Value)(base:Heap)(C Cb:Addr):Prop where
 made:∃f fd,Mk K C f/\FnOk P w K mg base (CX1 P w) 7 f fd ["self","turns","places","rides","ways","groups"] (Na C Cb)/\Binds K fd ["self","turns","places","rides","ways","groups"] []
 mg:mg "Table"=some (.ref C)
theorem Gh{H H1:Hp}{t dx:Addr}{o o2:HO}(ht:H t=none)(hdx:H dx=none)(s:Zj t (upd (upd H dx o) t o2) H1):Same H H1:=λc u e=>by
 have h1:c≠t:=λz=>by rw[z,ht]at e;cases e
 have h2:c≠dx:=λz=>by rw[z,hdx]at e;cases e
 exact s c u (by rw[Ze h1,Ze h2];exact e) h1
end
end TB
namespace L2
open PySem PySem.Spec PyProof.Rows
section
variable {prog:Program}{w:World}{A:Around}{E:Value->Shared->Prop}{s:Shared}
theorem NV{M:Model}{a:Addr}{Q:Option Obj->Shared->Prop}(h:Q (s.heap.get? a) s):wpAny M A (loadIfAlive a) Q E s:=λΓ p _=>by show Sem.wp M Γ (.loadIfAlive a .pure) _ _ p s;rw[Sem.wp_loadIfAlive,Sem.wp_pure];exact h
abbrev Vx(h:Heap)(z TI TO T0:Addr)(f1:Bool):Prop:=h.get? z=some {cls:=.type "zip",dict:=none,data:=.fields #[rawInt T0,.bool f1,.bool false,.ref TI,.ref TO],slots:=#[]}
theorem MB{z TI TO T0:Addr}{f1:Bool}{Q:Bool->Shared->Prop}(hz:Vx s.heap z TI TO T0 f1)(hT:∃o,s.heap.get? T0=some o)(hQ:∀h',Vx h' z TI TO T0 true->Heap.SameBut z s.heap h'->Q false {s with heap:=h'}):wpAny (model prog w) A (Builtin.SmallTypes.ownedTupleIsFree (.ref z)) Q E s:=by
 obtain⟨o,ho⟩:=hT;unfold Builtin.SmallTypes.ownedTupleIsFree;refine wpAny_bind (wpAny_field hz rfl (x:=rawInt T0) rfl ?_);show wpAny _ _ (loadIfAlive ((T0:Int).toNat) >>= _) _ _ _;refine wpAny_bind (NV ?_);have e:(T0:Int).toNat=T0:=Int.toNat_natCast T0;rw[e,ho];show wpAny _ _ (field (.ref z) 1 >>= _) _ _ _;refine wpAny_bind (wpAny_field hz rfl (x:=.bool f1) rfl ?_);cases f1 with
|false=>show wpAny _ _ (setField (.ref z) 1 (.bool true) >>= _) _ _ _;refine wpAny_bind (wpAny_setField_rec hz (by simp) λh1 hz1 hs1=>wpAny_pure (hQ h1 hz1 hs1))
|true=>exact wpAny_pure (hQ s.heap hz (Heap.SameBut.refl ..))
theorem GL{z TI TO T0 i1 i2 l1 l2:Addr}{f1:Bool}{k1 k2:Nat}{xs ys:Array Value}{x y:Value}{Q:Value->Shared->Prop}(D:ZipApart z TI TO i1 i2 l1 l2)(hz:Vx s.heap z TI TO T0 f1)(hT:∃o,s.heap.get? T0=some o)(hTI:IsPair s.heap TI (.ref i1) (.ref i2))(h1:s.heap.IsListIter i1 l1 k1)(h2:s.heap.IsListIter i2 l2 k2)(hl1:s.heap.IsList l1 xs)(hl2:s.heap.IsList l2 ys)(hx:xs[k1]?=some x)(hy:ys[k2]?=some y)(hQ:∀h',Vx h' z TI TO T0 true->h'.IsListIter i1 l1 (k1+1)->h'.IsListIter i2 l2 (k2+1)->IsPair h' s.heap.objs.size x y->h'.objs.size=s.heap.objs.size+1 ->(∀c o,c≠z->c≠TO->c≠i1->c≠i2->s.heap.get? c=some o->h'.get? c=some o)->Q (.ref s.heap.objs.size) {s with heap:=h'}):wpAny (model prog w) A (Builtin.«zip.__next__» ⟨[.ref z],[]⟩) (λfin s'=>∃v,fin=.done (.ret v)/\Q v s') E s:=by
 show wpAny _ _ (field (.ref z) 2 >>= _) _ _ _;refine wpAny_bind (wpAny_field hz rfl (x:=.bool false) rfl ?_);show wpAny _ _ (field (.ref z) 3 >>= _) _ _ _;refine wpAny_bind (wpAny_field hz rfl (x:=.ref TI) rfl ?_);refine wpAny_bind (wpAny_seqItems hTI rfl ?_);show wpAny _ _ (Builtin.SmallTypes.ownedTupleIsFree (.ref z) >>= _) _ _ _;refine wpAny_bind (MB hz hT λh₁ hz₁ hs₁=>?_);simp only[Bool.false_eq_true,if_false];refine wpAny_bind ?_;simp only[List.forIn_toArray,List.forIn_cons,List.forIn_nil];refine wpAny_bind (wpAny_bind (wpAny_holding ?_));show wpAny _ _ (Builtin.SmallTypes.nextOf (.ref i1) >>= _) _ _ _;refine wpAny_bind (wpAny_nextOf_list_item (h1.extBut hs₁.extBut D.i1z) (hl1.extBut hs₁.extBut D.l1z) hx λh₂ h1₂ hs₂=>wpAny_pure (wpAny_pure ?_));refine wpAny_bind (wpAny_bind (wpAny_holding ?_));show wpAny _ _ (Builtin.SmallTypes.nextOf (.ref i2) >>= _) _ _ _;refine wpAny_bind (wpAny_nextOf_list_item ((h2.extBut hs₁.extBut D.i2z).extBut hs₂.extBut D.i12.symm) ((hl2.extBut hs₁.extBut D.l2z).extBut hs₂.extBut D.l2i1) hy λh₄ h2₄ hs₄=>wpAny_pure (wpAny_pure (wpAny_pure ?_)));have hsz:h₄.objs.size=s.heap.objs.size:=by rw[hs₄.1,hs₂.1,hs₁.1]
 have hz₄:Vx h₄ z TI TO T0 true:=hs₄.extBut _ _ D.i2z.symm (hs₂.extBut _ _ D.i1z.symm hz₁);have h1₄:h₄.IsListIter i1 l1 (k1+1):=h1₂.extBut hs₄.extBut D.i12;refine wpAny_bind (wpAny_newTuple (hsz:=(by show 2<=sizeLine;decide)) ?_);refine wpAny_pure ⟨_,rfl,?_⟩;show Q (.ref h₄.objs.size) _;rw[hsz];refine hQ _ (Heap.get?_push_of_some _ hz₄) (h1₄.at λo e=>Heap.get?_push_of_some _ e) (h2₄.at λo e=>Heap.get?_push_of_some _ e) ?_ ?_ λc o c1 c2 c3 c4 e=>Heap.get?_push_of_some _ (hs₄.extBut _ _ c4 (hs₂.extBut _ _ c3 (hs₁.extBut _ _ c1 e)))
 ·have this:(h₄.push {cls:=.type "tuple",data:=.seq #[x,y]}).get? h₄.objs.size=some _:=Heap.get?_push_size _ rfl;rw[hsz]at this;exact this
 ·rw[Heap.size_push,hsz]
theorem Mx{z TI TO T0 i1 i2 l1 l2:Addr}{f1:Bool}{k1 k2:Nat}{xs ys:Array Value}{Q:Fin->Shared->Prop}(hh:A.handled=none)(D:ZipApart z TI TO i1 i2 l1 l2)(hz:Vx s.heap z TI TO T0 f1)(hT:∃o,s.heap.get? T0=some o)(hTI:IsPair s.heap TI (.ref i1) (.ref i2))(h1:s.heap.IsListIter i1 l1 k1)(h2:s.heap.IsListIter i2 l2 k2)(hl1:s.heap.IsList l1 xs)(hl2:s.heap.IsList l2 ys)(hend:xs[k1]?=none\/ys[k2]?=none)(hE:∀h' e,(∀c o,c≠z->c≠TO->c≠i1->c≠i2->s.heap.get? c=some o->h'.get? c=some o)->(∃o,h'.get? e=some o/\o.cls=.type "StopIteration")->E (.ref e) {s with heap:=h'}):wpAny (model prog w) A (Builtin.«zip.__next__» ⟨[.ref z],[]⟩) Q E s:=by
 show wpAny _ _ (field (.ref z) 2 >>= _) _ _ _;refine wpAny_bind (wpAny_field hz rfl (x:=.bool false) rfl ?_);show wpAny _ _ (field (.ref z) 3 >>= _) _ _ _;refine wpAny_bind (wpAny_field hz rfl (x:=.ref TI) rfl ?_);refine wpAny_bind (wpAny_seqItems hTI rfl ?_);show wpAny _ _ (Builtin.SmallTypes.ownedTupleIsFree (.ref z) >>= _) _ _ _;refine wpAny_bind (MB hz hT λh₁ hz₁ hs₁=>?_);simp only[Bool.false_eq_true,if_false];refine wpAny_bind ?_;simp only[List.forIn_toArray,List.forIn_cons,List.forIn_nil];refine wpAny_bind (wpAny_bind (wpAny_holding ?_));show wpAny _ _ (Builtin.SmallTypes.nextOf (.ref i1) >>= _) _ _ _;cases hx:xs[k1]? with
|none=>exact wpAny_bind (wpAny_nextOf_list_end hh (h1.extBut hs₁.extBut D.i1z) (hl1.extBut hs₁.extBut D.l1z) hx λh₂ e hs₂ he=>hE h₂ e (λc o c1 _ c3 _ x=>hs₂ _ _ c3 (hs₁.extBut _ _ c1 x)) he)
|some x=>
  have hy:ys[k2]?=none:=by rcases hend with h|h;rw[hx]at h;cases h;exact h
  refine wpAny_bind (wpAny_nextOf_list_item (h1.extBut hs₁.extBut D.i1z) (hl1.extBut hs₁.extBut D.l1z) hx λh₂ h1₂ hs₂=>wpAny_pure (wpAny_pure ?_));refine wpAny_bind (wpAny_bind (wpAny_holding ?_));show wpAny _ _ (Builtin.SmallTypes.nextOf (.ref i2) >>= _) _ _ _;exact wpAny_bind (wpAny_nextOf_list_end hh ((h2.extBut hs₁.extBut D.i2z).extBut hs₂.extBut D.i12.symm) ((hl2.extBut hs₁.extBut D.l2z).extBut hs₂.extBut D.l2i1) hy λh₄ e hs₄ he=>hE h₄ e (λc o c1 c2 c3 c4 x=>hs₄ _ _ c4 (hs₂.extBut _ _ c3 (hs₁.extBut _ _ c1 x))) he)
def Ju(N0:Nat)(h:Heap)(z TI TO i1 i2 l1 l2:Addr)(xs ys:Array Value)(k:Nat):Prop:=((IsZip h z TI TO .none/\∃a b,IsPair h TO a b)\/∃T0 f1,Vx h z TI TO T0 f1/\(∃o,h.get? T0=some o)/\N0<=T0) /\IsPair h TI (.ref i1) (.ref i2)/\h.IsListIter i1 l1 k/\h.IsListIter i2 l2 k/\h.IsList l1 xs/\h.IsList l2 ys
theorem Ju.type{N0:Nat}{z TI TO i1 i2 l1 l2:Addr}{xs ys:Array Value}{k:Nat}(st:Ju N0 s.heap z TI TO i1 i2 l1 l2 xs ys k):s.TypeIs (.ref z) "zip":=by
 obtain⟨⟨hz,_⟩|⟨T0,f1,hz,_⟩,_⟩:=st
 ·exact⟨_,hz,rfl⟩
 ·exact⟨_,hz,rfl⟩
theorem NT{N0:Nat}{z TI TO i1 i2 l1 l2:Addr}(lt0:z<N0/\TO<N0/\i1<N0/\i2<N0)(hN:N0<=s.heap.objs.size){k:Nat}{xs ys:Array Value}{x y:Value}{Q:Option Value->Shared->Prop}(D:ZipApart z TI TO i1 i2 l1 l2)(st:Ju N0 s.heap z TI TO i1 i2 l1 l2 xs ys k)(hx:xs[k]?=some x)(hy:ys[k]?=some y)(hQ:∀h',Ju N0 h' z TI TO i1 i2 l1 l2 xs ys (k+1)->IsPair h' s.heap.objs.size x y->(∀c o,c≠z->c≠TO->c≠i1->c≠i2->s.heap.get? c=some o->h'.get? c=some o)->Q (some (.ref s.heap.objs.size)) {s with heap:=h'}):wpAny (model prog w) A (pyNext (.ref z)) Q E s:=by
 have hT:s.TypeIs (.ref z) "zip":=st.type;obtain⟨ha,hTI,h1,h2,hl1,hl2⟩:=st;have keep:∀h',(∀c o,c≠z->c≠TO->c≠i1->c≠i2->s.heap.get? c=some o->h'.get? c=some o)->IsPair h' TI (.ref i1) (.ref i2)/\h'.IsList l1 xs/\h'.IsList l2 ys:=λh' hk=>⟨hk _ _ D.TIz D.TITO D.TIi1 D.TIi2 hTI,hl1.at λo e=>hk _ o D.l1z D.l1TO D.l1i1 D.l1i2 e,hl2.at λo e=>hk _ o D.l2z D.l2TO D.l2i1 D.l2i2 e⟩;have lt:∀{c o},s.heap.get? c=some o->s.heap.objs.size≠c:=λe=>Nat.ne_of_gt (Heap.lt_size e);have n1:s.heap.objs.size≠i1:=by obtain⟨_,e,_⟩:=h1;exact lt e
 have n2:s.heap.objs.size≠i2:=by obtain⟨_,e,_⟩:=h2;exact lt e
 unfold pyNext;refine wpAny_bind (wpAny_attempt (wpAny_callSpecial?_slot (name:=Str.ofString "__next__") hT F.slot_zip_next (wpAny_call_entry F.slot_zip_next hT F.entry_zip_next ?_ (F.args_zip_next_1 _))));rcases ha with⟨hz,a,b,hTO⟩|⟨T0,f1,hz,⟨o0,ho0⟩,t0⟩
 ·refine zip_next_item D hz hTI hTO h1 h2 hl1 hl2 hx hy λh' a1 a2 a3 a4 a5 a6 a7=>wpAny_pure ?_;obtain⟨q1,q2,q3⟩:=keep h' a7;exact hQ h' ⟨.inr ⟨_,false,a1,⟨_,a5⟩,hN⟩,q1,a3,a4,q2,q3⟩ a5 a7
 ·refine GL D hz ⟨o0,ho0⟩ hTI h1 h2 hl1 hl2 hx hy λh' a1 a3 a4 a5 a6 a7=>wpAny_pure ?_;obtain⟨q1,q2,q3⟩:=keep h' a7;have g:∀c:Addr,c<N0->T0≠c:=λc hc=>Nat.ne_of_gt (Nat.lt_of_lt_of_le hc t0);exact hQ h' ⟨.inr ⟨T0,true,a1,⟨_,a7 _ _ (g z lt0.1) (g TO lt0.2.1) (g i1 lt0.2.2.1) (g i2 lt0.2.2.2) ho0⟩,t0⟩,q1,a3,a4,q2,q3⟩ a5 a7
theorem Qg{N0:Nat}{z TI TO i1 i2 l1 l2:Addr}{k:Nat}{xs ys:Array Value}{Q:Option Value->Shared->Prop}(hh:A.handled=none)(D:ZipApart z TI TO i1 i2 l1 l2)(st:Ju N0 s.heap z TI TO i1 i2 l1 l2 xs ys k)(hend:xs[k]?=none\/ys[k]?=none)(hQ:∀h',(∀c o,c≠z->c≠TO->c≠i1->c≠i2->s.heap.get? c=some o->h'.get? c=some o)->Q none {s with heap:=h'}):wpAny (model prog w) A (pyNext (.ref z)) Q E s:=by
 have hT:s.TypeIs (.ref z) "zip":=st.type;obtain⟨ha,hTI,h1,h2,hl1,hl2⟩:=st;unfold pyNext;have fin:∀h' e,(∀c o,c≠z->c≠TO->c≠i1->c≠i2->s.heap.get? c=some o->h'.get? c=some o)->(∃o,h'.get? e=some o/\o.cls=.type "StopIteration")->wpAny (model prog w) A (isInstance (.ref e) (.type "StopIteration") >>= λok=>if ok=true then pure none else throw (.ref e)) Q E {s with heap:=h'}:=by rintro h' e hk ⟨o,ho,hc⟩;refine wpAny_bind (wpAny_isInstance (T:="StopIteration") (b:=true) ⟨o,ho,hc⟩ isSubtype_stop ?_);exact wpAny_pure (hQ _ hk)
 rcases ha with⟨hz,a,b,hTO⟩|⟨T0,f1,hz,hT0,t0⟩
 ·refine wpAny_bind (wpAny_attempt (wpAny_callSpecial?_slot (name:=Str.ofString "__next__") hT F.slot_zip_next (wpAny_call_entry F.slot_zip_next hT F.entry_zip_next (zip_next_end hh D hz hTI hTO h1 h2 hl1 hl2 hend λh' e hk he=>fin h' e hk he) (F.args_zip_next_1 _))))
 ·refine wpAny_bind (wpAny_attempt (wpAny_callSpecial?_slot (name:=Str.ofString "__next__") hT F.slot_zip_next (wpAny_call_entry F.slot_zip_next hT F.entry_zip_next (Mx hh D hz hT0 hTI h1 h2 hl1 hl2 hend λh' e hk he=>fin h' e hk he) (F.args_zip_next_1 _))))
end
theorem Qf:typeLookup (.type "zip") "__len__"=pure none:=by rw[typeLookup_type,builtinLookup_eq_fast];kernel_rfl
theorem NR:typeLookup (.type "zip") "__length_hint__"=pure none:=by rw[typeLookup_type,builtinLookup_eq_fast];kernel_rfl
theorem Ju.keep{N0:Nat}{h h':Heap}{z TI TO i1 i2 l1 l2:Addr}{xs ys:Array Value}{k:Nat}{S:Addr}(st:Ju N0 h z TI TO i1 i2 l1 l2 xs ys k)(hS:∀b o,b≠S->h.get? b=some o->h'.get? b=some o)(n:z≠S/\TI≠S/\TO≠S/\i1≠S/\i2≠S/\l1≠S/\l2≠S)(nT:S<N0):Ju N0 h' z TI TO i1 i2 l1 l2 xs ys k:=by
 obtain⟨ha,hTI,h1,h2,hl1,hl2⟩:=st;obtain⟨n1,n2,n3,n4,n5,n6,n7⟩:=n;refine⟨?_,hS _ _ n2 hTI,h1.at λo e=>hS _ o n4 e,h2.at λo e=>hS _ o n5 e,hl1.at λo e=>hS _ o n6 e,hl2.at λo e=>hS _ o n7 e⟩;rcases ha with⟨hz,a,b,hTO⟩|⟨T0,f1,hz,⟨o0,ho0⟩,t⟩
 ·exact .inl ⟨hS _ _ n1 hz,a,b,hS _ _ n3 hTO⟩
 ·exact .inr ⟨T0,f1,hS _ _ n1 hz,⟨o0,hS _ _ (Nat.ne_of_gt (Nat.lt_of_lt_of_le nT t)) ho0⟩,t⟩
section
variable {prog:Program}{w:World}{A:Around}{E:Value->Shared->Prop}{R:Result->Shared->Prop}
def Pairs(h:Heap)(N0:Nat)(xs ys:Array Value)(Ts:List Addr):Prop:=Ts.Nodup/\(∀T∈Ts,N0<=T/\T<h.objs.size)/\∀(j:Nat)T,Ts[j]?=some T->∃x y,xs[j]?=some x/\ys[j]?=some y/\IsPair h T x y
theorem QT{z TI TO i1 i2 l1 l2 S:Addr}{xs ys:Array Value}{N0:Nat}(hh:A.handled=none)(D:ZipApart z TI TO i1 i2 l1 l2)(nS:z≠S/\TI≠S/\TO≠S/\i1≠S/\i2≠S/\l1≠S/\l2≠S)(res:Value)(lt:z<N0/\TO<N0/\i1<N0/\i2<N0/\S<N0)(hsz:min xs.size ys.size<=sizeLine):∀(k i:Nat)(s:Shared)(Ts:List Addr)(c:Nat),min xs.size ys.size-i=k->i<=min xs.size ys.size->Ts.length=i->N0<=s.heap.objs.size->Ju N0 s.heap z TI TO i1 i2 l1 l2 xs ys i ->s.heap.get? S=some {cls:=.type "list",dict:=none,data:=.seq (Ts.map Value.ref).toArray c,slots:=#[]}->Pairs s.heap N0 xs ys Ts ->(∀h' Ts' c',(∀b o,b≠S->b≠z->b≠TO->b≠i1->b≠i2->s.heap.get? b=some o->h'.get? b=some o)->h'.get? S=some {cls:=.type "list",dict:=none,data:=.seq (Ts'.map Value.ref).toArray c',slots:=#[]}->Ts'.length=min xs.size ys.size->Pairs h' N0 xs ys Ts'->R (.ok (.ret res)) {s with heap:=h'}) ->codeAny (model prog w) A (.builtin "list.extend.loop" ⟨[.ref S,.ref z,res],[]⟩) R s:=by
 intro k;induction k with
|zero=>
  intro i s Ts c hk hi hl hN st hS hp hR;have hin:i=min xs.size ys.size:=by omega
  refine codeAny_builtin F.entry_extend_loop ?_;rw[Around.under_plainId F.plain_extend_loop _];show wpAny _ A.in1 (pyNext (.ref z) >>= _) _ _ s;have hend:xs[i]?=none\/ys[i]?=none:=by
   rcases Nat.le_total xs.size ys.size with h|h
   ·exact .inl (by rw[hin,Nat.min_eq_left h];exact Array.getElem?_eq_none (Nat.le_refl _))
   ·exact .inr (by rw[hin,Nat.min_eq_right h];exact Array.getElem?_eq_none (Nat.le_refl _))
  refine wpAny_bind (Qg hh D st hend λh' hk'=>?_);obtain⟨n1,n2,n3,n4,n5,n6,n7⟩:=nS;refine wpAny_pure (hR h' Ts c (λb o _ b1 b2 b3 b4 e=>hk' b o b1 b2 b3 b4 e) (hk' S _ n1.symm n3.symm n4.symm n5.symm hS) (by omega) ?_);obtain⟨p1,p2,p3⟩:=hp;have kt:∀T∈Ts,∀o,s.heap.get? T=some o->h'.get? T=some o:=λT hT' o e=>by have g:∀c:Addr,c<N0->T≠c:=λc hc=>Nat.ne_of_gt (Nat.lt_of_lt_of_le hc (p2 T hT').1);exact hk' T o (g z lt.1) (g TO lt.2.1) (g i1 lt.2.2.1) (g i2 lt.2.2.2.1) e
  refine⟨p1,λT hT'=>⟨(p2 T hT').1,?_⟩,λj T hj=>?_⟩
  ·obtain⟨j,hj⟩:=List.mem_iff_getElem?.mp hT';obtain⟨x,y,_,_,e⟩:=p3 j T hj;exact Heap.lt_size (kt T hT' _ e)
  ·obtain⟨x,y,q1,q2,e⟩:=p3 j T hj;exact⟨x,y,q1,q2,kt T (List.mem_of_getElem? hj) _ e⟩
|succ k ih=>
  intro i s Ts c hk hi hl hN st hS hp hR;have hlt:i<min xs.size ys.size:=by omega
  have hix:i<xs.size:=Nat.lt_of_lt_of_le hlt (Nat.min_le_left ..);have hiy:i<ys.size:=Nat.lt_of_lt_of_le hlt (Nat.min_le_right ..);refine codeAny_builtin F.entry_extend_loop ?_;rw[Around.under_plainId F.plain_extend_loop _];show wpAny _ A.in1 (pyNext (.ref z) >>= _) _ _ s;refine wpAny_bind (NT ⟨lt.1,lt.2.1,lt.2.2.1,lt.2.2.2.1⟩ hN D st (Array.getElem?_eq_getElem hix) (Array.getElem?_eq_getElem hiy) λh' st' hpr hk'=>?_);obtain⟨n1,n2,n3,n4,n5,n6,n7⟩:=id nS;have hS':=hk' S _ n1.symm n3.symm n4.symm n5.symm hS;show wpAny _ A.in1 (updateSeq S (·.push (.ref s.heap.objs.size)) >>= _) _ _ _;refine wpAny_bind ?_;have hsS:S<s.heap.objs.size:=Heap.lt_size hS;obtain⟨p1,p2,p3⟩:=hp;have oth:∀b o,b≠S->h'.get? b=some o->(h'.update S (Obj.mapSeq (·.push (.ref s.heap.objs.size)))).get? b=some o:=λb o hb e=>(Heap.get?_update_other _ _ (Ne.symm hb)).trans e;have eT:(Ts.map Value.ref).toArray.push (Value.ref s.heap.objs.size)=((Ts++[s.heap.objs.size]).map Value.ref).toArray:=by simp
  obtain⟨c2,hS2⟩:∃c2,(h'.update S (Obj.mapSeq (·.push (.ref s.heap.objs.size)))).get? S=some {cls:=.type "list",dict:=none,data:=.seq ((Ts++[s.heap.objs.size]).map Value.ref).toArray c2,slots:=#[]}:=⟨_,(Heap.get?_update_self _ hS' rfl).trans (by rw[<-eT];rfl)⟩;refine wpAny_updateSeq hS' rfl (wpAny_pure ⟨plainId_quiet F.plain_extend_loop _,ih (i+1) _ (Ts++[s.heap.objs.size]) c2 (by omega) hlt (by simp[hl]) ?_ (st'.keep oth nS lt.2.2.2.2) hS2 ?_ λh'' Ts' c' q1 q2 q3 q4=>hR h'' Ts' c' (λb o b0 b1 b2 b3 b4 e=>q1 b o b0 b1 b2 b3 b4 (oth b o b0 (hk' b o b1 b2 b3 b4 e))) q2 q3 q4⟩) (by simp only[List.size_toArray,List.length_map];omega) (by simp only[Array.size_push,List.size_toArray,List.length_map];omega)
  ·have:=Heap.lt_size (oth _ _ (Nat.ne_of_gt hsS) hpr);exact Nat.le_of_lt (Nat.lt_of_le_of_lt hN this)
  ·have kt:∀T∈Ts,∀o,s.heap.get? T=some o->(h'.update S (Obj.mapSeq (·.push (.ref s.heap.objs.size)))).get? T=some o:=λT hT' o e=>by have g:∀c:Addr,c<N0->T≠c:=λc hc=>Nat.ne_of_gt (Nat.lt_of_lt_of_le hc (p2 T hT').1);exact oth T o (g S lt.2.2.2.2) (hk' T o (g z lt.1) (g TO lt.2.1) (g i1 lt.2.2.1) (g i2 lt.2.2.2.1) e)
   have new:=oth _ _ (Nat.ne_of_gt hsS) hpr;refine⟨?_,λT hT'=>?_,λj T hj=>?_⟩
   ·rw[List.nodup_append];refine⟨p1,by simp,λa ha b hb=>?_⟩;rw[List.mem_singleton]at hb;subst hb;exact Nat.ne_of_lt (p2 a ha).2
   ·rcases List.mem_append.mp hT' with hT'|hT'
    ·obtain⟨j,hj⟩:=List.mem_iff_getElem?.mp hT';obtain⟨x,y,_,_,e⟩:=p3 j T hj;exact⟨(p2 T hT').1,Heap.lt_size (kt T hT' _ e)⟩
    ·rw[List.mem_singleton]at hT';subst hT';exact⟨hN,Heap.lt_size new⟩
   ·rcases Nat.lt_or_ge j Ts.length with hjl|hjl
    ·rw[List.getElem?_append_left hjl]at hj;obtain⟨x,y,q1,q2,e⟩:=p3 j T hj;exact⟨x,y,q1,q2,kt T (List.mem_of_getElem? hj) _ e⟩
    ·rw[List.getElem?_append_right hjl]at hj;have hj0:j-Ts.length=0:=by
      rcases Nat.eq_zero_or_pos (j-Ts.length)with h|h
      ·exact h
      ·rw[List.getElem?_eq_none (by simp;omega)]at hj;cases hj
     rw[hj0]at hj;have e:s.heap.objs.size=T:=by simpa using hj
     subst e;have hji:j=i:=by omega
     subst hji;exact⟨_,_,Array.getElem?_eq_getElem hix,Array.getElem?_eq_getElem hiy,new⟩
end
section
variable {prog:Program}{w:World}{A:Around}{E:Value->Shared->Prop}{s:Shared}
theorem Pairs.nil{h:Heap}{N0:Nat}{xs ys:Array Value}:Pairs h N0 xs ys []:=⟨List.nodup_nil,λT hT=>(by cases hT),λj T hj=>by simp at hj⟩
theorem Ju.iter{N0:Nat}{z TI TO i1 i2 l1 l2:Addr}{xs ys:Array Value}{k:Nat}{Q:Value->Shared->Prop}(st:Ju N0 s.heap z TI TO i1 i2 l1 l2 xs ys k)(h:Q (.ref z) s):wpAny (model prog w) A (pyIter (.ref z)) Q E s:=by have hT:s.TypeIs (.ref z) "zip":=st.type;refine wpAny_pyIter_slot hT F.slot_zip_iter (wpAny_call_entry F.slot_zip_iter hT F.entry_zip_iter ?_ (F.args_zip_iter_1 _));show wpAny _ _ (ret (.ref z)) _ _ s;exact wpAny_pure ⟨_,rfl,"zip",_,hT,F.slot_zip_next.lookup,h⟩
theorem Gq{R:Result->Shared->Prop}{z TI TO i1 i2 l1 l2 S:Addr}{xs ys:Array Value}{N0:Nat}(hh:A.handled=none)(D:ZipApart z TI TO i1 i2 l1 l2)(nS:z≠S/\TI≠S/\TO≠S/\i1≠S/\i2≠S/\l1≠S/\l2≠S)(res:Value)(c₀:Nat)(lt:z<N0/\TO<N0/\i1<N0/\i2<N0/\S<N0)(hN:N0<=s.heap.objs.size)(hsz:min xs.size ys.size<=sizeLine)(st:Ju N0 s.heap z TI TO i1 i2 l1 l2 xs ys 0)(hS:s.heap.get? S=some {cls:=.type "list",data:=.seq #[] c₀})(hR:∀h' Ts' c',(∀b o,b≠S->b≠z->b≠TO->b≠i1->b≠i2->s.heap.get? b=some o->h'.get? b=some o)->h'.get? S=some {cls:=.type "list",dict:=none,data:=.seq (Ts'.map Value.ref).toArray c',slots:=#[]}->Ts'.length=min xs.size ys.size->Pairs h' N0 xs ys Ts'->R (.ok (.ret res)) {s with heap:=h'}):wpAny (model prog w) A.in1 (Builtin.List.listExtendWith (.ref S) (.ref z) res) (λfin s'=>match fin with|.done f=>R (.ok f) s'|.again c'=>c'.quiet=true/\codeAny (model prog w) A c' R s') (λe s'=>R (.error e) s') s:=by
 obtain⟨n1,n2,n3,n4,n5,n6,n7⟩:=id nS;unfold Builtin.List.listExtendWith;refine wpAny_bind (wpAny_typeOf st.type ?_);have h1:Builtin.List.listSameRef (.ref S) (.ref z)=false:=by simp[Builtin.List.listSameRef,n1.symm]
 have h2:(Value.type "zip"==Value.type "list")=false:=by decide
 have h3:(Value.type "zip"==Value.type "tuple")=false:=by decide
 simp only[h1,h2,h3,Bool.or_false,Bool.false_eq_true,if_false];refine wpAny_bind (st.iter ?_);refine wpAny_bind (wpAny_holding ?_);unfold Builtin.List.listLengthHint;refine wpAny_bind (wpAny_specialOf st.type Qf ?_);show wpAny _ A.in1 (specialOf (Value.ref z) (Str.ofString "__length_hint__") >>= _) _ _ _;refine wpAny_bind (wpAny_specialOf st.type NR ?_);refine wpAny_pure ?_;show wpAny _ A.in1 (rule "list.extend.makes-room" >>= λ_=>Builtin.List.listTouch (.ref S) >>= λ_=>
  again (.builtin "list.extend.loop" ⟨[.ref S,.ref z,res],[]⟩)) _ _ _;refine wpAny_bind (wpAny_rule ?_);refine wpAny_bind ?_;show wpAny _ A.in1 (updateSeq S (·.push .none) >>= λ_=>updateSeq S (·.pop)) _ _ _;refine wpAny_bind (wpAny_updateSeq hS rfl ?_);have hS₂:=Heap.get?_update_self (Obj.mapSeq (·.push Value.none)) hS rfl;refine wpAny_updateSeq (hz:=by seq_fits) hS₂ rfl ?_;have hS₃:=Heap.get?_update_self (Obj.mapSeq (·.pop)) hS₂ rfl;have oth:∀b o,b≠S->s.heap.get? b=some o->((s.heap.update S (Obj.mapSeq (·.push Value.none))).update S (Obj.mapSeq (·.pop))).get? b=some o:=λb o hb e=>(Heap.get?_update_other _ _ (Ne.symm hb)).trans ((Heap.get?_update_other _ _ (Ne.symm hb)).trans e);have hsz2:((s.heap.update S (Obj.mapSeq (·.push Value.none))).update S (Obj.mapSeq (·.pop))).objs.size=s.heap.objs.size:=by
  rw[(Heap.SameBut.update ..).1,(Heap.SameBut.update ..).1]
 refine wpAny_pure ⟨plainId_quiet F.plain_extend_loop _,QT hh D nS res lt hsz (min xs.size ys.size) 0 _ [] _ (by omega) (Nat.zero_le _) rfl (by rw[hsz2];exact hN) (st.keep oth nS lt.2.2.2.2) hS₃ Pairs.nil λh' Ts' c' q1 q2 q3 q4=>?_⟩;exact hR h' Ts' c' (λb o b0 b1 b2 b3 b4 e=>q1 b o b0 b1 b2 b3 b4 (oth b o b0 e)) q2 q3 q4
theorem Ga{Q:Value->Shared->Prop}{z TI TO i1 i2 l1 l2:Addr}{xs ys:Array Value}(hh:A.handled=none)(D:ZipApart z TI TO i1 i2 l1 l2)(lt:z<s.heap.objs.size/\TI<s.heap.objs.size/\TO<s.heap.objs.size/\i1<s.heap.objs.size/\i2<s.heap.objs.size/\l1<s.heap.objs.size/\l2<s.heap.objs.size)
  (hsz:min xs.size ys.size<=sizeLine) (hz:IsZip s.heap z TI TO .none) (hTI:IsPair s.heap TI (.ref i1) (.ref i2)) (hTO:∃a b,IsPair s.heap TO a b) (h1:s.heap.IsListIter i1 l1 0) (h2:s.heap.IsListIter i2 l2 0) (hl1:s.heap.IsList l1 xs) (hl2:s.heap.IsList l2 ys)
  (hQ:∀h' Ts' c',(∀b o,b≠z->b≠TO->b≠i1->b≠i2->s.heap.get? b=some o->h'.get? b=some o)->h'.get? s.heap.objs.size=some {cls:=.type "list",dict:=none,data:=.seq (Ts'.map Value.ref).toArray c',slots:=#[]}->Ts'.length=min xs.size ys.size->Pairs h' (s.heap.objs.size+1) xs ys Ts'->Q (.ref s.heap.objs.size) {s with heap:=h'}):
  wpAny (model prog w) A (call (.type "list") [.ref z]) Q E s:=by
 have ne:∀{b:Addr},b<s.heap.objs.size->b≠s.heap.objs.size:=λh=>Nat.ne_of_lt h
 refine callType_codes (Q₁:=λobj s₁=>obj=.ref s.heap.objs.size/\s₁={s with heap:=s.heap.push {cls:=.type "list",data:=.seq #[]}}) F.called_list (F.typeCall_list_1 _) F.entry_list_init
  (code_list_new _ ⟨rfl,rfl⟩) λobj s₁ h₁=>?_
 obtain⟨rfl,rfl⟩:=h₁
 have hS:(s.heap.push {cls:=.type "list",data:=.seq #[]}).get? s.heap.objs.size=some {cls:=.type "list",data:=.seq #[]}:=Heap.get?_push_size _ rfl
 refine⟨⟨_,hS,rfl⟩,F.args_list_init_2 _ _,?_⟩
 show wpAny _ A.in1.in1 (do let old <-Builtin.List.listItems (.ref s.heap.objs.size);Builtin.List.listUpdate (.ref s.heap.objs.size) (λ_=>#[]);letGo old.toList.reverse;Builtin.List.listExtendWith (.ref s.heap.objs.size) (.ref z) .none) _ _ _
 refine wpAny_bind ?_
 unfold Builtin.List.listItems
 refine wpAny_bind (wpAny_seqItems hS rfl (wpAny_pure ?_))
 show wpAny _ A.in1.in1 (updateSeq s.heap.objs.size (λ_=>#[]) >>= λ_=>letGo (#[]:Array Value).toList.reverse >>= λ_=>Builtin.List.listExtendWith (.ref s.heap.objs.size) (.ref z) .none) _ _ _
 refine wpAny_bind (wpAny_updateSeq hS rfl ?_)
 have hS₂:=Heap.get?_update_self (Obj.mapSeq (λ_=>(#[]:Array Value))) hS rfl
 have oth:∀b o,b≠s.heap.objs.size->s.heap.get? b=some o->((s.heap.push {cls:=.type "list",data:=.seq #[]}).update s.heap.objs.size (Obj.mapSeq (λ_=>(#[]:Array Value)))).get? b=some o:=
  λb o hb e=>(Heap.get?_update_other _ _ (Ne.symm hb)).trans (Heap.get?_push_of_some _ e)
 refine wpAny_bind (wpAny_letGo ?_)
 have hsz2:((s.heap.push {cls:=.type "list",data:=.seq #[]}).update s.heap.objs.size (Obj.mapSeq (λ_=>(#[]:Array Value)))).objs.size=s.heap.objs.size+1:=by rw[(Heap.SameBut.update ..).1,Heap.size_push]
 obtain⟨t1,t2,t3,t4,t5,t6,t7⟩:=lt
 obtain⟨a,b,hTO⟩:=hTO
 refine Gq (N0:=s.heap.objs.size+1) (A:=A.in1) hh D ⟨ne t1,ne t2,ne t3,ne t4,ne t5,ne t6,ne t7⟩ .none _ ⟨Nat.lt_succ_of_lt t1,Nat.lt_succ_of_lt t3,Nat.lt_succ_of_lt t4,Nat.lt_succ_of_lt t5,Nat.lt_succ_self _⟩ (by rw[hsz2];exact Nat.le_refl _) hsz
  ⟨.inl ⟨oth _ _ (ne t1) hz,a,b,oth _ _ (ne t3) hTO⟩,oth _ _ (ne t2) hTI,h1.at λo e=>oth _ o (ne t4) e,h2.at λo e=>oth _ o (ne t5) e,hl1.at λo e=>oth _ o (ne t6) e,hl2.at λo e=>oth _ o (ne t7) e⟩ hS₂ λh' Ts' c' q1 q2 q3 q4=>?_
 exact⟨rfl,hQ h' Ts' c' (λb o b1 b2 b3 b4 e=>q1 b o (Nat.ne_of_lt (Heap.lt_size e)) b1 b2 b3 b4 (oth b o (Nat.ne_of_lt (Heap.lt_size e)) e)) q2 q3 q4⟩
end
noncomputable def VQ(H news:Hp):Hp:=λa=>match news a with|some o=>some o|none=>H a
theorem JS{H news:Hp}{a:Addr}(h:news a=none):VQ H news a=H a:=by unfold VQ;rw[h]
theorem US{H news:Hp}{a:Addr}{o:HO}(h:news a=some o):VQ H news a=some o:=by unfold VQ;rw[h]
section
variable {X:Cx}{pins:List (Addr×Obj)}{σ:List (Option V)}{H:Hp}{s:Shared}{h':Heap}
theorem Inv.more{news:Hp}{t':Nat}(I:Inv X pins σ H s)(k:∀b u,s.heap.get? b=some u->h'.get? b=some u)(hp:∀a o,news a=some o->s.heap.objs.size<=a)(new:∀a o,news a=some o->ZJ X.prog X.w (VQ H news) h' a o):Inv X pins σ (VQ H news) {s with heap:=h',toks:=t'}:=by
 have old:∀b,b<s.heap.objs.size->news b=none:=λb hb=>by
  cases e:news b with
 |none=>rfl
 |some o=>exact absurd (Nat.lt_of_lt_of_le hb (hp b o e)) (Nat.lt_irrefl _)
 have oldH:∀b u,H b=some u->VQ H news b=some u:=λb u e=>by rw[JS (old b (I.hok.lt e))];exact e
 refine I.un ⟨λb u q _ _ _=>k b u q,λb u q _ _ _=>⟨u.slots,k b u q⟩,λb u q n _=>by rw[JS (old b (Heap.lt_size q))];exact n,λb u q _=>⟨u,k b u q⟩,λb xs q=>oldH _ _ q,λb o u q=>oldH _ _ q,λb ps q=>⟨#[],by rw[oldH _ _ q];simp⟩⟩ λb u q=>?_;cases e:news b with
|some o=>rw[US e]at q;cases q;exact new b _ e
|none=>rw[JS e]at q;exact(I.hok b u q).stay (λc v _ q=>k c v q) (λc q=>oldH _ _ q) λc xs q=>oldH _ _ q
end
def KJ(H H':Hp)(l:Addr)(rows:List (List V)):Prop:=Same H H'/\H l=none/\∃as:List Addr,H' l=some (.lst (as.map V.ref))/\as.length=rows.length/\(∀a∈as,H a=none)/\∀(i:Nat)a r,as[i]?=some a->rows[i]?=some r->H' a=some (.tup r)
section
variable {X:Cx}{a b:Expr}{ta:TA}{p p2 pos pos2:Pos}
def ED(ta:TA):TE:=λσ H Q=>ta σ H λvs H1=>∃(l1 l2:Addr)(xs ys:List V),vs=[.ref l1,.ref l2]/\H1 l1=some (.lst xs)/\H1 l2=some (.lst ys)/\∀H' l,KJ H1 H' l ((xs.zip ys).map λq=>[q.1,q.2])->Q (.ref l) H'
theorem Ri{xs:List V}{us:List Value}(r:Vals xs us){j:Nat}{u:Value}(h:us[j]?=some u):∃x,xs[j]?=some x/\RelV x u:=by
 have hj:j<us.length:=(List.getElem?_eq_some_iff.mp h).1;have hj':j<xs.length:=by rw[r.length];exact hj
 obtain⟨u',e,rr⟩:=r.get (List.getElem?_eq_getElem hj');rw[h]at e;cases e;exact⟨_,List.getElem?_eq_getElem hj',rr⟩
theorem QH(hc:X.calm=true)(hg:Gl X "list")(hm:X.mg "list"=none)(hg2:Gl X "zip")(hm2:X.mg "zip"=none)(ha:PA X [a,b] ta)(hs:starEach [a,b] X.env=[(false,eval a X.env),(false,eval b X.env)]:=by rfl)(hs2:starEach [b] X.env=[(false,eval b X.env)]:=by rfl)(hs3:starEach [.Call (.Name "zip" p2) [a,b] [] pos2] X.env=[(false,eval (.Call (.Name "zip" p2) [a,b] [] pos2) X.env)]:=by rfl):PE X (.Call (.Name "list" p) [.Call (.Name "zip" p2) [a,b] [] pos2] [] pos) (ED ta):=by
 intro pins s σ H Q I h;refine wpAny_Call_Name_kw (Jl I hg hm NJ (PyProof.Rows.callWith_type1 ?_ (by rw[hs3];rfl) (by rfl)));rw[hs3];refine Calls.spliced_cons ?_;refine Call_ (Jl I hg2 hm2 boot_zip (PyProof.Rows.callWith_type1 (thn (ha pos2 pins s σ H _ I h) λus s1⟨vs,H1,I1,r1,q1⟩=>?_) (by rw[hs,hs2]) (by rw[hs2];rfl)));obtain⟨l1,l2,xs,ys,e,hx,hy,q⟩:=q1;subst e;cases r1 with
|cons r rr=>
  cases rr with
 |cons r' rr=>
   cases rr;cases r;cases r';obtain⟨z1,its,n,rv,hl,e⟩:=I1.lstM hx;obtain⟨z2,its2,n2,rv2,hl2,e2⟩:=I1.lstM hy;refine call_zip_2 (xs:=its.toArray) (ys:=its2.toArray) ⟨_,e,rfl,_,rfl⟩ ⟨_,e2,rfl,_,rfl⟩ λh' a1 a2 a3 a4 a5 hsz kk=>?_;refine Calls.spliced_nil ?_;have lt1:=Heap.lt_size e;have lt2:=Heap.lt_size e2;have D:ZipApart (s1.heap.objs.size+4) (s1.heap.objs.size+2) (s1.heap.objs.size+3) s1.heap.objs.size (s1.heap.objs.size+1) l1 l2:=by
    generalize s1.heap.objs.size=N at lt1 lt2;have g:∀(c:Nat)(k:Nat),c<N->c≠N+k:=λc k hc=>by omega
    have g2:∀i j:Nat,i≠j->N+i≠N+j:=λi j h e=>h (Nat.add_left_cancel e);exact⟨g2 2 4 (by decide),g2 3 4 (by decide),g2 0 4 (by decide),g2 1 4 (by decide),g2 2 3 (by decide),g2 2 0 (by decide),g2 2 1 (by decide),g2 3 0 (by decide),g2 3 1 (by decide),g2 0 1 (by decide),g _ 4 lt1,g _ 3 lt1,g _ 0 lt1,g _ 1 lt1,g _ 4 lt2,g _ 3 lt2,g _ 0 lt2,g _ 1 lt2⟩
   have sz:h'.objs.size=s1.heap.objs.size+5:=hsz;refine Ga (s:={s1 with heap:=h'}) (xs:=its.toArray) (ys:=its2.toArray) (I1.ok.hd hc) D ?_ ?_ a1 a2 ⟨_,_,a3⟩ a4 a5 ⟨_,kk _ _ e,rfl,_,rfl⟩ ⟨_,kk _ _ e2,rfl,_,rfl⟩ λh'' Ts c' k2 hS hlen hp=>?_
   ·show _<h'.objs.size/\_<h'.objs.size/\_<h'.objs.size/\_<h'.objs.size/\_<h'.objs.size/\_<h'.objs.size/\_<h'.objs.size;rw[sz];generalize s1.heap.objs.size=N at lt1 lt2;have g:∀k:Nat,k<5->N+k<N+5:=λk hk=>by omega
    exact⟨g 4 (by decide),g 2 (by decide),g 3 (by decide),g 0 (by decide),g 1 (by decide),Nat.lt_of_lt_of_le lt1 (Nat.le_add_right _ _),Nat.lt_of_lt_of_le lt2 (Nat.le_add_right _ _)⟩
   ·simp only[List.size_toArray];omega
   ·have kold:∀b o,s1.heap.get? b=some o->h''.get? b=some o:=λb o q=>by have hb:=Heap.lt_size q;have g:∀k:Nat,b≠s1.heap.objs.size+k:=λk=>Nat.ne_of_lt (Nat.lt_of_lt_of_le hb (Nat.le_add_right _ _));exact k2 b o (g 4) (g 3) (g 0) (g 1) (kk b o q)
    obtain⟨p1,p2,p3⟩:=hp;simp only[List.size_toArray]at hlen;have lenxy:Ts.length=min xs.length ys.length:=by rw[hlen,hl,hl2]
    let rows:=(xs.zip ys).map λq=>[q.1,q.2]
    let news:Hp:=λc=>if c=h'.objs.size then some (HO.lst (Ts.map V.ref))else if c∈Ts then some (HO.tup (rows.getD (Ts.idxOf c) []))else none
    have hS':h'.objs.size∉Ts:=λz=>Nat.not_succ_le_self _ (p2 _ z).1;have nS:news h'.objs.size=some (.lst (Ts.map V.ref)):=if_pos rfl;have nT:∀c∈Ts,news c=some (.tup (rows.getD (Ts.idxOf c) [])):=λc hc=>by have zc:c≠h'.objs.size:=λz=>hS' (by rw[<-z];exact hc);show(if c=h'.objs.size then some (HO.lst (Ts.map V.ref))else if c∈Ts then some (HO.tup (rows.getD (Ts.idxOf c) []))else none)=_;rw[if_neg zc,if_pos hc]
    have hge:s1.heap.objs.size<=h'.objs.size:=by rw[sz];exact Nat.le_add_right _ _
    have hrow:∀(i:Nat)T r,Ts[i]?=some T->rows[i]?=some r->rows.getD (Ts.idxOf T) []=r:=λi T r h1 h2=>by
     have hi:i<Ts.length:=(List.getElem?_eq_some_iff.mp h1).1;have ei:Ts.idxOf T=i:=by have e:Ts[i]=T:=(List.getElem?_eq_some_iff.mp h1).2;rw[<-e];exact p1.idxOf_getElem i hi
     rw[ei,List.getD_eq_getElem?_getD,h2];rfl
    have I2:Inv X pins σ (VQ H1 news) {s1 with heap:=h'',toks:=s1.toks}:=I1.more kold (λc o hc=>?_) (λc o hc=>?_)
    ·refine⟨.ref h'.objs.size,VQ H1 news,I2,rfl,q _ _ ⟨λc o ho=>?_,I1.hok.fresh hge,Ts,US nS,?_,λc hc=>I1.hok.fresh (Nat.le_trans hge (Nat.le_of_succ_le (p2 c hc).1)),λi T r h1 h2=>?_⟩⟩
     ·rw[JS ?_]
      ·exact ho
      ·have hlt:=I1.hok.lt ho;have zc:c≠h'.objs.size:=Nat.ne_of_lt (Nat.lt_of_lt_of_le hlt hge);have zt:c∉Ts:=λz=>Nat.lt_irrefl _ (Nat.lt_of_lt_of_le hlt (Nat.le_trans hge (Nat.le_of_succ_le (p2 c z).1)));show(if c=h'.objs.size then some (HO.lst (Ts.map V.ref))else if c∈Ts then some (HO.tup (rows.getD (Ts.idxOf c) []))else none)=_;rw[if_neg zc,if_neg zt]
     ·rw[lenxy,List.length_map,List.length_zip]
     ·rw[US (nT T (List.mem_of_getElem? h1)),hrow i T r h1 h2]
    ·by_cases z:c=h'.objs.size
     ·rw[z];exact hge
     ·by_cases zz:c∈Ts
      ·exact Nat.le_trans hge (Nat.le_of_succ_le (p2 c zz).1)
      ·have:news c=none:=by show(if c=h'.objs.size then some (HO.lst (Ts.map V.ref))else if c∈Ts then some (HO.tup (rows.getD (Ts.idxOf c) []))else none)=_;rw[if_neg z,if_neg zz]
       rw[this]at hc;cases hc
    ·by_cases z:c=h'.objs.size
     ·subst z;rw[nS]at hc;cases hc;refine⟨by rw[List.length_map,lenxy];omega,Ts.map Value.ref,c',?_,hS⟩;generalize Ts=l;induction l with
     |nil=>exact .nil
     |cons a l ih=>exact .cons rfl ih
     ·by_cases zz:c∈Ts
      ·rw[nT c zz]at hc;cases hc;obtain⟨j,hj⟩:=List.mem_iff_getElem?.mp zz;obtain⟨x,y,hx',hy',hpr⟩:=p3 j c hj;obtain⟨vx,ex,rx⟩:=Ri rv (j:=j) (by simpa using hx');obtain⟨vy,ey,ry⟩:=Ri rv2 (j:=j) (by simpa using hy');have er:rows[j]?=some [vx,vy]:=by show((xs.zip ys).map λq=>[q.1,q.2])[j]?=_;rw[List.getElem?_map,List.getElem?_zip_eq_some (z:=(vx,vy)) |>.mpr ⟨ex,ey⟩];rfl
       rw[hrow j c _ hj er];exact⟨by show 2<=sizeLine;decide,[x,y],.cons rx (.cons ry .nil),⟨_,hpr,rfl,_,rfl⟩⟩
      ·have:news c=none:=by show(if c=h'.objs.size then some (HO.lst (Ts.map V.ref))else if c∈Ts then some (HO.tup (rows.getD (Ts.idxOf c) []))else none)=_;rw[if_neg z,if_neg zz]
       rw[this]at hc;cases hc
end
section
variable {prog:Program}{w:World}{A:Around}{E:Value->Shared->Prop}
theorem MR{it l:Addr}{items:Array Value}(hne:l≠it):∀(n i:Nat)(s:Shared)(Q:List Value->Shared->Prop),s.heap.IsListIter it l i->s.heap.IsList l items->i+n<=items.size ->(∀h',h'.IsListIter it l (i+n)->Heap.SameBut it s.heap h'->Q ((items.toList.drop i).take n) {s with heap:=h'})->wpAny (model prog w) A (draw (.ref it) n) Q E s
|0,i,s,Q,hit,_,_,hQ=>by show wpAny _ _ (pure []) Q E s;exact wpAny_pure (by simpa using hQ s.heap hit (Heap.SameBut.refl ..))
|n+1,i,s,Q,hit,hl,hle,hQ=>by
  have hlt:i<items.size:=by omega
  show wpAny _ _ (pyNext (.ref it) >>= _) Q E s;refine wpAny_bind (wpAny_pyNext_list_item hit hl (x:=items[i]) (by simp[hlt]) λh₁ hit₁ hs₁=>?_);refine wpAny_bind (wpAny_holding (MR hne n (i+1) _ _ hit₁ (hl.at λo e=>hs₁.extBut _ _ hne e) (by omega) λh₂ hit₂ hs₂=>wpAny_pure ?_));have hd:items.toList.drop i=items[i]::items.toList.drop (i+1):=by simp[List.drop_eq_getElem_cons,hlt]
  have:=hQ h₂ (by rw[show i+(n+1)=i+1+n by omega];exact hit₂) (hs₁.trans hs₂);rw[hd,List.take_succ_cons]at this;exact this
theorem Uz{s:Shared}{t:Addr}{items:Array Value}{Q:List Value->Shared->Prop}(hh:A.handled=none)(ht:s.heap.IsList t items)(hQ:∀h',Heap.ExtBut s.heap.objs.size s.heap h'->Q items.toList {s with heap:=h'}):wpAny (model prog w) A (unpackItems (.ref t) items.size none) Q E s:=by
 have hlt:t≠s.heap.objs.size:=by obtain⟨o,ho,_⟩:=ht;exact Nat.ne_of_lt (Heap.lt_size ho)
 unfold unpackItems;refine wpAny_bind ?_
 ·unfold notIterableAtAll;refine wpAny_bind (wpAny_specialOf ht.typeIs slot_list_iter.lookup ?_);refine wpAny_pure ?_;simp only[Bool.false_eq_true,if_false];refine wpAny_bind (wpAny_holding (wpAny_pyIter_list ht ?_));have ht0:(s.heap.push {cls:=.type "list_iterator",data:=.fields #[.ref t,.int 0 0]}).IsList t items:=ht.at λo e=>Heap.get?_push_of_some _ e;refine wpAny_bind (wpAny_holding (MR hlt items.size 0 _ _ ⟨_,Heap.get?_push_size _ rfl,rfl,rfl⟩ ht0 (by omega) λh₁ hit₁ hs₁=>?_));have hall:List.take items.size (List.drop 0 items.toList)=items.toList:=by rw[List.drop_zero];exact List.take_of_length_le (by simp)
  rw[hall];rw[if_neg (by simp)];have ht₁:h₁.IsList t items:=ht0.at λo e=>hs₁.extBut _ _ hlt e;refine wpAny_bind (wpAny_holding (wpAny_pyNext_list_end hh hit₁ ht₁ (by simp) λh₂ he₂=>?_));simp only[Option.isSome_none,Bool.false_eq_true,if_false];refine wpAny_pure (hQ h₂ λb o hb e=>he₂ b o hb (hs₁.extBut b o hb (Heap.get?_push_of_some _ e)))
theorem Uw{s:Shared}{env:Env}{elts:List Expr}{x1}{pos:Pos}{t:Addr}{items:Array Value}{Q:Unit->Shared->Prop}(hh:A.handled=none)(ht:s.heap.IsList t items)(hn:(assignEach elts env).length=items.size)(hstar:(assignEach elts env).findIdx? (·.1)=none)(h:∀h',Heap.ExtBut s.heap.objs.size s.heap h'->wpAny (model prog w) A (assignInOrder ((assignEach elts env).map (·.2)) items.toList) Q E {s with heap:=h'}):wpAny (model prog w) A (assign (.Tuple elts x1 pos) env (.ref t)) Q E s:=by rw[assign_Tuple];refine wpAny_bind (wpAny_standAt ?_);unfold unpack;rw[hn,hstar];exact wpAny_bind (wpAny_holding (Uz hh ht h))
end
section
variable {X:Cx}{pos:Pos}
def gLst(K:PySem.W.Frag)(n:Nat)(t:TGs):TG:=λv σ H Q=>∃a xs,v=.ref a/\SqL K H a xs/\xs.length=n/\t xs σ H Q
theorem WQ{es:List Expr}{k:Nat}{t:TGs}{n:Nat}(hc:X.calm=true)(h:PGs X es t)(hn:(assignEach es X.env).length=n:=by rfl)(hst:(assignEach es X.env).findIdx? (·.1)=none:=by rfl):PG X (.Tuple es k pos) (gLst X.K n t):=by intro pins s σ H v u Q I r hw;obtain⟨a,xs,e1,hq,hl,hw⟩:=hw;subst e1;cases r;obtain⟨its,rv,ht,hz⟩:=I.list hq;refine Uw (I.ok.hd hc) ht.isList (by simp[hn,<-hl,rv.length]) hst λh' hx=>?_;have I1:Inv X pins σ H {s with heap:=h'}:=I.kept (t':=s.toks) λb o e=>hx b o (Nat.ne_of_lt (Heap.lt_size e)) e;exact h pins _ σ H xs _ Q I1 (by simpa using rv) hw
noncomputable def rLen(K:PySem.W.Frag):List V->Hp->VK->Prop:=λxs H Q=>∃p ys,xs=[.ref p]/\(SqL K H p ys\/SqT K H p ys)/\Q (.int ys.length) H
theorem Yg:YM X (.builtin "len") (rLen X.K):=Jr
end
mutual
inductive Is(H:Hp):V->PyData->Prop
|non:Is H .non .none
|bl (b:Bool):Is H (.bl b) (.bool b)
|int (i:Int):Is H (.int i) (.int i)
|str (z:Str):Is H (.str z) (.str z)
|lst {a:Addr}{xs:List V}{ds:List PyData} (e:H a=some (.lst xs)) (r:IsAll H xs ds):Is H (.ref a) (.list ds)
|tup {a:Addr}{xs:List V}{ds:List PyData} (e:H a=some (.tup xs)) (r:IsAll H xs ds):Is H (.ref a) (.tuple ds)
inductive IsAll(H:Hp):List V->List PyData->Prop
|nil:IsAll H [] []
|cons {x:V}{xs:List V}{d:PyData}{ds:List PyData} (h:Is H x d) (r:IsAll H xs ds):IsAll H (x::xs) (d::ds)
end
section
variable {P:Program}{w:World}{H:Hp}{h:Heap}
mutual
theorem Is.reads(ok:HOk P w H h):∀{x:V}{d:PyData}{v:Value},Is H x d->RelV x v->∃as,Reads h v d as
|_,_,_,.non,r=>by cases r;exact⟨_,.none⟩
|_,_,_,.bl b,r=>by cases r;exact⟨_,.bool b⟩
|_,_,_,.int i,r=>by obtain⟨t,rfl⟩:=r;exact⟨_,.int i t⟩
|_,_,_,.str z,r=>by obtain⟨t,rfl⟩:=r;exact⟨_,.str z t⟩
|_,_,_,.lst e q,r=>by cases r;obtain⟨_,its,n,rv,e2⟩:=ok _ _ e;obtain⟨as,ra⟩:=IsAll.reads ok q rv;exact⟨_,.list e2 rfl rfl (by simpa using ra)⟩
|_,_,_,.tup e q,r=>by cases r;obtain⟨_,its,rv,o,e2,hc,n,hd⟩:=ok _ _ e;obtain⟨as,ra⟩:=IsAll.reads ok q rv;exact⟨_,.tuple e2 hc hd (by simpa using ra)⟩
theorem IsAll.reads(ok:HOk P w H h):∀{xs:List V}{ds:List PyData}{us:List Value},IsAll H xs ds->Vals xs us->∃as,ReadsAll h us ds as
|_,_,_,.nil,r=>by cases r;exact⟨_,.nil⟩
|_,_,_,.cons a b,r=>by
  cases r with
 |cons r1 r2=>obtain⟨as,h1⟩:=Is.reads ok a r1;obtain⟨bs,h2⟩:=IsAll.reads ok b r2;exact⟨_,.cons h1 h2⟩
end
mutual
theorem Is.nodict:∀{x:V}{d:PyData},Is H x d->d.hasDict=false
|_,_,.non=>by simp only[PyData.hasDict]
|_,_,.bl b=>by simp only[PyData.hasDict]
|_,_,.int i=>by simp only[PyData.hasDict]
|_,_,.str z=>by simp only[PyData.hasDict]
|_,_,.lst e q=>by simp only[PyData.hasDict];exact IsAll.nodict q
|_,_,.tup e q=>by simp only[PyData.hasDict];exact IsAll.nodict q
theorem IsAll.nodict:∀{xs:List V}{ds:List PyData},IsAll H xs ds->PyData.hasDictAll ds=false
|_,_,.nil=>by simp only[PyData.hasDictAll]
|_,_,.cons a b=>by simp only[PyData.hasDictAll,Is.nodict a,IsAll.nodict b,Bool.or_false]
end
mutual
theorem Is.same{H':Hp}(s:Same H H'):∀{x:V}{d:PyData},Is H x d->Is H' x d
|_,_,.non=>.non
|_,_,.bl b=>.bl b
|_,_,.int i=>.int i
|_,_,.str z=>.str z
|_,_,.lst e q=>.lst (s _ _ e) (IsAll.same s q)
|_,_,.tup e q=>.tup (s _ _ e) (IsAll.same s q)
theorem IsAll.same{H':Hp}(s:Same H H'):∀{xs:List V}{ds:List PyData},IsAll H xs ds->IsAll H' xs ds
|_,_,.nil=>.nil
|_,_,.cons a b=>.cons (Is.same s a) (IsAll.same s b)
end
end
section
variable {X:Cx}
noncomputable def EW:List V->Hp->VK->Prop:=λxs H Q=>∃a d,xs=[.ref a]/\Is H (.ref a) d/\d.showable=true/\d.depth<=64/\d.shown.length<=sizeLine/\Q (.str d.shown) H
theorem Mu{k:Nat}(hr:Room k X.A):YM X (.builtin "repr") EW:=by intro pins s σ H xs us Q I r h;obtain⟨a,d,rfl,hd,hs,hdp,hz,q⟩:=h;obtain⟨u,rfl,rx⟩:=vals1 r;obtain⟨as,rd⟩:=hd.reads I.hok rx;cases rx;exact repr_of_reads' rd hs (PyData.noDict_hsm hd.nodict) hr.gd (by have:=hr.un;omega) (λ_ _ e=>e) (λh' u tk hk=>⟨.str d.shown,H,I.kept hk,⟨u,rfl⟩,q⟩) hz
end
theorem Zj.new'{b l:Addr}{H H1:Hp}{o:HO}(x:Zj b H H1)(hl:H1 l=none):Zj b H (L2.upd H1 l o):=λc u h hc=>by rw[Ze (Zf (x c u h hc) hl)];exact x c u h hc
theorem Zj.put{b:Addr}{H H1:Hp}{o:HO}(x:Zj b H H1):Zj b H (L2.upd H1 b o):=λc u h hc=>by rw[Ze hc];exact x c u h hc
theorem at_of{α:Type}{xs:List α}{r:Int}(h0:0<=r)(h1:r<(xs.length:Int)):∃v,atI xs r=some v/\v∈xs:=by
 have e1:((r.toNat:Nat):Int)=r:=Int.toNat_of_nonneg h0;have hr':r.toNat<xs.length:=by omega
 refine⟨xs[r.toNat],?_,List.getElem_mem hr'⟩;have h:=Zr (xs:=xs) (List.getElem?_eq_getElem hr');rwa [e1]at h
end L2
namespace WD
open PySem L2 PySem.Spec PyProof.Rows TB
noncomputable def Blts:List Str:=["len","range","int","list","tuple","zip","sum","repr","max","isinstance","bool","str","enumerate"]
noncomputable def boxV(x y z:Int):HO:=.lst [.int x,.int y,.int z]
def Zz(H:Hp)(b:Addr):Prop:=∃x y z:Int,H b=some (boxV x y z)
theorem Zz.new{H:Hp}{b l:Addr}{o:HO}(h:Zz H b)(hl:H l=none):Zz (upd H l o) b:=by obtain⟨x,y,z,e⟩:=h;exact⟨x,y,z,by rw[Ze (Zf e hl)];exact e⟩
theorem Zz.ne{H:Hp}{b l:Addr}(h:Zz H b)(hl:H l=none):l≠b:=by obtain⟨x,y,z,e⟩:=h;exact(Zf e hl).symm
theorem Zz.same{H H':Hp}{b:Addr}(h:Zz H b)(s:Same H H'):Zz H' b:=by obtain⟨x,y,z,e⟩:=h;exact⟨x,y,z,s _ _ e⟩
def LZ:Sp:=λvs H Q _=>∃c:Int,vs=[.int c]/\∀l H',H l=none->Zz H' l->Same H H'->Q (.ref l) H'
def Xj:Sp:=λvs H Q _=>∃(b:Addr)(n:Int),vs=[.ref b,.int n]/\Zz H b/\0<n/\n.natAbs.log2<9000/\∀(r:Int)H',0<=r->r<n->Zz H' b->Zj b H H'->Q (.int r) H'
def Nb:Sp:=λvs H Q _=>∃(b:Addr),vs=[.ref b]/\Zz H b/\∀(r:Int)H',0<=r->r<=1000->Zz H' b->Zj b H H'->Q (.int r) H'
theorem MJ(a m:Int)(h:0<m)(hm:m<2 ^ 64):-(2 ^ 64)<a % m/\a % m<2 ^ 64:=by have h1:=Int.emod_nonneg a (by omega:m≠0);have h2:=Int.emod_lt_of_pos a h;omega
theorem Zw{n:Int}(h:0<=n)(h2:n<=1000):n.natAbs.log2<9000:=Nat.lt_of_le_of_lt (Nat.log2_le_self _) (by omega)
theorem Jc{p:Bool}{A B:Prop}(h1:p=true->A)(h2:p=false->B):if p=true then A else B:=by
 cases p
 ·exact h2 rfl
 ·exact h1 rfl
section
variable {P:Program}{w:World}{K:PySem.W.Frag}{mg:Str->Option Value}{base:Heap}
theorem QB:FnScope ["_law_cell_here"] ["_law_cell_here"] (Zg T.f__law_box):=scO (by decide +kernel)
theorem LK(B:∀x∈Blts,mg x=none)(D:Df K mg "_law_box" T.f__law_box ["_law_cell_here"]):Can P w K mg base 1 "_law_box" ["_law_cell_here"] LZ:=by
 refine D.can QB (λvs H Q E h=>?_) (λf cdv A outer s H vs Q E hr h=>?_)
 ·obtain⟨c,rfl,_⟩:=h;rfl
 ·obtain⟨c,rfl,k⟩:=h;refine⟨_,(Zk (Zq (ZQ (Za (ZI (TF rfl) rfl (B _ (by decide +kernel)) PyProof.Rows.boot_max (Za Zi (Za (Zv Ny (pv 0) (Zv DP Zi Zi)) Zb))) (Za (Zv XX (pv 0) Zi) (Za Zi Zb)))))),?_⟩;refine⟨_,rfl,_,_,rfl,rfl,⟨by decide,by decide,by decide⟩,_,_,rfl,rfl,_,_,rfl,_,rfl,_,_,rfl,rfl,(by show(0:Int)<2147483647;decide),(by show 3<=sizeLine;decide),λp hp=>?_⟩;exact k p _ hp ⟨_,_,_,Zc⟩ (sameNew (Same.refl _) hp)
theorem XG:FnScope ["_law_box_here","_law_many","_law_digit","_law_number"] ["_law_box_here","_law_many"] (Zg T.f__law_take):=scO (by decide +kernel)
theorem Km(D:Df K mg "_law_take" T.f__law_take ["_law_box_here","_law_many"]):Can P w K mg base 1 "_law_take" ["_law_box_here","_law_many"] Xj:=by
 refine D.can XG (λvs H Q E h=>?_) (λf cdv A outer s H vs Q E hr h=>?_)
 ·obtain⟨b,n,rfl,_⟩:=h;rfl
 ·obtain⟨b,n,rfl,⟨x,y,z,hb⟩,hn,hlog,k0⟩:=h;have k:∀r x' y' z':Int,0<=r->r<n->Q (.int r) (upd H b (boxV x' y' z')):=λr x' y' z' h0 h1=>k0 r _ h0 h1 ⟨_,_,_,Zc⟩ (Zj.refl b H).put;refine⟨_,(Zd (ZP (ZC RK (il K (pv 0) Zi) Zi (ZD _)) (Zd (st 2 XG.nd (Zv XX (il K (pv 0) Zi) (pv 1))) (Zd (UJ (Zv WX (il K (pv 0) Zi) (pv 1)) (WO (pv 0) Zi set_list)) (Zk (Zq (pv 2))))) Zx) (Zd (UJ (Zv Yp (il K (pv 0) Zi) Zi) (WO (pv 0) Zi set_list)) (Zd (st 3 XG.nd (Zv XX (Zv Yp (Zv Yp (Zv UM (il K (pv 0) Zi) Zi) (Zv UM Zi (il K (pv 0) Zi))) Zi) Zi)) (Zd (st 3 XG.nd (Zv XX (Zv UM (Zv XX (Zv UM (pv 3) (pv 3)) Zi) Zi) Zi)) (Zk (Zq (Zv XX (Zv Ln (Zv XX (Zv UM (pv 3) (pv 3)) Zi) Zi) (pv 1)))))))),?_⟩;have a0:atI [V.int x,V.int y,V.int z] 0=some (.int x):=Zr (j:=0) rfl;refine⟨_,rfl,b,_,0,_,rfl,rfl,SqL.of hb,a0,_,_,rfl,rfl,_,rfl,?_⟩;refine ite2 (λe=>?_) (λe=>?_)
  ·refine⟨_,rfl,b,_,0,_,rfl,rfl,SqL.of hb,a0,_,rfl,_,_,rfl,rfl,hn,?_⟩;refine⟨_,rfl,b,_,0,_,rfl,rfl,SqL.of hb,a0,_,rfl,_,_,rfl,rfl,⟨hn,hlog⟩,?_⟩;refine⟨_,rfl,b,_,0,0,rfl,rfl,hb,rfl,_,rfl,?_⟩;exact k _ _ _ _ (Int.emod_nonneg _ (by omega)) (Int.emod_lt_of_pos _ hn)
  ·have a2:atI [V.int x,V.int y,V.int z] 2=some (.int z):=Zr (j:=2) rfl;refine⟨_,rfl,b,_,2,_,rfl,rfl,SqL.of hb,a2,_,_,rfl,rfl,?_⟩;refine⟨_,rfl,b,_,2,2,rfl,rfl,hb,rfl,?_⟩;have hb2:upd H b (.lst ([V.int x,V.int y,V.int z].set 2 (.int (z+1)))) b=some (boxV x y (z+1)):=Zc;have b1:atI [V.int x,V.int y,V.int (z+1)] 1=some (.int y):=Zr (j:=1) rfl;have b2:atI [V.int x,V.int y,V.int (z+1)] 2=some (.int (z+1)):=Zr (j:=2) rfl;refine⟨_,rfl,b,_,1,_,rfl,rfl,SqL.of hb2,b1,_,_,rfl,rfl,.inr ⟨by decide,by decide⟩,_,rfl,b,_,2,_,rfl,rfl,SqL.of hb2,b2,_,_,rfl,rfl,.inl ⟨by decide,by decide⟩,_,_,rfl,rfl,_,_,rfl,rfl,_,_,rfl,rfl,(by show(0:Int)<2147483629;decide),?_⟩;refine⟨_,rfl,_,rfl,_,_,rfl,rfl,.inl (MJ _ _ (by decide) (by decide)),_,_,rfl,rfl,(by show(0:Int)<2147483587;decide),_,_,rfl,rfl,.inr ⟨by decide,by decide⟩,_,_,rfl,rfl,(by show(0:Int)<2147483647;decide),?_⟩;refine⟨_,rfl,_,rfl,_,_,rfl,rfl,.inl (MJ _ _ (by decide) (by decide)),_,_,rfl,rfl,(by show(0:Int)<2147483629;decide),_,_,rfl,rfl,⟨by decide,by decide⟩,_,rfl,_,_,rfl,rfl,hn,?_⟩;exact k _ _ _ _ (Int.emod_nonneg _ (by omega)) (Int.emod_lt_of_pos _ hn)
theorem Gg:FnScope ["_law_box_here","_law_way_here"] ["_law_box_here"] (Zg T.f__law_size):=scO (by decide +kernel)
theorem Kn(CT:Can P w K mg base 1 "_law_take" ["_law_box_here","_law_many"] Xj)(D:Df K mg "_law_size" T.f__law_size ["_law_box_here"]):Can P w K mg base 2 "_law_size" ["_law_box_here"] Nb:=by
 refine D.can Gg (λvs H Q E h=>?_) (λf cdv A outer s H vs Q E hr h=>?_)
 ·obtain⟨b,rfl,_⟩:=h;rfl
 ·obtain⟨b,rfl,hb,k⟩:=h;refine⟨_,(Zd (st 1 Gg.nd (cn CT hr (Za (pv 0) (Za Zi Zb)))) (Zd (ZP (ZC Xl (pv 1) Zi (ZD _)) (Zk (Zq (il K (ZQ (Za Zi (Za Zi (Za Zi Zb)))) (cn CT hr (Za (pv 0) (Za Zi Zb)))))) Zx) (Zk (Zq (cn CT hr (Za (pv 0) (Za Zi Zb))))))),?_⟩;refine⟨_,rfl,b,8,rfl,hb,by decide,Zw (by decide) (by decide),λr H1 h0 h1 B1 S1=>?_⟩;refine⟨_,rfl,rfl,_,rfl,?_⟩;refine ite2 (λe=>?_) (λe=>?_)
  ·refine⟨by show 3<=sizeLine;decide,λl hl=>?_⟩;have nlb:=B1.ne hl;refine⟨_,rfl,b,3,rfl,B1.new hl,by decide,Zw (by decide) (by decide),λr2 H2 h02 h12 B2 S2=>?_⟩;obtain⟨v,hv,hm⟩:=at_of (xs:=[V.int 0,.int 1000,.int 999]) h02 h12;refine⟨l,_,r2,v,rfl,rfl,SqL.of (S2 _ _ Zc nlb),hv,?_⟩;have S:Zj b H H2:=(S1.new' hl).trans S2;simp only[List.mem_cons,List.not_mem_nil,or_false]at hm;rcases hm with rfl|rfl|rfl
   ·exact k 0 H2 (by decide) (by decide) B2 S
   ·exact k 1000 H2 (by decide) (by decide) B2 S
   ·exact k 999 H2 (by decide) (by decide) B2 S
  ·refine⟨_,rfl,b,5,rfl,B1,by decide,Zw (by decide) (by decide),λr2 H2 h02 h12 B2 S2=>?_⟩;exact k r2 H2 h02 (by omega) B2 (S1.trans S2)
end
noncomputable abbrev codes:=K1.codes
noncomputable abbrev LET:=K1.LET
theorem Tc{a b:Str}(h:codes a=codes b):a=b:=by
 obtain⟨x⟩:=a;obtain⟨y⟩:=b;have:x=y:=by simpa[K1.codes]using h
 rw[this]
theorem Xi(a b:Str):codes (a++b)=codes a++codes b:=by show(a.cps++b.cps).toList=_;simp[K1.codes]
theorem Ta(c:Nat):codes ⟨#[c]⟩=[c]:=rfl
theorem J6{α:Type}(xs:List α)(a:Nat):∀k,a+k<=xs.length->((List.range k).map λi=>a+i).filterMap (λi=>xs[i]?)=(xs.drop a).take k
|0,_=>by simp
|k+1,h=>by
  rw[List.range_succ,List.map_append,List.filterMap_append,J6 xs a k (by omega)];have hk:a+k<xs.length:=by omega
  rw[List.take_succ];congr 1;simp[hk]
theorem W9(n:Nat)(j:Int)(h:0<=j):Builtin.Str.strSliceIndices none (some j) 1 n=(List.range (min j.toNat n)).map λi=>0+i:=by
 unfold Builtin.Str.strSliceIndices sliceRange;obtain⟨m,rfl⟩:=Int.eq_ofNat_of_zero_le h;simp only[show(1:Int)>0 by decide,if_true,show ¬(m:Int)<0 by omega,if_false];rw[show max 0 (min (m:Int) n)=((min m n:Nat):Int) by omega,Int.toNat_natCast];generalize min m n=t;have e:(if(0:Int)<t then((t:Int)-0+1-1) / 1 else 0).toNat=t:=by rw[Int.ediv_one];split<;>omega
 rw[e];apply List.map_congr_left;intro k _;omega
theorem Ka(n:Nat)(j:Int)(h:0<=j)(h2:j<=n):Builtin.Str.strSliceIndices (some j) none 1 n=(List.range (n-j.toNat)).map λi=>j.toNat+i:=by
 unfold Builtin.Str.strSliceIndices sliceRange;obtain⟨m,rfl⟩:=Int.eq_ofNat_of_zero_le h;simp only[show(1:Int)>0 by decide,if_true,show ¬(m:Int)<0 by omega,if_false];rw[show max 0 (min (m:Int) n)=m by omega,Int.toNat_natCast];have e:(if(m:Int)<(n:Int)then((n:Int)-m+1-1) / 1 else 0).toNat=n-m:=by rw[Int.ediv_one];split<;>omega
 rw[e];apply List.map_congr_left;intro k _;omega
theorem Pk(x:Str)(l:List Nat):(l.filterMap (x.cps[·]?))=l.filterMap (λi=>(codes x)[i]?):=by congr 1;funext i;simp[K1.codes]
theorem ZG(x:Str):(codes x).length=x.length:=K1.clen x
theorem Vv(x:Str)(j:Int)(h:0<=j):codes (Txt.slice x none (some j))=(codes x).take j.toNat:=by
 unfold Txt.slice;rw[W9 _ _ h];split
 ·rename_i hq;have:min j.toNat x.length=x.length:=by simpa using hq
  rw[List.take_of_length_le (by rw[ZG];omega)]
 ·show(List.filterMap _ _)=_;rw[Pk,J6 _ 0 _ (by rw[ZG];omega),List.drop_zero];rcases Nat.le_total j.toNat x.length with hh|hh
  ·rw[Nat.min_eq_left hh]
  ·rw[Nat.min_eq_right hh,List.take_of_length_le (by rw[ZG];exact Nat.le_refl _),List.take_of_length_le (by rw[ZG];omega)]
theorem QW(x:Str)(j:Int)(h:0<=j)(h2:j<=x.length):codes (Txt.slice x (some j) none)=(codes x).drop j.toNat:=by
 unfold Txt.slice;rw[Ka _ _ h h2];split
 ·rename_i hq;have:x.length-j.toNat=x.length:=by simpa using hq
  have hl:=ZG x;rcases Nat.eq_zero_or_pos x.length with e|e
  ·have:codes x=[]:=List.eq_nil_of_length_eq_zero (by omega);rw[this];simp
  ·have:j.toNat=0:=by omega
   rw[this,List.drop_zero]
 ·show(List.filterMap _ _)=_;rw[Pk,J6 _ j.toNat _ (by rw[ZG];omega),List.take_of_length_le (by rw[List.length_drop,ZG];omega)]
theorem Mo:∀(ts:List Str),codes (Txt.join Str.empty ts)=(ts.map codes).flatten
|[]=>rfl
|[t]=>by show codes (Txt.join Str.empty [t])=_;unfold Txt.join;rw[PySem.StrLaws.glued_eq_join];show codes t=_;simp
|t::u::r=>by have ih:=Mo (u::r);unfold Txt.join at ih ⊢;rw[PySem.StrLaws.glued_eq_join]at ih ⊢;show codes (t++Str.empty++Str.join Str.empty (u::r))=_;rw[Xi,Xi,ih];simp[K1.codes,Str.empty]
def Nm(t:Str):Prop:=1<=(codes t).length/\(codes t).length<=8/\∀c∈codes t,c∈LET
def Bs(n:Nat)(t:Str):Prop:=(codes t).length=n/\∀c∈codes t,c∈LET
theorem Bs.join{ts:List Str}(h:∀t∈ts,Bs 1 t):Bs ts.length (Txt.join Str.empty ts):=by
 unfold Bs;rw[Mo];induction ts with
|nil=>simp
|cons t r ih=>
  obtain⟨a,b⟩:=h t List.mem_cons_self;obtain⟨a',b'⟩:=ih λu hu=>h u (List.mem_cons_of_mem _ hu);refine⟨by simp only[List.map_cons,List.flatten_cons,List.length_append,List.length_cons];omega,λc hc=>?_⟩;rw[List.map_cons,List.flatten_cons]at hc;rcases List.mem_append.mp hc with hc|hc
  ·exact b c hc
  ·exact b' c hc
noncomputable def wds:List Str:=["home","ride","turns","place","way","group","out","wait"]
noncomputable def wdsFrom(a n:Nat):List Str:=(List.range n).map λk=>wds.getD ((a+k) % 8) ""
theorem Dl:∀a<8,∀n<9,(wdsFrom a n).Nodup:=by decide +kernel
theorem Dk:∀t∈wds,1<=(codes t).length/\(codes t).length<=8/\∀c∈codes t,c∈LET:=by decide +kernel
theorem Qi(a n:Nat):∀t∈wdsFrom a n,Nm t:=λt ht=>by obtain⟨k,_,rfl⟩:=List.mem_map.mp ht;have:(a+k) % 8<wds.length:=Nat.mod_lt _ (by decide);rw[List.getD_eq_getElem?_getD,List.getElem?_eq_getElem this];exact Dk _ (List.getElem_mem this)
noncomputable def begs(base:Str)(sz n:Nat):List Str:=(List.range n).map λk=>Txt.slice base none (some ((1+(k+sz) % 8:Nat):Int))
theorem LM{base:Str}(hb:Bs 8 base)(sz n:Nat):∀t∈begs base sz n,Nm t:=λt ht=>by obtain⟨k,_,rfl⟩:=List.mem_map.mp ht;unfold Nm;rw[Vv _ _ (by omega)];refine⟨by rw[List.length_take,hb.1];omega,by rw[List.length_take,hb.1];omega,λc hc=>hb.2 c (List.mem_of_mem_take hc)⟩
theorem nodup_map_on{α β:Type}{f:α->β}:∀{l:List α},l.Nodup->(∀a∈l,∀b∈l,f a=f b->a=b)->(l.map f).Nodup
|[],_,_=>List.nodup_nil
|a::l,h,i=>by rw[List.map_cons,List.nodup_cons];rw[List.nodup_cons]at h;refine⟨λhm=>?_,nodup_map_on h.2 λx hx y hy e=>i x (List.mem_cons_of_mem _ hx) y (List.mem_cons_of_mem _ hy) e⟩;obtain⟨b,hb,e⟩:=List.mem_map.mp hm;exact h.1 (i b (List.mem_cons_of_mem _ hb) a List.mem_cons_self e▸hb)
theorem LP{base:Str}(hb:Bs 8 base)(sz:Nat){n:Nat}(hn:n<=8):(begs base sz n).Nodup:=by refine nodup_map_on List.nodup_range λa ha b hb' e=>?_;rw[List.mem_range]at ha hb';have e1:=congrArg (λt=>(codes t).length) e;simp only[Vv _ _ (Int.natCast_nonneg _),List.length_take,hb.1,Int.toNat_natCast]at e1;omega
noncomputable def put(base:Str)(at_:Nat)(c:Nat):Str:=Txt.slice base none (some (at_:Int))++⟨#[c]⟩++Txt.slice base (some (at_:Int)) none
theorem U9{base:Str}{a:Nat}(h:a<=base.length)(c:Nat):codes (put base a c)=(codes base).take a++[c]++(codes base).drop a:=by unfold put;rw[Xi,Xi,Vv _ _ (by omega),QW _ _ (by omega) (by omega),Ta];simp
noncomputable def sgn(f k:Nat):Nat:=LET.getD ((f+5*k) % 26) 0
theorem KZ(f k:Nat):sgn f k∈LET:=by have:(f+5*k) % 26<LET.length:=Nat.mod_lt _ (by decide);unfold sgn;rw[List.getD_eq_getElem?_getD,List.getElem?_eq_getElem this];exact List.getElem_mem this
theorem Dx:∀f<26,∀n<14,((List.range n).map (sgn f)).Nodup:=by decide +kernel
noncomputable def puts(base:Str)(a f n:Nat):List Str:=(List.range n).map λk=>put base a (sgn f k)
theorem Lc{base:Str}{sz:Nat}(hb:Bs sz base)(hs:sz<=7){a:Nat}(ha:a<=sz)(f n:Nat):∀t∈puts base a f n,Nm t:=λt ht=>by
 obtain⟨k,_,rfl⟩:=List.mem_map.mp ht;have hl:base.length=sz:=by rw[<-ZG];exact hb.1
 unfold Nm;rw[U9 (by omega)];refine⟨by simp;omega,by simp[hb.1];omega,λc hc=>?_⟩;simp only[List.mem_append,List.mem_singleton]at hc;rcases hc with(hc|hc)|hc
 ·exact hb.2 c (List.mem_of_mem_take hc)
 ·rw[hc];exact KZ f k
 ·exact hb.2 c (List.mem_of_mem_drop hc)
theorem Ld{base:Str}{sz:Nat}(hb:Bs sz base){a:Nat}(ha:a<=sz){f n:Nat}(hf:f<26)(hn:n<14):(puts base a f n).Nodup:=by
 have hl:base.length=sz:=by rw[<-ZG];exact hb.1
 refine nodup_map_on List.nodup_range λx hx y hy e=>?_;have e1:=congrArg codes e;rw[U9 (by omega),U9 (by omega)]at e1;have e2:sgn f x=sgn f y:=by rw[List.append_assoc,List.append_assoc]at e1;have:=List.append_cancel_left e1;simpa using this
 have nd:=Dx f hf n hn;rw[List.mem_range]at hx hy;have h1:((List.range n).map (sgn f))[x]'(by simpa using hx)=((List.range n).map (sgn f))[y]'(by simpa using hy):=by simpa using e2
 exact(List.getElem_inj nd).mp h1
end WD
namespace L2
open PySem PySem.Spec PyProof.Rows
section
variable {X:Cx}
theorem Yy{i:Nat}{x:Str}{pos' pos2:Pos}{elt iter tg:Expr}{ifs:List Expr}{scope:Scope}{pos:Pos}{N:List Str}{cp:List (Option Nat)}{wi:TI}{g:TG}{tc:TT}{te:TE}(hNd:X.N.Nodup)(hix:X.N[i]?=some x)(hlx:Loc X.env.scope x)(hc:X.calm=true){sc:Scope}{N0:List Str}(hS0:CompScope scope sc)(hN0:CompNames N0 scope N cp)
  (hi:PI X tg iter wi) (hg:∀C s H ex pn,PG (Jo X scope N C s H ex pn) tg g) (ht:∀C s H ex pn,PTs (Jo X scope N C s H ex pn) ifs tc) (he:∀C s H ex pn,PE (Jo X scope N C s H ex pn) elt te)
  (hsw:swapsWith (.ListComp elt [⟨tg,iter,ifs,0⟩] scope pos) (some (.Name x pos')) pos2.line X.env=pure true:=by with_unfolding_all rfl) (hff:X.fn x=true\/X.env.scope.names.lookup x=some .local:=by first|exact .inl rfl|exact .inr rfl|assumption)
  (hsc:X.env.scope=sc:=by rfl) (hxn:X.N=N0:=by rfl) (hs:∀x,foldedSetIterable iter X.env x=pure x:=by intro _;rfl):PS X (.Assign [.Name x pos'] (.ListComp elt [⟨tg,iter,ifs,0⟩] scope pos) pos2) (tAsg (LW cp wi g tc te) (PU i)):=by
 subst hsc hxn
 have hS:=hS0
 have hN:=hN0
 intro pins s σ H D I h
 rw[exec_Assign_Name_used _ _ _ _ hsw]
 refine wpAny_bind (wpAny_standAt (wpAny_bind ?_))
 show wpAny _ _ (do let _ <-comprehension (.ListComp elt [⟨tg,iter,ifs,0⟩] scope pos) scope X.env _ (newList []) false (eval iter X.env) (some (assign (.Name x pos') X.env))) _ _ s
 refine wpAny_bind (wpAny_mono (wpAny_comprehension_free (Q:=λ_ s'=>SP X pins D .next s') (use:=some (assign (.Name x pos') X.env)) (cl:=clOf scope X.env) rfl hs (Mp (Mq I hS)) hS.kind hS.loc (thn (hi pins s σ H _ I h) λv s1 h1=>thn h1 λitv s2 h2=>?_)) (λ_ s' hq=>wpAny_pure (wpAny_pure hq)) λ_ _ e=>e)
 obtain⟨it,fp,tn,J,H2,rfl,I2,T,st2,f2,W,⟨m0,w0⟩,turn⟩:=h2
 refine wpAny_newObj_type (wpAny_newFunctionEnv hS.nocell (by intro y hy;simp at hy) (λh4 hns hsb=>?_) hS.kind)
 dsimp only at hns hsb ⊢
 have hz:(s2.heap.push (Zu [] 0)).objs.size=s2.heap.objs.size+1:=Heap.size_push ..
 have hk4:∀b o,(s2.heap.push (Zu [] 0)).get? b=some o->h4.get? b=some o:=λb o e=>hsb.extBut b o (Nat.ne_of_lt (Heap.lt_size e)) (Heap.get?_push_of_some _ e)
 have hfo:∀b∈fp,∃o,s2.heap.get? b=some o:=λb hb=>let ⟨o,e,_⟩:=T.obj _ _ st2 b hb;⟨o,e⟩
 have fplt:∀b∈fp,b<s2.heap.objs.size:=λb hb=>let ⟨o,e⟩:=hfo b hb;Heap.lt_size e
 generalize hXc:Jo X scope N (s2.heap.push (Zu [] 0)).objs.size {s2 with heap:=s2.heap.push (Zu [] 0)} H2 (s2.heap.objs.size::fp) (X.pn++pins)=Xc
 have J0:∀tk,Inv Xc [(s2.heap.objs.size,Zu [] 0)] (inner cp σ) H2 {s2 with heap:=h4,toks:=tk}:=λtk=>by
  rw[<-hXc]
  exact PL hS hN I2 f2 hfo XQ hns hk4 rfl
 have hg':PG Xc tg g:=hXc▸hg _ _ _ _ _
 have ht':PTs Xc ifs tc:=hXc▸ht _ _ _ _ _
 have he':PE Xc elt te:=hXc▸he _ _ _ _ _
 have eP:Xc.prog=X.prog:=by rw[<-hXc];rfl
 have eW:Xc.w=X.w:=by rw[<-hXc];rfl
 have eK:Xc.K=X.K:=by rw[<-hXc];rfl
 have eA:Xc.A=X.A:=by rw[<-hXc];rfl
 have eC:Xc.calm=true:=by rw[<-hXc];exact hc
 have eX:Xc.xe=NoX:=by rw[<-hXc];rfl
 have eE:Xc.env=compEnvC scope (clOf scope X.env) (s2.heap.push (Zu [] 0)).objs.size X.env:=by rw[<-hXc];rfl
 have eL:Xc.env.locals=(s2.heap.push (Zu [] 0)).objs.size:=by rw[eE];rfl
 have eFs:Xc.fs=frs X.stack:=by rw[<-hXc];rfl
 have eEx:Xc.ex=s2.heap.objs.size::fp:=by rw[<-hXc];rfl
 have eH0:Xc.H₀=H2:=by rw[<-hXc];rfl
 have eS0:Xc.s₀={s2 with heap:=s2.heap.push (Zu [] 0)}:=by rw[<-hXc];rfl
 have ePn:Xc.pn=X.pn++pins:=by rw[<-hXc];rfl
 have stk:∀b∈frs X.stack,b<s2.heap.objs.size:=λb hb=>by
  rcases List.mem_cons.mp (I2.stkSub b hb)with e|e
  ·rw[e];exact I2.lt
  ·exact Nat.lt_of_not_le λz=>I2.nofs z e
 have hDne:s2.heap.objs.size≠Xc.env.locals:=by rw[eL,hz];exact Nat.ne_of_lt (Nat.lt_succ_self _)
 have hDfs:s2.heap.objs.size∉Xc.fs:=by rw[eFs];exact λz=>Nat.lt_irrefl _ (stk _ z)
 have hDp:∀p∈Xc.pn,p.1≠s2.heap.objs.size:=λp hp=>by
  rw[ePn]at hp
  exact Nat.ne_of_lt (Heap.lt_size (I2.pin p hp).1)
 have hDc:∀{τ:St}{H':Hp}{s':Shared}{ps:List (Addr×Obj)},Inv Xc ps τ H' s'->∀x c,Xc.env.cells.lookup x=some c->c≠s2.heap.objs.size:=λI' x c e=>(I'.ok.exf _ (by rw[eEx];exact List.mem_cons_self)).2 x c e
 have stat:∀{τ:St}{H':Hp}{s':Shared}{ps:List (Addr×Obj)}{o:Obj},Inv Xc ps τ H' s'->(∀b∈fp,H' b=none)->∀b∈fp,FpOk Xc [(s2.heap.objs.size,o)] H' b:=λI' hn b hb=>by
  have q:=I'.ok.exf b (by rw[eEx];exact List.mem_cons_of_mem _ hb)
  refine⟨hn b hb,q.1,I'.ok.exfs b (by rw[eEx];exact List.mem_cons_of_mem _ hb),.inl (by rw[eEx];exact List.mem_cons_of_mem _ hb),q.2,λp hp=>?_⟩
  rcases List.mem_append.mp hp with hp|hp
  ·rw[ePn]at hp
   exact(f2 b hb).2.2.2.2.2 p hp
  ·have e:p.1=s2.heap.objs.size:=by
    rw[List.mem_singleton]at hp
    rw[hp]
   rw[e]
   exact Nat.ne_of_gt (fplt b hb)
 have run:∀s5:Shared,(∃tk,s5={s2 with heap:=h4,toks:=tk})->codeAny (model X.prog X.w) X.A (.compLoop (.ListComp elt [⟨tg,iter,ifs,0⟩] scope pos) 0 (.ref it) (.ref s2.heap.objs.size) Xc.env)
   (compPost (model X.prog X.w) X.A X.xe (some (assign (.Name x pos') X.env)) (λ_ s'=>SP X pins D .next s') (.ref s2.heap.objs.size) (s2.heap.push (Zu [] 0)).objs.size) s5:=by
  rintro s5 ⟨tk,rfl⟩
  refine Gm (λn s'=>∃i ys τ H' its k,Inv Xc [(s2.heap.objs.size,Zu its k)] τ H' s'/\Vals ys its/\tn i s'.heap/\(∀b∈fp,H' b=none)/\W i n ys τ H'/\ys.length<=sizeLine) ?_ m0
   ⟨0,[],inner cp σ,H2,[],0,J0 tk,.nil,T.keep _ _ _ st2 λb hb o e=>hk4 b o (Heap.get?_push_of_some _ e),λb hb=>(f2 b hb).1,w0,Nat.zero_le _⟩
  rintro n s3 ⟨i,ys,τ,H3,its,k,I3,rv,st3,fr3,w3,hl3⟩
  rcases turn i n ys τ H3 w3 with⟨stop,qn⟩|⟨go,hl,Nw,hNw,step⟩
  ·have dn:=T.done Xc eP eW eK eC i _ s3 τ H3 NoX I3 (stat I3 fr3) st3 stop
   rw[eA]at dn
   refine thn dn λr s4⟨hr,I4⟩=>?_
   subst hr
   obtain⟨m,hn,_⟩:=id I4.loc
   rw[eL]at hn
   have hs':Heap.SameBut (s2.heap.push (Zu [] 0)).objs.size s4.heap s4.heap:=Heap.SameBut.refl ..
   obtain⟨eD,nD,_⟩:=I4.pin (s2.heap.objs.size,Zu its k) (List.mem_append_right _ List.mem_cons_self)
   have u4:=I4.base
   rw[eFs,eEx,eH0,eS0]at u4
   have hD2:H2 s2.heap.objs.size=none:=I2.hok.fresh (Nat.le_refl _)
   have hfree:=I4.free
   rw[eL]at hfree
   have kp:∀b o,s2.heap.get? b=some o->(s2.heap.push (Zu [] 0)).get? b=some o:=λb o e=>Heap.get?_push_of_some _ e
   have nD':∀b o,s2.heap.get? b=some o->b≠s2.heap.objs.size:=λb o e=>Nat.ne_of_lt (Heap.lt_size e)
   have nC':∀b o,s2.heap.get? b=some o->b≠(s2.heap.push (Zu [] 0)).objs.size:=λb o e=>by rw[hz];exact Nat.ne_of_lt (Nat.lt_succ_of_lt (Heap.lt_size e))
   have nex:∀b o,s2.heap.get? b=some o->b∉fp->b∉s2.heap.objs.size::fp:=λb o e hb z=>(List.mem_cons.mp z).elim (nD' b o e) hb
   have I5:Inv X pins σ (upd H3 s2.heap.objs.size (.lst ys)) s4:=by
    refine I2.call' (s':=s4) (ch:=fp) ?_ ⟨λb o e n hb hx=>?_,λb o e n hb hx=>?_,λb o e n hx=>?_,λb o e hx=>?_,λb xs q=>?_,λb o u q=>?_,λb ps q=>?_⟩ ?_ I4.bare λb hb=>?_
    ·have:=I4.os
     rw[eS0]at this
     exact this
    ·exact(hs'.2 b (nC' b o e)).trans (u4.keep b o (kp b o e) n hb (nex b o e hx))
    ·obtain⟨sl,q⟩:=u4.slot b o (kp b o e) n hb (nex b o e hx)
     exact⟨sl,(hs'.2 b (nC' b o e)).trans q⟩
    ·rw[Ze (nD' b o e)]
     exact u4.free b o (kp b o e) n (nex b o e hx)
    ·obtain⟨o',q⟩:=u4.there b o (kp b o e) (nex b o e hx)
     exact⟨o',(hs'.2 b (nC' b o e)).trans q⟩
    ·rw[Ze (Zf q hD2)]
     exact u4.tups b xs q
    ·rw[Ze (Zf q hD2)]
     exact u4.frzs b o u q
    ·rw[Ze (Zf q hD2)]
     exact u4.tbls b ps q
    ·intro b ob q
     have keepC:∀c v,H3 c≠none->s4.heap.get? c=some v->s4.heap.get? c=some v:=λc v hc q=>(hs'.2 c (λz=>hc (by rw[z];exact hfree))).trans q
     by_cases hb:b=s2.heap.objs.size
     ·subst hb
      rw[Zc]at q
      cases q
      exact⟨hl3,its,k,rv,(hs'.2 _ (by rw[hz];exact Nat.ne_of_lt (Nat.lt_succ_self _))).trans eD⟩
     ·rw[Ze hb]at q
      have ok4:ZJ X.prog X.w H3 s4.heap b ob:=by have:=I4.hok b ob q;rw[eP,eW]at this;exact this
      refine ok4.stay (λc v hc' q'=>keepC c v ?_ q') (λc q'=>by rw[Ze (Zf q' nD)];exact q') λc xs q'=>by rw[Ze (Zf q' nD)];exact q'
      rcases hc' with rfl|hc'
      ·rw[q];simp
      ·rw[hc'];simp
    ·obtain⟨g0,g1,g2,g3,g4,g5⟩:=f2 b hb
     exact⟨g3,g1,g4,g5⟩
   have hCn:(s2.heap.push (Zu [] 0)).objs.size≠X.env.locals:=by rw[hz];exact Nat.ne_of_gt (Nat.lt_succ_of_lt I2.lt)
   have hCc:∀y c,X.env.cells.lookup y=some c->c≠(s2.heap.push (Zu [] 0)).objs.size:=λy c e=>by
    obtain⟨v,o,ho,_⟩:=I2.cell y c e
    exact nC' c o ho
   have hCH:upd H3 s2.heap.objs.size (.lst ys) (s2.heap.push (Zu [] 0)).objs.size=none:=by
    rw[Ze (by rw[hz];exact Nat.succ_ne_self _)]
    exact hfree
   refine wpAny_assign_Name (MI I5 hNd hix hlx (v:=.ref s2.heap.objs.size) rfl (λs' I6 hsb=>?_) hff)
   obtain⟨a,hsb,ha⟩:=hsb
   have haC:(s2.heap.push (Zu [] 0)).objs.size≠a:=by
    rcases ha with rfl|ha
    ·exact hCn
    ·exact(hCc _ _ ha).symm
   refine⟨m,hn.sameBut hsb haC,λh'' hs''=>⟨_,_,I6.turned (t':=s'.toks) (it:=(s2.heap.push (Zu [] 0)).objs.size) (λb o hb e=>(hs''.2 b hb).trans e) hCH hCn ?_ hCc ?_,qn _ nD⟩⟩
   ·right
    rw[hz]
    exact Nat.le_succ_of_le I2.sz
   ·intro p hp
    exact nC' p.1 p.2 (I2.pin p hp).1
  ·have itm:=T.item Xc eP eW eK eC i _ s3 τ H3 NoX I3 (stat I3 fr3) st3 go
   rw[eA]at itm
   refine thn itm λr s4⟨u,hr,h4'⟩=>?_
   subst hr
   refine thn h4' λ_ s5⟨x,H5,I5,r5,y5,st5,fr5⟩=>?_
   have I5':=I5.pinned (stat I5 fr5) (T.obj _ _ st5)
   have a1:=hg' _ s5 τ H5 x u _ I5' r5 (step x H5 y5)
   rw[eP,eW,eA,eX]at a1
   refine thn a1 λ_ s6⟨τ6,H6,I6,q6⟩=>?_
   have a2:=ht' _ s6 τ6 H6 _ I6 q6
   rw[eP,eW,eA,eX]at a2
   refine thn a2 λok s7⟨H7,I7,q7⟩=>?_
   have tnAt:∀{τ':St}{H':Hp}{s':Shared},Inv Xc ([(s2.heap.objs.size,Zu its k)]++UK fp s5.heap) τ' H' s'->tn (i+1) s'.heap/\∀b∈fp,H' b=none:=λI'=>
    ⟨T.keep _ _ _ st5 λb hb o e=>(I'.pin (b,o) (List.mem_append_right _ (List.mem_append_right _ (mem_pinsAt hb e)))).1,λb hb=>by
     obtain⟨o,e,d⟩:=T.obj _ _ st5 b hb
     exact(I'.pin (b,o) (List.mem_append_right _ (List.mem_append_right _ (mem_pinsAt hb e)))).2.1⟩
   cases ok with
  |false=>
    rw[if_neg Bool.false_ne_true]at q7
    rw[if_neg Bool.false_ne_true]
    obtain⟨m',hm,w7⟩:=hNw _ _ _ q7
    exact⟨m',hm,i+1,ys,τ6,H7,its,k,I7.unpinned,rv,(tnAt I7).1,(tnAt I7).2,w7,hl3⟩
  |true=>
    rw[if_pos rfl]at q7
    rw[if_pos rfl]
    have a3:=he' _ s7 τ6 H7 _ I7 q7
    rw[eP,eW,eA,eX]at a3
    refine thn a3 λv s8⟨y,H8,I8,r8,q8⟩=>?_
    obtain⟨m',hm,w8⟩:=hNw _ _ _ q8
    obtain⟨eD,nD,_⟩:=I8.pin (s2.heap.objs.size,Zu its k) (List.mem_append_right _ (List.mem_append_left _ List.mem_cons_self))
    have hlen:=rv.length
    refine call_meets F.slot_list_append ⟨_,eD,rfl⟩ F.entry_list_append (F.args_list_append_2 _ _) (PySem.list_append s2.heap.objs.size its.toArray k v (by rw[List.size_toArray];omega)) ⟨eD,?_⟩
    have q0:=PySem.IsL.update eD (·.push v)
    obtain⟨k',q⟩:∃k',(s8.heap.update s2.heap.objs.size (Obj.mapSeq (·.push v))).get? s2.heap.objs.size=some (Zu (its++[v]) k'):=⟨_,by
     have e:(its++[v]).toArray=its.toArray.push v:=by simp
     unfold Zu
     rw[e]
     exact q0⟩
    have I9:Inv Xc [] τ6 H8 s8:=I8.pins_of λp hp=>absurd (show p∈([]:List (Addr×Obj))from hp) (by simp)
    refine⟨m',hm,i+1,ys++[y],τ6,H8,its++[v],k',?_,rv.append (.cons r8 .nil),T.keep _ _ _ (tnAt I8).1 λb hb o e=>?_,(tnAt I8).2,w8,?_⟩
    ·refine Inv.pins_of (pins:=[]) (I9.turned (t':=s8.toks) (it:=s2.heap.objs.size) (λb o hb e=>(Heap.get?_update_other _ _ (Ne.symm hb)).trans e) nD hDne (.inl (by rw[eEx];exact List.mem_cons_self)) (hDc I9) (λp hp=>hDp p (by simpa using hp))) λp hp=>?_
     have e:p=(s2.heap.objs.size,Zu (its++[v]) k'):=by simpa using hp
     subst e
     exact⟨q,nD,hDne,hDfs,XQ⟩
    ·exact(Heap.get?_update_other _ _ (Nat.ne_of_gt (fplt b hb))).trans e
    ·rw[List.length_append,List.length_singleton]
     omega
 have st4:tn 0 h4:=T.keep _ _ _ st2 λb hb o e=>hk4 b o (Heap.get?_push_of_some _ e)
 have fin:=codeAny_compStart_list (run _ ⟨_,rfl⟩) (T.self X.A 0 {s2 with heap:=h4,toks:=s2.toks+([]:List (Str×Value)).length} _ (notedBy (model X.prog X.w) X.A Xc.env λex s'=>(compPost (model X.prog X.w) X.A X.xe (some (assign (.Name x pos') X.env)) (λ_ s'=>SP X pins D .next s') (.ref s2.heap.objs.size) (s2.heap.push (Zu [] 0)).objs.size) (.error ex) s') st4 (run _ ⟨_,rfl⟩))
 rw[eE]at fin
 exact fin
end
end L2
namespace WD
open PySem L2 PySem.Spec PyProof.Rows TB
def Nd:Sp:=λvs H Q _=>∃(b:Addr)(n:Int),vs=[.ref b,.int n]/\Zz H b/\1<=n/\n<=13/\∀H' l(ts:List Str),Zz H' b->Zj b H H'->H' l=some (.lst (ts.map V.str))->l≠b->(ts.length:Int)=n->ts.Nodup->(∀t∈ts,Nm t)->Q (.ref l) H'
theorem modN{x:Int}{k n:Nat}(h:x=k):x % (n:Int)=((k % n:Nat):Int):=by rw[h];rfl
theorem RZ{p:Bool}{C B A:Prop}(h1:p=true->B->C)(h2:B):if p=true then C else(if false=true then A else B):=by
 cases p
 ·exact h2
 ·exact h1 rfl h2
theorem KG{r:Int}(h0:0<=r)(h1:r<26):∃c,atI (codes K1.tLET) r=some c/\c∈LET:=by obtain⟨c,h,m⟩:=at_of (xs:=codes K1.tLET) h0 (by rw[show codes K1.tLET=LET from K1.cLET];exact h1);rw[show codes K1.tLET=LET from K1.cLET]at m;exact⟨c,h,m⟩
theorem Rc{α:Type}{xs:List α}{i:Int}{j:Nat}{v:α}(e:i=(j:Int))(h:xs[j]?=some v):atI xs i=some v:=by rw[e];exact Zr h
theorem MX{b:Addr}{H H1:Hp}{i:Nat}{ts:List Str}{c:Nat}(e:ts.length=i)(h:∀t∈ts,Bs 1 t)(hc:c∈LET):(ts++[(⟨#[c]⟩:Str)]).length=i+1/\∀t∈ts++[(⟨#[c]⟩:Str)],Bs 1 t:=by
 refine⟨by simp[e],λt ht=>?_⟩;rcases List.mem_append.mp ht with ht|ht
 ·exact h t ht
 ·rw[List.mem_singleton]at ht;subst ht;exact⟨rfl,λd hd=>by rw[List.mem_singleton.mp hd];exact hc⟩
theorem Qs:∀(ts:List Str),(∀t∈ts,Bs 1 t)->(ts.map (·.length)).sum=ts.length
|[],_=>rfl
|t::r,h=>by have h1:=(h t List.mem_cons_self).1;rw[ZG]at h1;rw[List.map_cons,List.sum_cons,h1,Qs r λu hu=>h u (List.mem_cons_of_mem _ hu),List.length_cons];omega
theorem Dm(a i:Nat):(wds.map V.str)[(a+i) % 8]?=some (.str (wds.getD ((a+i) % 8) "")):=by have:(a+i) % 8<wds.length:=Nat.mod_lt _ (by decide);rw[List.getElem?_map,List.getD_eq_getElem?_getD,List.getElem?_eq_getElem this];rfl
theorem Dy(f i:Nat):(codes K1.tLET)[(f+5*i) % 26]?=some (sgn f i):=by have:(f+5*i) % 26<LET.length:=Nat.mod_lt _ (by decide);rw[show codes K1.tLET=LET from K1.cLET,sgn,List.getD_eq_getElem?_getD,List.getElem?_eq_getElem this];rfl
section
variable {P:Program}{w:World}{K:PySem.W.Frag}{mg:Str->Option Value}{base:Heap}
theorem ZN:FnScope ["_law_box_here","_law_many","_law_letters","_law_way_here","_law_words","_law_at","_law_size_here","_law_base","_law_first","_law_signs"] ["_law_box_here","_law_many"] (Zg T.f__law_names):=scO (by decide +kernel)
noncomputable def XE:Scope:={kind:=.function,names:=[(Str.ofString ".0",.local),(Str.ofString "_law_k",.local),(Str.ofString "_law_at",.free),(Str.ofString "_law_words",.free)],isGenerator:=false,isCoroutine:=false,more:=[]}
theorem Ut:CompScope XE (Zg T.f__law_names):=⟨rfl,by decide +kernel,by decide +kernel,by decide +kernel⟩
theorem Uv:(["_law_k","_law_at","_law_words"]:List Str).Nodup:=by decide +kernel
theorem Uu:CompNames ["_law_box_here","_law_many","_law_letters","_law_way_here","_law_words","_law_at","_law_size_here","_law_base","_law_first","_law_signs"] XE ["_law_k","_law_at","_law_words"] [none,some 5,some 4]:=.mk' (by decide +kernel)
noncomputable def XA:Scope:={kind:=.function,names:=[(Str.ofString ".0",.local),(Str.ofString "_law_k",.local),(Str.ofString "_law_take",.globalImplicit),(Str.ofString "_law_box_here",.free),(Str.ofString "_law_letters",.free)],isGenerator:=false,isCoroutine:=false,more:=[]}
theorem Uq:CompScope XA (Zg T.f__law_names):=⟨rfl,by decide +kernel,by decide +kernel,by decide +kernel⟩
theorem Us:(["_law_k","_law_box_here","_law_letters"]:List Str).Nodup:=by decide +kernel
theorem Ur:CompNames ["_law_box_here","_law_many","_law_letters","_law_way_here","_law_words","_law_at","_law_size_here","_law_base","_law_first","_law_signs"] XA ["_law_k","_law_box_here","_law_letters"] [none,some 0,some 2]:=.mk' (by decide +kernel)
noncomputable def Xz:Scope:={kind:=.function,names:=[(Str.ofString ".0",.local),(Str.ofString "_law_k",.local),(Str.ofString "_law_base",.free),(Str.ofString "_law_size_here",.free)],isGenerator:=false,isCoroutine:=false,more:=[]}
theorem Um:CompScope Xz (Zg T.f__law_names):=⟨rfl,by decide +kernel,by decide +kernel,by decide +kernel⟩
theorem Up:(["_law_k","_law_base","_law_size_here"]:List Str).Nodup:=by decide +kernel
theorem Uo:CompNames ["_law_box_here","_law_many","_law_letters","_law_way_here","_law_words","_law_at","_law_size_here","_law_base","_law_first","_law_signs"] Xz ["_law_k","_law_base","_law_size_here"] [none,some 7,some 6]:=.mk' (by decide +kernel)
noncomputable def Xy:Scope:={kind:=.function,names:=[(Str.ofString ".0",.local),(Str.ofString "_law_k",.local),(Str.ofString "_law_take",.globalImplicit),(Str.ofString "_law_box_here",.free),(Str.ofString "_law_letters",.free)],isGenerator:=false,isCoroutine:=false,more:=[]}
theorem Uj:CompScope Xy (Zg T.f__law_names):=⟨rfl,by decide +kernel,by decide +kernel,by decide +kernel⟩
theorem Ul:(["_law_k","_law_box_here","_law_letters"]:List Str).Nodup:=by decide +kernel
theorem Uk:CompNames ["_law_box_here","_law_many","_law_letters","_law_way_here","_law_words","_law_at","_law_size_here","_law_base","_law_first","_law_signs"] Xy ["_law_k","_law_box_here","_law_letters"] [none,some 0,some 2]:=.mk' (by decide +kernel)
noncomputable def Xx:Scope:={kind:=.function,names:=[(Str.ofString ".0",.local),(Str.ofString "_law_k",.local),(Str.ofString "_law_first",.free),(Str.ofString "_law_letters",.free)],isGenerator:=false,isCoroutine:=false,more:=[]}
theorem Ug:CompScope Xx (Zg T.f__law_names):=⟨rfl,by decide +kernel,by decide +kernel,by decide +kernel⟩
theorem Ui:(["_law_k","_law_first","_law_letters"]:List Str).Nodup:=by decide +kernel
theorem Uh:CompNames ["_law_box_here","_law_many","_law_letters","_law_way_here","_law_words","_law_at","_law_size_here","_law_base","_law_first","_law_signs"] Xx ["_law_k","_law_first","_law_letters"] [none,some 8,some 2]:=.mk' (by decide +kernel)
noncomputable def Xw:Scope:={kind:=.function,names:=[(Str.ofString ".0",.local),(Str.ofString "_law_sign",.local),(Str.ofString "_law_at",.free),(Str.ofString "_law_base",.free)],isGenerator:=false,isCoroutine:=false,more:=[]}
theorem Uc:CompScope Xw (Zg T.f__law_names):=⟨rfl,by decide +kernel,by decide +kernel,by decide +kernel⟩
theorem Ue:(["_law_sign","_law_at","_law_base"]:List Str).Nodup:=by decide +kernel
theorem Ud:CompNames ["_law_box_here","_law_many","_law_letters","_law_way_here","_law_words","_law_at","_law_size_here","_law_base","_law_first","_law_signs"] Xw ["_law_sign","_law_at","_law_base"] [none,some 5,some 7]:=.mk' (by decide +kernel)
theorem Tu(B:∀x∈Blts,mg x=none)(CT:Can P w K mg base 1 "_law_take" ["_law_box_here","_law_many"] Xj)(D:Df K mg "_law_names" T.f__law_names ["_law_box_here","_law_many"]):Can P w K mg base 2 "_law_names" ["_law_box_here","_law_many"] Nd:=by
 refine D.can ZN (λvs H Q E h=>?_) (λf cdv A outer s H vs Q E hr h=>?_)
 ·obtain⟨b,n,rfl,_⟩:=h;rfl
 ·obtain⟨b,n,rfl,hb,hn1,hn2,k⟩:=h;have hsz:n.toNat<=sizeLine:=Nat.le_trans (by omega:n.toNat<=1000) (by decide);refine⟨_,(Zd (Yn (i:=2) ZN.nd rfl (Or.inr rfl) Zn) (Zd (st 3 ZN.nd (cn CT hr (Za (pv 0) (Za Zi Zb)))) (Zd (ZP (PW.pt (QE (ZC Xl (pv 3) Zi (ZD _)) (Nq (ZC WW (pv 1) Zi (ZD _))))) (Zd (Yn (i:=4) ZN.nd rfl (Or.inr rfl) (ZQ (Za Zn (Za Zn (Za Zn (Za Zn (Za Zn (Za Zn (Za Zn (Za Zn Zb)))))))))) (Zd (Yn (i:=5) ZN.nd rfl (Or.inr rfl) (cn CT hr (Za (pv 0) (Za Zi Zb)))) (Zk (Zq (Yz (scope:=XE) (N:=["_law_k","_law_at","_law_words"]) (cp:=[none,some 5,some 4]) rfl Ut Uu (YR rfl (B _ (by decide +kernel)) (Za (pv 1) Zb)) (λC s H ex pn=>(Zo (i:=0) Uv rfl (Or.inl rfl))) (λC s H ex pn=>ZO) (λC s H ex pn=>(il K (pv 2) (Zv XX (Zv Yp (pv 1) (pv 0)) Zi)))))))) Zx) (Zd (Yn (i:=6) ZN.nd rfl (Or.inr rfl) (cn CT hr (Za (pv 0) (Za Zi Zb)))) (Zd (ZP (PW.pt (QE (ZC Xl (pv 3) Zi (ZD _)) (Nq (ZC WW (pv 1) Zi (ZD _))))) (Zd (Yn (i:=7) ZN.nd rfl (Or.inr rfl) (Yq PySem.F.plainAttrs_str PySem.F.slot_str_join PySem.F.type_str_join XO Zn (Za (Yz (scope:=XA) (N:=["_law_k","_law_box_here","_law_letters"]) (cp:=[none,some 0,some 2]) rfl Uq Ur (YR rfl (B _ (by decide +kernel)) (Za Zi Zb)) (λC s H ex pn=>(Zo (i:=0) Us rfl (Or.inl rfl))) (λC s H ex pn=>ZO) (λC s H ex pn=>(Z2 UT (pv 2) (cn CT hr (Za (pv 1) (Za Zi Zb))) (λ_ _=>rfl)))) Zb))) (Zk (Zq (Yz (scope:=Xz) (N:=["_law_k","_law_base","_law_size_here"]) (cp:=[none,some 7,some 6]) rfl Um Uo (YR rfl (B _ (by decide +kernel)) (Za (pv 1) Zb)) (λC s H ex pn=>(Zo (i:=0) Up rfl (Or.inl rfl))) (λC s H ex pn=>ZO) (λC s H ex pn=>(Yv Qy (pv 1) YH (YG (Zv Yp Zi (Zv XX (Zv Yp (pv 0) (pv 2)) Zi))))))))) Zx) (Zd (Yn (i:=5) ZN.nd rfl (Or.inr rfl) (cn CT hr (Za (pv 0) (Za (Zv Yp (pv 6) Zi) Zb)))) (Zd (Yn (i:=7) ZN.nd rfl (Or.inr rfl) (Yq PySem.F.plainAttrs_str PySem.F.slot_str_join PySem.F.type_str_join XO Zn (Za (Yz (scope:=Xy) (N:=["_law_k","_law_box_here","_law_letters"]) (cp:=[none,some 0,some 2]) rfl Uj Uk (YR rfl (B _ (by decide +kernel)) (Za (pv 6) Zb)) (λC s H ex pn=>(Zo (i:=0) Ul rfl (Or.inl rfl))) (λC s H ex pn=>ZO) (λC s H ex pn=>(Z2 UT (pv 2) (cn CT hr (Za (pv 1) (Za Zi Zb))) (λ_ _=>rfl)))) Zb))) (Zd (Yn (i:=8) ZN.nd rfl (Or.inr rfl) (cn CT hr (Za (pv 0) (Za Zi Zb)))) (Zd (Yy (i:=9) ZN.nd rfl (Or.inl rfl) (scope:=Xx) (N:=["_law_k","_law_first","_law_letters"]) (cp:=[none,some 8,some 2]) rfl Ug Uh (YR rfl (B _ (by decide +kernel)) (Za (pv 1) Zb)) (λC s H ex pn=>(Zo (i:=0) Ui rfl (Or.inl rfl))) (λC s H ex pn=>ZO) (λC s H ex pn=>(Z2 UT (pv 2) (Zv XX (Zv Yp (pv 1) (Zv UM Zi (pv 0))) Zi) (λ_ _=>rfl)))) (Zk (Zq (Yz (scope:=Xw) (N:=["_law_sign","_law_at","_law_base"]) (cp:=[none,some 5,some 7]) rfl Uc Ud (Yc (pv 9)) (λC s H ex pn=>(Zo (i:=0) Ue rfl (Or.inl rfl))) (λC s H ex pn=>ZO) (λC s H ex pn=>(Zv Zy (Zv Zy (Yv Qy (pv 2) YH (YG (pv 1))) (pv 0)) (Yv Qy (pv 2) (YG (pv 1)) YH))))))))))))))),?_⟩;refine⟨_,rfl,b,4,rfl,hb,by decide,Zw (by decide) (by decide),λr H1 h0 h1 B1 S1=>?_⟩;refine⟨_,rfl,rfl,_,rfl,?_⟩;refine RZ (λe rest=>⟨_,rfl,_,_,rfl,rfl,_,rfl,ite2 (λe2=>?_) (λe2=>rest)⟩) ?_
  ·have hn9:n<9:=of_decide_eq_true e2;refine⟨by show 8<=sizeLine;decide,λl hl=>?_⟩;have nlb:=B1.ne hl;refine⟨_,rfl,b,8,rfl,B1.new hl,by decide,Zw (by decide) (by decide),λr2 H2 h02 h12 B2 S2=>?_⟩;have hw:H2 l=some (.lst (wds.map V.str)):=S2 _ _ Zc nlb;refine⟨_,rfl,n,rfl,by omega,by omega,ZF (J:=Itr 0 n.toNat) n.toNat hsz
    (λi ys τ H'=>H'=H2/\ys=(wdsFrom r2.toNat i).map V.str/\∃v,τ=[v,some (.int r2),some (.ref l)]) ⟨rfl,rfl,none,rfl⟩ (λi ys τ H' p=>?_) (λi ys τ H' hi p=>hi) (λys τ H' p=>Nat.le_refl _) (λi ys τ H' x' H3 hi p yl=>?_) (λys τ H' p q hq=>?_)⟩
   ·obtain⟨_,rfl,_⟩:=p;simp[wdsFrom]
   ·obtain⟨rfl,rfl,v,rfl⟩:=p;obtain⟨rfl,rfl⟩:=yl;refine⟨_,rfl,_,rfl,_,rfl,_,_,rfl,rfl,_,_,rfl,rfl,(by show(0:Int)<8;decide),l,_,_,_,rfl,rfl,SqL.of hw,Rc (j:=(r2.toNat+i) % 8) (modN (n:=8) (by omega)) (Dm _ _),rfl,?_,_,rfl⟩;simp[wdsFrom,List.range_succ]
   ·obtain⟨rfl,rfl,v,rfl⟩:=p;exact k _ q _ (B2.new hq) (((S1.new' hl).trans S2).new' hq) Zc (B2.ne hq) (by simp[wdsFrom];omega) (Dl _ (by omega) _ (by omega)) (Qi _ _)
  ·refine⟨_,rfl,b,8,rfl,B1,by decide,Zw (by decide) (by decide),λsz H2 h02 h12 B2 S2=>?_⟩;have S02:=S1.trans S2;refine⟨_,rfl,rfl,_,rfl,?_⟩;refine RZ (λe rest=>⟨_,rfl,_,_,rfl,rfl,_,rfl,ite2 (λe2=>?_) (λe2=>rest)⟩) ?_
   ·have hn9:n<9:=of_decide_eq_true e2;refine⟨rfl,8,rfl,by decide,by decide,ZF (J:=Itr 0 8) 8 (by decide)
     (λi ys τ H'=>Zz H' b/\Zj b H H'/\(∃ts:List Str,ys=ts.map V.str/\ts.length=i/\∀t∈ts,Bs 1 t)/\∃v,τ=[v,some (.ref b),some (.str K1.tLET)]) ⟨B2,S02,⟨[],rfl,rfl,by simp⟩,none,rfl⟩ (λi ys τ H' p=>?_) (λi ys τ H' hi p=>hi) (λys τ H' p=>Nat.le_refl _) (λi ys τ H' x' H3 hi p yl=>?_) (λys τ H' p q hq=>?_)⟩
    ·obtain⟨_,_,⟨ts,rfl,e,_⟩,_⟩:=p;rw[List.length_map,e];exact Nat.le_refl _
    ·obtain⟨bx,sm,⟨ts,rfl,e,ho⟩,v,rfl⟩:=p;obtain⟨rfl,rfl⟩:=yl;refine⟨_,rfl,_,rfl,b,26,rfl,bx,by decide,Zw (by decide) (by decide),λr4 H4 h04 h14 B4 S4=>?_⟩;obtain⟨c,hat,hc⟩:=KG h04 h14;obtain⟨g1,g2⟩:=MX (b:=b) (H:=H) (H1:=H) e ho hc;exact⟨_,r4,c,rfl,rfl,by decide +kernel,hat,B4,sm.trans S4,⟨ts++[⟨#[c]⟩],by rw[List.map_append];rfl,g1,g2⟩,_,rfl⟩
    ·obtain⟨bx,sm,⟨ts,rfl,e,ho⟩,v,rfl⟩:=p;refine⟨_,q,ts,rfl,rfl,SqL.of Zc,by rw[Qs _ ho,e];decide,?_⟩;have hbs:=Bs.join ho;rw[e]at hbs;have hl8:(Txt.join Str.empty ts).length=8:=by rw[<-ZG];exact hbs.1
     refine⟨_,rfl,n,rfl,by omega,by omega,ZF (J:=Itr 0 n.toNat) n.toNat hsz
      (λi ys τ H3=>H3=upd H' q (.lst (ts.map V.str))/\ys=(begs (Txt.join Str.empty ts) sz.toNat i).map V.str/\∃v,τ=[v,some (.str (Txt.join Str.empty ts)),some (.int sz)]) ⟨rfl,rfl,none,rfl⟩ (λi ys τ H' p=>?_) (λi ys τ H' hi p=>hi) (λys τ H' p=>Nat.le_refl _) (λi ys τ H' x' H3 hi p yl=>?_) (λys τ H' p q2 hq2=>?_)⟩
     ·obtain⟨_,rfl,_⟩:=p;simp[begs]
     ·obtain⟨rfl,rfl,v,rfl⟩:=p;obtain⟨rfl,rfl⟩:=yl;refine⟨_,rfl,_,rfl,_,rfl,_,_,rfl,rfl,_,_,rfl,rfl,(by show(0:Int)<8;decide),_,_,rfl,rfl,_,rfl,_,rfl,by rw[hl8];decide,rfl,?_,_,rfl⟩;have e5:(1+(0+(i:Int)+sz) % 8)=((1+(i+sz.toNat) % 8:Nat):Int):=congrArg (1+·) (modN (k:=i+sz.toNat) (n:=8) (by omega));rw[e5];simp[begs,List.range_succ]
     ·obtain⟨rfl,rfl,v,rfl⟩:=p;exact k _ q2 _ ((bx.new hq).new hq2) ((sm.new' hq).new' hq2) Zc ((bx.new hq).ne hq2) (by simp[begs];omega) (LP hbs _ (by omega)) (LM hbs _ _)
   ·refine⟨_,rfl,_,rfl,_,_,rfl,rfl,b,sz+1,rfl,B2,by omega,Zw (by omega) (by omega),λat_ H3 h03 h13 B3 S3=>?_⟩;have S03:=S02.trans S3;refine⟨rfl,_,rfl,sz,rfl,by omega,by omega,ZF (J:=Itr 0 sz.toNat) sz.toNat (Nat.le_trans (by omega:sz.toNat<=8) (by decide))
     (λi ys τ H'=>Zz H' b/\Zj b H H'/\(∃ts:List Str,ys=ts.map V.str/\ts.length=i/\∀t∈ts,Bs 1 t)/\∃v,τ=[v,some (.ref b),some (.str K1.tLET)]) ⟨B3,S03,⟨[],rfl,rfl,by simp⟩,none,rfl⟩ (λi ys τ H' p=>?_) (λi ys τ H' hi p=>hi) (λys τ H' p=>Nat.le_refl _) (λi ys τ H' x' H3 hi p yl=>?_) (λys τ H' p q hq=>?_)⟩
    ·obtain⟨_,_,⟨ts,rfl,e,_⟩,_⟩:=p;rw[List.length_map,e];exact Nat.le_refl _
    ·obtain⟨bx,sm,⟨ts,rfl,e,ho⟩,v,rfl⟩:=p;obtain⟨rfl,rfl⟩:=yl;refine⟨_,rfl,_,rfl,b,26,rfl,bx,by decide,Zw (by decide) (by decide),λr4 H4 h04 h14 B4 S4=>?_⟩;obtain⟨c,hat,hc⟩:=KG h04 h14;obtain⟨g1,g2⟩:=MX (b:=b) (H:=H) (H1:=H) e ho hc;exact⟨_,r4,c,rfl,rfl,by decide +kernel,hat,B4,sm.trans S4,⟨ts++[⟨#[c]⟩],by rw[List.map_append];rfl,g1,g2⟩,_,rfl⟩
    ·obtain⟨bx,sm,⟨ts,rfl,e,ho⟩,v,rfl⟩:=p;refine⟨_,q,ts,rfl,rfl,SqL.of Zc,?_,?_⟩
     ·rw[Qs _ ho,e];show sz.toNat+sz.toNat*0<=16777216;omega
     have hbs:=Bs.join ho;rw[e]at hbs;have hl8:(Txt.join Str.empty ts).length=sz.toNat:=by rw[<-ZG];exact hbs.1
     refine⟨_,rfl,b,26,rfl,bx.new hq,by decide,Zw (by decide) (by decide),λfi H5 h05 h15 B5 S5=>?_⟩;have S05:=(sm.new' hq).trans S5;refine⟨_,rfl,n,rfl,by omega,by omega,ZF (J:=Itr 0 n.toNat) n.toNat hsz
      (λi ys τ H'=>H'=H5/\ys=((List.range i).map λk=>V.str ⟨#[sgn fi.toNat k]⟩)/\∃v,τ=[v,some (.int fi),some (.str K1.tLET)]) ⟨rfl,rfl,none,rfl⟩ (λi ys τ H' p=>?_) (λi ys τ H' hi p=>hi) (λys τ H' p=>Nat.le_refl _) (λi ys τ H' x' H3 hi p yl=>?_) (λys τ H' p q2 hq2=>?_)⟩
     ·obtain⟨_,rfl,_⟩:=p;simp
     ·obtain⟨rfl,rfl,v,rfl⟩:=p;obtain⟨rfl,rfl⟩:=yl;refine⟨_,rfl,_,rfl,_,rfl,_,_,rfl,rfl,.inl ⟨by decide,by decide⟩,_,_,rfl,rfl,_,_,rfl,rfl,(by show(0:Int)<26;decide),_,_,_,rfl,rfl,by decide +kernel,Rc (j:=(fi.toNat+5*i) % 26) (modN (n:=26) (by omega)) (Dy _ _),rfl,?_,_,rfl⟩;simp[List.range_succ]
     ·obtain⟨rfl,rfl,v,rfl⟩:=p;refine⟨_,rfl,q2,rfl,⟨_,SqL.of Zc⟩,?_⟩;generalize eH:upd H' q2 (.lst ((List.range n.toNat).map λk=>V.str ⟨#[sgn fi.toNat k]⟩))=H6;have hq6:H6 q2=some (.lst ((List.range n.toNat).map λk=>V.str ⟨#[sgn fi.toNat k]⟩)):=by rw[<-eH];exact Zc
      have B6:Zz H6 b:=by rw[<-eH];exact B5.new hq2
      have S06:Zj b H H6:=by rw[<-eH];exact S05.new' hq2
      refine ZF (J:=Itl K q2) n.toNat hsz (λi ys τ H'=>H'=H6/\ys=(puts (Txt.join Str.empty ts) at_.toNat fi.toNat i).map V.str/\∃v,τ=[v,some (.int at_),some (.str (Txt.join Str.empty ts))]) ⟨rfl,rfl,none,rfl⟩ (λi ys τ H' p=>?_) (λi ys τ H' hi p=>?_) (λys τ H' p=>?_) (λi ys τ H' x' H3 hi p yl=>?_) (λys τ H' p q3 hq3=>?_)
      ·obtain⟨_,rfl,_⟩:=p;simp[puts]
      ·obtain⟨rfl,_⟩:=p;exact⟨_,V.str ⟨#[sgn fi.toNat i]⟩,SqL.of hq6,by simp[hi]⟩
      ·obtain⟨rfl,_⟩:=p;exact⟨_,SqL.of hq6,by simp⟩
      ·obtain⟨rfl,rfl,v,rfl⟩:=p;obtain⟨rfl,hy⟩:=yl;have hx:x'=V.str ⟨#[sgn fi.toNat i]⟩:=by have:=hy _ (SqL.of hq6);simp[hi]at this;exact this.symm
       subst hx;have hbl:(Txt.join Str.empty ts).length<=8:=by omega
       have e1:=Txt.slice_le (Txt.join Str.empty ts) none (some at_);have e2:=Txt.slice_le (Txt.join Str.empty ts) (some at_) none;have z:(100:Nat)<=sizeLine:=by decide
       refine⟨_,rfl,_,rfl,_,rfl,_,rfl,by omega,_,rfl,_,_,rfl,rfl,?_,_,rfl,_,rfl,_,rfl,_,rfl,by omega,_,_,rfl,rfl,?_,rfl,?_,_,rfl⟩
       ·show _+1<=_;omega
       ·rw[Str.length_append];show _+1+_<=_;omega
       ·have e5:at_=((at_.toNat:Nat):Int):=by omega
        simp[puts,List.range_succ,put,<-e5]
      ·obtain⟨rfl,rfl,v,rfl⟩:=p;exact k _ q3 _ (B6.new hq3) (S06.new' hq3) Zc (B6.ne hq3) (by simp[puts];omega) (Ld hbs (by omega) (by omega) (by omega)) (Lc hbs (by omega) (by omega) _ _)
noncomputable abbrev Pl:=List (Str×Option Int)
noncomputable def YN:Option Int->V
|none=>.non
|some i=>.int i
noncomputable def ZM(p:Str×Option Int):List V:=[.str p.1,YN p.2]
def ZH(b:Addr)(H:Hp)(l:Addr)(rows:List (List V)):Prop:=l≠b/\∃as:List Addr,H l=some (.lst (as.map V.ref))/\as.length=rows.length/\∀(i:Nat)a r,as[i]?=some a->rows[i]?=some r->a≠b/\H a=some (.tup r)
theorem ZH.same{b:Addr}{H H':Hp}{l:Addr}{rows:List (List V)}(s:Zj b H H')(h:ZH b H l rows):ZH b H' l rows:=by obtain⟨n,as,e,hl,r⟩:=h;exact⟨n,as,s _ _ e n,hl,λi a q h1 h2=>let ⟨x,y⟩:=r i a q h1 h2;⟨x,s _ _ y x⟩⟩
theorem ZH.at{b:Addr}{H:Hp}{l:Addr}{rows:List (List V)}(h:ZH b H l rows){i:Nat}{r:List V}(hr:rows[i]?=some r):∃a,a≠b/\H a=some (.tup r)/\∃as:List Addr,H l=some (.lst (as.map V.ref))/\as[i]?=some a/\as.length=rows.length:=by
 obtain⟨n,as,e,hl,q⟩:=h;have hi:i<as.length:=by rw[hl];exact(List.getElem?_eq_some_iff.mp hr).1
 obtain⟨x,y⟩:=q i as[i] r (List.getElem?_eq_getElem hi) hr;exact⟨as[i],x,y,as,e,List.getElem?_eq_getElem hi,hl⟩
theorem Zz.same_ne{H:Hp}{b q:Addr}{o:HO}(h:Zz H b)(n:q≠b):Zz (upd H q o) b:=by obtain⟨x,y,z,e⟩:=h;exact⟨x,y,z,by rw[Ze n.symm];exact e⟩
theorem Sr{b q:Addr}{H H4 H6:Hp}{o:HO}(s:Zj b H H6)(s4:Zj b H H4)(nqb:q≠b)(hq:H4 q=none):Zj b H (upd H6 q o):=λc u h hc=>by
 have:c≠q:=λz=>by rw[z]at h hc;rw[s4 _ _ h hc]at hq;cases hq
 rw[Ze this];exact s c u h hc
structure GoodPl(ps:Pl):Prop where
 lo:3<=ps.length
 hi:ps.length<=6
 nd:(ps.map (·.1)).Nodup
 nm:∀p∈ps,Nm p.1
 room:∀p∈ps,∀i,p.2=some i->0<=i/\i<=1000
 one:∃p∈ps,∃i,p.2=some i
theorem zip_rows(ts:List Str)(ρ:List (Option Int)):((ts.map V.str).zip (ρ.map YN)).map (λq=>[q.1,q.2])=(ts.zip ρ).map ZM:=by rw[List.zip_map,List.map_map];rfl
theorem NS{α β:Type}:∀(t0:List α)(ρ:List β)(s:α),t0.length=ρ.length->(t0++[s]).zip ρ=t0.zip ρ
|[],[],_,_=>rfl
|[],_::_,_,h=>by cases h
|_::_,[],_,h=>by cases h
|a::t,c::r,s,h=>by rw[List.cons_append,List.zip_cons_cons,NS t r s (by simpa using h),List.zip_cons_cons]
def N7:Sp:=λvs H Q _=>∃(b:Addr),vs=[.ref b]/\Zz H b/\∀H' q l s(ps:Pl),Zz H' b->Zj b H H'->H' q=some (.lst [.ref l,.str s])->q≠b->ZH b H' l (ps.map ZM)->GoodPl ps->Nm s->s∉ps.map (·.1)->Q (.ref q) H'
theorem PH{b:Addr}{H H':Hp}{l:Addr}{rows:List (List V)}(h:KJ H H' l rows)(hb:Zz H b):ZH b H' l rows:=by obtain⟨s,hl,as,e,len,n,r⟩:=h;exact⟨hb.ne hl,as,e,len,λi a q h1 h2=>⟨hb.ne (n a (List.mem_of_getElem? h1)),r i a q h1 h2⟩⟩
theorem YX:FnScope ["_law_box_here","_law_names_here","_law_rooms","_law_k"] ["_law_box_here"] (Zg T.f__law_places):=scO (by decide +kernel)
theorem Q3(B:∀x∈Blts,mg x=none)(CT:Can P w K mg base 1 "_law_take" ["_law_box_here","_law_many"] Xj)(CN:Can P w K mg base 2 "_law_names" ["_law_box_here","_law_many"] Nd)(CS:Can P w K mg base 2 "_law_size" ["_law_box_here"] Nb)(D:Df K mg "_law_places" T.f__law_places ["_law_box_here"]):Can P w K mg base 3 "_law_places" ["_law_box_here"] N7:=by
 refine D.can YX (λvs H Q E h=>?_) (λf cdv A outer s H vs Q E hr h=>?_)
 ·obtain⟨b,rfl,_⟩:=h;rfl
 ·obtain⟨b,rfl,hb,k⟩:=h;refine⟨_,(Zd (st 1 YX.nd (cn CN hr (Za (pv 0) (Za (Zv Yp Zi (cn CT hr (Za (pv 0) (Za Zi Zb)))) Zb)))) (Zd (st 2 YX.nd (ZQ (Za (cn CS hr (Za (pv 0) Zb)) (Za (cn CS hr (Za (pv 0) Zb)) (Za ZR Zb))))) (Zd (Y3 PassesOwn.never rfl (YR rfl (B _ (by decide +kernel)) (Za (Zv Ny (ZI (r:=rLen K) Yg rfl (B _ (by decide +kernel)) PySem.boot_len (Za (pv 1) Zb)) Zi) Zb)) (Zo (i:=3) YX.nd rfl (Or.inl rfl)) (Zk (ZU (Yq PySem.F.plainAttrs_list PySem.F.slot_list_append PySem.F.type_list_append YA (pv 2) (Za (il K (ZQ (Za ZR (Za (cn CS hr (Za (pv 0) Zb)) Zb))) (cn CT hr (Za (pv 0) (Za Zi Zb)))) Zb))))) (Zk (Zq (ZQ (Za (QH rfl rfl (B _ (by decide +kernel)) rfl (B _ (by decide +kernel)) (Za (pv 1) (Za (pv 2) Zb))) (Za (il K (pv 1) (EY Dp Zi)) Zb)))))))),?_⟩;refine⟨_,rfl,_,rfl,b,4,rfl,hb,by decide,Zw (by decide) (by decide),λr H1 h0 h1 B1 S1=>?_⟩;refine⟨_,_,rfl,rfl,b,4+r,rfl,B1,by omega,by omega,λH2 l ts B2 S2 hl nlb hlen hnd hnm=>?_⟩;refine⟨_,rfl,b,rfl,B2,λr3 H3 h03 h13 B3 S3=>?_⟩;refine⟨_,rfl,b,rfl,B3,λr4 H4 h04 h14 B4 S4=>?_⟩;refine⟨by show 3<=sizeLine;decide,λq hq=>?_⟩;have S04:=((S1.trans S2).trans S3).trans S4;have hl4:=S4 _ _ (S3 _ _ hl nlb) nlb;have nql:q≠l:=(Zf hl4 hq).symm;refine⟨_,rfl,l,_,rfl,.inl (SqL.of (by rw[Ze nql.symm];exact hl4)),_,_,rfl,rfl,r,?_,by omega,by omega,?_⟩
  ·have:((List.map V.str ts).length:Int)-4=r:=by rw[List.length_map];omega
   exact congrArg (λx=>[V.int x]) this
  refine SR (n:=r.toNat) (λi σ' H'=>Zz H' b/\Zj b H H'/\H' l=some (.lst (ts.map V.str))/\q≠b/\(∃ρ:List (Option Int),H' q=some (.lst (ρ.map YN))/\ρ.length=3+i/\ρ[0]?=some (some r3)/\ρ[2]?=some none/\∀x∈ρ,∀j,x=some j->0<=j/\j<=1000)/\∃v,σ'=[some (.ref b),some (.ref l),some (.ref q),v]) ⟨B4.new hq,S04.new' hq,by rw[Ze nql.symm];exact hl4,B4.ne hq,⟨[some r3,some r4,none],Zc,rfl,rfl,rfl,?_⟩,none,rfl⟩ (λi σ' H' hi p=>?_) (λσ' H' p=>?_)
  ·intro x hx j e;subst e;simp only[List.mem_cons,Option.some.injEq,List.not_mem_nil,or_false,reduceCtorEq]at hx;omega
  ·obtain⟨bx,sm,hl',nqb,⟨ρ,hq',len,z0,z2,ok⟩,v,rfl⟩:=p;refine⟨_,rfl,.inl ⟨rfl,_,SqL.of hq'⟩,_,rfl,b,rfl,bx,λr5 H5 h05 h15 B5 S5=>?_⟩;refine⟨by show 2<=sizeLine;decide,λq2 hq2=>?_⟩;have n2:=B5.ne hq2;refine⟨_,rfl,b,2,rfl,B5.new hq2,by decide,Zw (by decide) (by decide),λr6 H6 h06 h16 B6 S6=>?_⟩;have e6:H6 q2=some (.lst [.non,.int r5]):=S6 _ _ Zc n2;have hq6:H6 q=some (.lst (ρ.map YN)):=S6 _ _ (by rw[Ze (Zf (S5 _ _ hq' nqb) hq2)];exact S5 _ _ hq' nqb) nqb;have hl6:H6 l=some (.lst (ts.map V.str)):=S6 _ _ (by rw[Ze (Zf (S5 _ _ hl' nlb) hq2)];exact S5 _ _ hl' nlb) nlb;have S06:Zj b H H6:=((sm.trans S5).new' hq2).trans S6;have hz:(ρ.map YN).length<sizeLine:=by rw[List.length_map,len];exact Nat.lt_of_lt_of_le (by omega:3+i<1000) (by decide)
   have fin:∀x:Option Int,(∀j,x=some j->0<=j/\j<=1000)->_:=λx hx=>(⟨B6.same_ne nqb,Sr S06 S04 nqb hq,by rw[Ze nql.symm];exact hl6,nqb,⟨ρ++[x],by rw[Zc,List.map_append];rfl,by simp[len];omega,by rw[List.getElem?_append_left (by omega)];exact z0,by rw[List.getElem?_append_left (by omega)];exact z2,λy hy j e=>by
     rcases List.mem_append.mp hy with hy|hy
     ·exact ok y hy j e
     ·rw[List.mem_singleton]at hy;subst hy;exact hx j e⟩,_,rfl⟩:Zz (upd H6 q (.lst (ρ.map YN++[YN x]))) b/\Zj b H (upd H6 q (.lst (ρ.map YN++[YN x])))/\(upd H6 q (.lst (ρ.map YN++[YN x]))) l=some (.lst (ts.map V.str))/\q≠b/\(∃ρ':List (Option Int),(upd H6 q (.lst (ρ.map YN++[YN x]))) q=some (.lst (ρ'.map YN))/\ρ'.length=3+(i+1)/\ρ'[0]?=some (some r3)/\ρ'[2]?=some none/\∀x∈ρ',∀j,x=some j->0<=j/\j<=1000)/\∃v',[some (.ref b),some (.ref l),some (.ref q),some (.int (0+i))]=[some (V.ref b),some (.ref l),some (.ref q),v'])
   have c6:r6=0\/r6=1:=by omega
   rcases c6 with rfl|rfl
   ·exact⟨q2,_,0,.non,rfl,rfl,SqL.of e6,Zr (j:=0) rfl,q,_,_,rfl,rfl,hq6,hz,fin none (λj e=>by cases e)⟩
   ·exact⟨q2,_,1,.int r5,rfl,rfl,SqL.of e6,Zr (j:=1) rfl,q,_,_,rfl,rfl,hq6,hz,fin (some r5) (λj e=>by cases e;exact⟨h05,h15⟩)⟩
  ·obtain⟨bx,sm,hl',nqb,⟨ρ,hq',len,z0,z2,ok⟩,v,rfl⟩:=p;refine⟨_,rfl,_,rfl,l,q,_,_,rfl,hl',hq',λH7 l7 L7=>?_⟩;have S7:Same H' H7:=L7.1;obtain⟨t0,s,rfl⟩:∃t0 s,ts=t0++[s]:=⟨_,_,(List.dropLast_concat_getLast (l:=ts) (by intro z;rw[z]at hlen;simp at hlen;omega)).symm⟩;have len0:t0.length=ρ.length:=by have:((t0++[s]).length:Int)=4+r:=hlen;rw[List.length_append]at this;simp at this;omega
   refine⟨_,rfl,_,rfl,l,_,-1,.str s,rfl,rfl,SqL.of (S7 _ _ hl'),by rw[List.map_append];exact KH _ _,by show 2<=sizeLine;decide,λq8 hq8=>?_⟩;have B7:Zz H7 b:=bx.same S7;have R7:=PH L7 bx;rw[zip_rows,NS t0 ρ s len0]at R7;have fst:(t0.zip ρ).map (·.1)=t0:=List.map_fst_zip (by omega);have nd0:=List.nodup_append.mp hnd;refine k _ q8 l7 s (t0.zip ρ) (B7.new hq8) ((sm.trans (Zj.of S7)).new' hq8) Zc (B7.ne hq8) (R7.same ((Zj.refl b H7).new' hq8)) ?_ (hnm s (by simp)) ?_
   ·refine⟨by rw[List.length_zip];omega,by rw[List.length_zip];omega,by rw[fst];exact nd0.1,λp hp=>hnm _ (List.mem_append_left _ (List.of_mem_zip hp).1),λp hp i e=>ok _ (List.of_mem_zip hp).2 i e,?_⟩
    ·have h3:0<t0.length:=by omega
     have h4:0<ρ.length:=by omega
     refine⟨(t0[0],ρ[0]),List.mem_iff_getElem.mpr ⟨0,by rw[List.length_zip];omega,by simp⟩,r3,?_⟩;rw[List.getElem?_eq_getElem h4]at z0;exact Option.some.inj z0
   ·rw[fst];intro z;exact nd0.2.2 s z s (by simp) rfl
end
end WD
namespace L2
open PySem PySem.Spec PyProof.Rows
theorem Jj{X:Cx}{pos:Pos}{K:PySem.W.Frag}{es:List Expr}{k:Nat}{t:TGs}{n:Nat}(hK:X.K=K)(hc:X.calm=true)(h:PGs X es t)(hn:(assignEach es X.env).length=n:=by rfl)(hst:(assignEach es X.env).findIdx? (·.1)=none:=by rfl):PG X (.Tuple es k pos) (gTup K n t):=by subst hK;exact YS hc h hn hst
end L2
namespace WD
open PySem L2 PySem.Spec PyProof.Rows TB
def Ng:Sp:=λvs H Q _=>∃(b l:Addr)(ps:Pl),vs=[.ref b,.ref l]/\Zz H b/\ZH b H l (ps.map ZM)/\GoodPl ps/\∀H' q s g,Zz H' b->Zj b H H'->H' q=some (.tup [.str s,.str g])->q≠b->(∃i,(s,some i)∈ps)->(∃r,(g,r)∈ps)->s≠g->Q (.ref q) H'
theorem XF{α:Type}(p:α->Bool)(l:List α){i:Nat}{a:α}(h:l[i]?=some a):(l.take (i+1)).filter p=(l.take i).filter p++(if p a=true then[a]else[]):=by rw[List.take_succ,h,List.filter_append];simp only[Option.toList_some];cases hp:p a<;>simp[hp]
theorem Rb{ts:List Str}{r:Int}(h0:0<=r)(h1:r<(ts.length:Int)):∃t,atI (ts.map V.str) r=some (.str t)/\t∈ts:=by obtain⟨v,hv,hm⟩:=at_of (xs:=ts.map V.str) h0 (by rw[List.length_map];exact h1);obtain⟨t,ht,rfl⟩:=List.mem_map.mp hm;exact⟨t,hv,ht⟩
theorem Sn(r:Option Int):(!decide (YN r=.non))=r.isSome:=by cases r<;>rfl
theorem ZH.go{K:PySem.W.Frag}{b:Addr}{H:Hp}{l:Addr}{rows:List (List V)}(h:ZH b H l rows){i:Nat}(hi:i<rows.length):(Itl K l).go i H:=by obtain⟨n,as,e,hl,r⟩:=h;exact⟨_,.ref (as[i]'(by omega)),SqL.of e,by simp[hl,hi]⟩
theorem ZH.stop{K:PySem.W.Frag}{b:Addr}{H:Hp}{l:Addr}{rows:List (List V)}(h:ZH b H l rows):(Itl K l).stop rows.length H:=by obtain⟨n,as,e,hl,r⟩:=h;exact⟨_,SqL.of e,by simp[hl]⟩
theorem ZH.item{K:PySem.W.Frag}{b:Addr}{H:Hp}{l:Addr}{rows:List (List V)}(h:ZH b H l rows){i:Nat}{r:List V}(hr:rows[i]?=some r){x:V}{H':Hp}(y:(Itl K l).yld i H x H'):H'=H/\∃a,x=.ref a/\a≠b/\H a=some (.tup r):=by obtain⟨a,n,e,as,el,ea,len⟩:=h.at hr;obtain⟨rfl,q⟩:=y;have:=q _ (SqL.of el);rw[List.getElem?_map,ea]at this;exact⟨rfl,a,(Option.some.inj this).symm,n,e⟩
section
variable {P:Program}{w:World}{K:PySem.W.Frag}{mg:Str->Option Value}{base:Heap}
theorem XI:FnScope ["_law_box_here","_law_places_here","_law_starts","_law_start","_law_goals"] ["_law_box_here","_law_places_here"] (Zg T.f__law_ends):=scO (by decide +kernel)
noncomputable def X7:Scope:={kind:=.function,names:=[(Str.ofString ".0",.local),(Str.ofString "_law_place",.local),(Str.ofString "_law_room",.local)],isGenerator:=false,isCoroutine:=false,more:=[]}
theorem U7:CompScope X7 (Zg T.f__law_ends):=⟨rfl,by decide +kernel,by decide +kernel,by decide +kernel⟩
theorem Jf:(["_law_place","_law_room"]:List Str).Nodup:=by decide +kernel
theorem U8:CompNames ["_law_box_here","_law_places_here","_law_starts","_law_start","_law_goals"] X7 ["_law_place","_law_room"] [none,none]:=.mk' (by decide +kernel)
noncomputable def X6:Scope:={kind:=.function,names:=[(Str.ofString ".0",.local),(Str.ofString "_law_place",.local),(Str.ofString "_law_room",.local),(Str.ofString "_law_start",.free)],isGenerator:=false,isCoroutine:=false,more:=[]}
theorem U5:CompScope X6 (Zg T.f__law_ends):=⟨rfl,by decide +kernel,by decide +kernel,by decide +kernel⟩
theorem Je:(["_law_place","_law_room","_law_start"]:List Str).Nodup:=by decide +kernel
theorem U6:CompNames ["_law_box_here","_law_places_here","_law_starts","_law_start","_law_goals"] X6 ["_law_place","_law_room","_law_start"] [none,none,some 3]:=.mk' (by decide +kernel)
theorem Tx(B:∀x∈Blts,mg x=none)(CT:Can P w K mg base 1 "_law_take" ["_law_box_here","_law_many"] Xj)(D:Df K mg "_law_ends" T.f__law_ends ["_law_box_here","_law_places_here"]):Can P w K mg base 2 "_law_ends" ["_law_box_here","_law_places_here"] Ng:=by
 refine D.can XI (λvs H Q E h=>?_) (λf cdv A outer s H vs Q E hr h=>?_)
 ·obtain⟨b,l,ps,rfl,_⟩:=h;rfl
 ·obtain⟨b,l,ps,rfl,hb,hp,gp,k⟩:=h;have hpl:(ps.map ZM).length<=sizeLine:=Nat.le_trans (by rw[List.length_map];have:=gp.hi;omega:(ps.map ZM).length<=1000) (by decide);refine⟨_,(Zd (Yy (i:=2) XI.nd rfl (Or.inl rfl) (scope:=X7) (N:=["_law_place","_law_room"]) (cp:=[none,none]) rfl U7 U8 (Yc (pv 1)) (λC s H ex pn=>(Jj (K:=K) (n:=2) rfl rfl (Zp (Zo (i:=0) Jf rfl (Or.inl rfl)) (Zp (Zo (i:=1) Jf rfl (Or.inl rfl)) ZV)))) (λC s H ex pn=>(Nt (ZC GA (pv 1) ZR (ZD _)))) (λC s H ex pn=>(pv 0))) (Zd (Yn (i:=3) XI.nd rfl (Or.inr rfl) (il K (pv 2) (cn CT hr (Za (pv 0) (Za (ZI (r:=rLen K) Yg rfl (B _ (by decide +kernel)) PySem.boot_len (Za (pv 2) Zb)) Zb))))) (Zd (Yy (i:=4) XI.nd rfl (Or.inl rfl) (scope:=X6) (N:=["_law_place","_law_room","_law_start"]) (cp:=[none,none,some 3]) rfl U5 U6 (Yc (pv 1)) (λC s H ex pn=>(Jj (K:=K) (n:=2) rfl rfl (Zp (Zo (i:=0) Je rfl (Or.inl rfl)) (Zp (Zo (i:=1) Je rfl (Or.inl rfl)) ZV)))) (λC s H ex pn=>(Nt (ZC Ma (pv 0) (pv 2) (ZD _)))) (λC s H ex pn=>(pv 0))) (Zk (Zq (Ys (Za (pv 3) (Za (il K (pv 4) (cn CT hr (Za (pv 0) (Za (ZI (r:=rLen K) Yg rfl (B _ (by decide +kernel)) PySem.boot_len (Za (pv 4) Zb)) Zb)))) Zb)))))))),?_⟩;refine⟨_,rfl,l,rfl,⟨_,SqL.of hp.2.choose_spec.1⟩,?_⟩;refine GH (J:=Itl K l) (ps.map ZM).length hpl (λi ys τ H'=>H'=H/\ys=((ps.take i).filter λp=>p.2.isSome).map (λp=>V.str p.1)/\∃v1 v2,τ=[v1,v2]) ⟨rfl,rfl,none,none,rfl⟩ (λi ys τ H' p=>?_) (λi ys τ H' hi p=>?_) (λys τ H' p=>?_) (λi ys τ H' x H2 hi p yl=>?_) (λys τ H0 p l1 hl1=>?_)
  ·obtain⟨_,rfl,_⟩:=p;rw[List.length_map];exact Nat.le_trans (List.length_filter_le _ _) (by rw[List.length_take];omega)
  ·obtain⟨rfl,_⟩:=p;exact hp.go hi
  ·obtain⟨rfl,_⟩:=p;exact hp.stop
  ·obtain⟨rfl,rfl,v1,v2,rfl⟩:=p;have hi':i<ps.length:=by simpa using hi
   have e0:ps[i]?=some ps[i]:=List.getElem?_eq_getElem hi';obtain⟨rfl,a,rfl,na,ha⟩:=hp.item (r:=ZM ps[i]) (by rw[List.getElem?_map,e0];rfl) yl;refine⟨a,_,rfl,SqT.of ha,rfl,_,_,rfl,_,_,rfl,rfl,_,rfl,rfl,_,rfl,?_⟩;rw[Sn];refine Jc (λe=>?_) (λe=>?_)
   ·refine⟨_,rfl,rfl,?_,_,_,rfl⟩;rw[XF _ _ e0,if_pos e,List.map_append];rfl
   ·refine⟨rfl,?_,_,_,rfl⟩;rw[XF _ _ e0,if_neg (by rw[e];exact Bool.false_ne_true),List.append_nil]
  ·obtain⟨rfl,rfl,v1,v2,rfl⟩:=p;rw[List.length_map,List.take_length];generalize ess:(ps.filter λp=>p.2.isSome).map (·.1)=ss;have e1:(ps.filter λp=>p.2.isSome).map (λp=>V.str p.1)=ss.map V.str:=by rw[<-ess,List.map_map];rfl
   rw[e1];have hss:∀t∈ss,∃i,(t,some i)∈ps:=λt ht=>by rw[<-ess]at ht;obtain⟨p,hp',rfl⟩:=List.mem_map.mp ht;obtain⟨m1,m2⟩:=List.mem_filter.mp hp';obtain⟨i,hi⟩:=Option.isSome_iff_exists.mp m2;exact⟨i,by rw[<-hi];exact m1⟩
   have hs0:0<ss.length:=by
    obtain⟨p,hp',i,hi⟩:=gp.one;have:p.1∈ss:=by rw[<-ess];exact List.mem_map.mpr ⟨p,List.mem_filter.mpr ⟨hp',by rw[hi];rfl⟩,rfl⟩
    exact List.length_pos_of_mem this
   have hs6:ss.length<=6:=by rw[<-ess,List.length_map];exact Nat.le_trans (List.length_filter_le _ _) gp.hi
   have nl1:=hb.ne hl1;have B1:=hb.new (o:=.lst (ss.map V.str)) hl1;have S1:Zj b H0 (upd H0 l1 (.lst (ss.map V.str))):=(Zj.refl b H0).new' hl1;have el1:upd H0 l1 (.lst (ss.map V.str)) l1=some (.lst (ss.map V.str)):=Zc;generalize upd H0 l1 (.lst (ss.map V.str))=H1 at B1 S1 el1 ⊢;refine⟨_,rfl,_,rfl,_,rfl,l1,_,rfl,.inl (SqL.of el1),b,_,rfl,B1,by rw[List.length_map];omega,Zw (by omega) (by rw[List.length_map];omega),λr H2 h02 h12 B2 S2=>?_⟩;rw[List.length_map]at h12;obtain⟨st,hat,hst⟩:=Rb h02 h12;refine⟨l1,_,r,_,rfl,rfl,SqL.of (S2 _ _ el1 nl1),hat,?_⟩;have hp2:=hp.same (S1.trans S2);have S02:=S1.trans S2;refine⟨_,rfl,l,rfl,⟨_,SqL.of hp2.2.choose_spec.1⟩,?_⟩;refine GH (J:=Itl K l) (ps.map ZM).length hpl (λi ys τ H'=>H'=H2/\ys=((ps.take i).filter λp=>!decide (p.1=st)).map (λp=>V.str p.1)/\∃v1 v2,τ=[v1,v2,some (.str st)]) ⟨rfl,rfl,none,none,rfl⟩ (λi ys τ H' p=>?_) (λi ys τ H' hi p=>?_) (λys τ H' p=>?_) (λi ys τ H' x H2 hi p yl=>?_) (λys τ H' p l3 hl3=>?_)
   ·obtain⟨_,rfl,_⟩:=p;rw[List.length_map];exact Nat.le_trans (List.length_filter_le _ _) (by rw[List.length_take];omega)
   ·obtain⟨rfl,_⟩:=p;exact hp2.go hi
   ·obtain⟨rfl,_⟩:=p;exact hp2.stop
   ·obtain⟨rfl,rfl,v1,v2,rfl⟩:=p;have hi':i<ps.length:=by simpa using hi
    have e0:ps[i]?=some ps[i]:=List.getElem?_eq_getElem hi';obtain⟨rfl,a,rfl,na,ha⟩:=hp2.item (r:=ZM ps[i]) (by rw[List.getElem?_map,e0];rfl) yl;refine⟨a,_,rfl,SqT.of ha,rfl,_,_,rfl,_,_,rfl,rfl,_,rfl,_,rfl,rfl,_,rfl,?_⟩;have ee:(!decide (V.str ps[i].1=V.str st))=!decide (ps[i].1=st):=by
     congr 1;by_cases z:ps[i].1=st
     ·rw[z];simp
     ·rw[decide_eq_false z,decide_eq_false (λq=>z (by cases q;rfl))]
    refine Jc (λe=>?_) (λe=>?_)
    ·have e':=ee.symm.trans e;refine⟨_,rfl,rfl,?_,_,_,rfl⟩;rw[XF _ _ e0,if_pos e',List.map_append];rfl
    ·have e':=ee.symm.trans e;refine⟨rfl,?_,_,_,rfl⟩;rw[XF _ _ e0,if_neg (by rw[e'];exact Bool.false_ne_true),List.append_nil]
   ·obtain⟨rfl,rfl,v1,v2,rfl⟩:=p;rw[List.length_map,List.take_length];generalize egs:(ps.filter λp=>!decide (p.1=st)).map (·.1)=gs;have e3:(ps.filter λp=>!decide (p.1=st)).map (λp=>V.str p.1)=gs.map V.str:=by rw[<-egs,List.map_map];rfl
    rw[e3];have hgs:∀t∈gs,st≠t/\∃r,(t,r)∈ps:=λt ht=>by rw[<-egs]at ht;obtain⟨p,hp',rfl⟩:=List.mem_map.mp ht;obtain⟨m1,m2⟩:=List.mem_filter.mp hp';exact⟨λz=>by simp[z]at m2,p.2,m1⟩
    have hg0:0<gs.length:=by
     have h3:=gp.lo;have nd:=gp.nd;by_cases z:ps[0].1=st
     ·have z1:ps[1].1≠st:=λq=>by
       have:(ps.map (·.1))[0]'(by simp;omega)=(ps.map (·.1))[1]'(by simp;omega):=by simp[z,q]
       exact absurd ((List.getElem_inj nd).mp this) (by decide)
      have:ps[1].1∈gs:=by rw[<-egs];exact List.mem_map.mpr ⟨ps[1],List.mem_filter.mpr ⟨List.getElem_mem _,by simp[z1]⟩,rfl⟩
      exact List.length_pos_of_mem this
     ·have:ps[0].1∈gs:=by rw[<-egs];exact List.mem_map.mpr ⟨ps[0],List.mem_filter.mpr ⟨List.getElem_mem _,by simp[z]⟩,rfl⟩
      exact List.length_pos_of_mem this
    have hg6:gs.length<=6:=by rw[<-egs,List.length_map];exact Nat.le_trans (List.length_filter_le _ _) gp.hi
    have nl3:=B2.ne hl3;have B3:=B2.new (o:=.lst (gs.map V.str)) hl3;have S3:Zj b H0 (upd H' l3 (.lst (gs.map V.str))):=S02.new' hl3;have el3:upd H' l3 (.lst (gs.map V.str)) l3=some (.lst (gs.map V.str)):=Zc;generalize upd H' l3 (.lst (gs.map V.str))=H3 at B3 S3 el3 ⊢;refine⟨_,rfl,_,rfl,_,rfl,_,rfl,l3,_,rfl,.inl (SqL.of el3),b,_,rfl,B3,by rw[List.length_map];omega,Zw (by omega) (by rw[List.length_map];omega),λr4 H4 h04 h14 B4 S4=>?_⟩;rw[List.length_map]at h14;obtain⟨g,hat4,hg⟩:=Rb h04 h14;refine⟨l3,_,r4,_,rfl,rfl,SqL.of (S4 _ _ el3 nl3),hat4,by show 2<=sizeLine;decide,λq hq=>?_⟩;exact k _ q st g (B4.new hq) ((S3.trans S4).new' hq) Zc (B4.ne hq) (hss st hst) (hgs g hg).2 (hgs g hg).1
structure Rd where
 nm:Str
 st:Str
 lv:Int
 gl:Str
 cm:Int
 se:Int
noncomputable def JB(r:Rd):List V:=[.str r.nm,.str r.st,.int r.lv,.str r.gl,.int r.cm,.int r.se]
structure Wy where
 nm:Str
 st:Str
 gl:Str
 lo:Int
 wi:Int
noncomputable def Vy(r:Wy):List V:=[.str r.nm,.str r.st,.str r.gl,.int r.lo,.int r.wi]
structure Gr where
 nm:Str
 pl:Str
 tu:Int
 ma:Int
noncomputable def grRow(r:Gr):List V:=[.str r.nm,.str r.pl,.int r.tu,.int r.ma]
structure Ends(ps:Pl)(s g:Str):Prop where
 st:∃i,(s,some i)∈ps
 gl:∃r,(g,r)∈ps
 ne:s≠g
structure GoodRd(n:Int)(ps:Pl)(r:Rd):Prop where
 ends:Ends ps r.st r.gl
 lv0:0<=r.lv
 lv1:r.lv<=n-1
 cm0:r.lv+1<=r.cm
 cm1:r.cm<=n
 se0:0<=r.se
 se1:r.se<=1000
structure GoodWy(ps:Pl)(r:Wy):Prop where
 ends:Ends ps r.st r.gl
 lo0:1<=r.lo
 lo1:r.lo<=50
 wi0:0<=r.wi
 wi1:r.wi<=1000
noncomputable def sufs:List Str:=["",".","..7",".b"]
structure GoodGr(n:Int)(ps:Pl)(base:Str)(r:Gr):Prop where
 nm:∃s∈sufs,r.nm=base++s
 pl:∃x,(r.pl,x)∈ps
 tu0:0<=r.tu
 tu1:r.tu<=n
 ma0:0<=r.ma
 ma1:r.ma<=5
def Rx:Sp:=λvs H Q _=>∃(b l:Addr)(nm:Str)(n:Int)(ps:Pl),vs=[.ref b,.str nm,.int n,.ref l]/\Zz H b/\ZH b H l (ps.map ZM)/\GoodPl ps/\1<=n/\n<=50/\∀H' q(r:Rd),Zz H' b->Zj b H H'->H' q=some (.tup (JB r))->q≠b->r.nm=nm->GoodRd n ps r->Q (.ref q) H'
def Wn:Sp:=λvs H Q _=>∃(b l:Addr)(nm:Str)(ps:Pl),vs=[.ref b,.str nm,.ref l]/\Zz H b/\ZH b H l (ps.map ZM)/\GoodPl ps/\∀H' q(r:Wy),Zz H' b->Zj b H H'->H' q=some (.tup (Vy r))->q≠b->r.nm=nm->GoodWy ps r->Q (.ref q) H'
def Pa:Sp:=λvs H Q _=>∃(b l:Addr)(nm:Str)(n:Int)(ps:Pl),vs=[.ref b,.str nm,.int n,.ref l]/\Zz H b/\nm.length<=1000/\ZH b H l (ps.map ZM)/\GoodPl ps/\1<=n/\n<=50/\∀H' q(r:Gr),Zz H' b->Zj b H H'->H' q=some (.tup (grRow r))->q≠b->GoodGr n ps nm r->Q (.ref q) H'
theorem Ra{c:Bool}{x y:Int}:atI [V.int x,.int y] (if c=true then 1 else 0)=some (.int (if c=true then y else x)):=by
 cases c
 ·exact Zr (j:=0) rfl
 ·exact Zr (j:=1) rfl
theorem UA{x y m:Int}(h1:x<=m)(h2:y<=m)(c:Bool):(if c=true then y else x)<=m:=by cases c<;>assumption
theorem UB{x y m:Int}(h1:m<=x)(h2:m<=y)(c:Bool):m<=(if c=true then y else x):=by cases c<;>assumption
theorem XH:FnScope ["_law_box_here","_law_name","_law_turns","_law_places_here","_law_start","_law_goal","_law_leave"] ["_law_box_here","_law_name","_law_turns","_law_places_here"] (Zg T.f__law_ride):=scO (by decide +kernel)
theorem Tw(B:∀x∈Blts,mg x=none)(CT:Can P w K mg base 1 "_law_take" ["_law_box_here","_law_many"] Xj)(CS:Can P w K mg base 2 "_law_size" ["_law_box_here"] Nb)(CE:Can P w K mg base 2 "_law_ends" ["_law_box_here","_law_places_here"] Ng)(D:Df K mg "_law_ride" T.f__law_ride ["_law_box_here","_law_name","_law_turns","_law_places_here"]):Can P w K mg base 3 "_law_ride" ["_law_box_here","_law_name","_law_turns","_law_places_here"] Rx:=by
 refine D.can XH (λvs H Q E h=>?_) (λf cdv A outer s H vs Q E hr h=>?_)
 ·obtain⟨b,l,nm,n,ps,rfl,_⟩:=h;rfl
 ·obtain⟨b,l,nm,n,ps,rfl,hb,hp,gp,hn1,hn2,k⟩:=h;refine⟨_,(Zd (UJ (cn CE hr (Za (pv 0) (Za (pv 3) Zb))) (YS rfl (Zp (Zo (i:=4) XH.nd rfl (Or.inl rfl)) (Zp (Zo (i:=5) XH.nd rfl (Or.inl rfl)) ZV)))) (Zd (st 6 XH.nd (cn CT hr (Za (pv 0) (Za (pv 2) Zb)))) (Zk (Zq (Ys (Za (pv 1) (Za (pv 4) (Za (pv 6) (Za (pv 5) (Za (Zv Yp (Zv Yp (pv 6) Zi) (cn CT hr (Za (pv 0) (Za (Zv Ny (pv 2) (pv 6)) Zb)))) (Za (cn CS hr (Za (pv 0) Zb)) Zb))))))))))),?_⟩;refine⟨_,rfl,_,rfl,b,l,ps,rfl,hb,hp,gp,λH1 q st gl B1 S1 hq nq es eg ne=>?_⟩;refine⟨q,_,rfl,SqT.of hq,rfl,_,_,rfl,_,_,rfl,rfl,?_⟩;refine⟨_,rfl,_,rfl,b,n,rfl,B1,by omega,Zw (by omega) (by omega),λlv H2 h02 h12 B2 S2=>?_⟩;refine⟨_,rfl,_,rfl,_,rfl,_,rfl,_,rfl,_,_,rfl,rfl,_,rfl,_,rfl,_,rfl,_,_,rfl,rfl,b,n-lv,rfl,B2,by omega,Zw (by omega) (by omega),λd H3 h03 h13 B3 S3=>?_⟩;refine⟨_,_,rfl,rfl,_,rfl,b,rfl,B3,λse H4 h04 h14 B4 S4=>?_⟩;refine⟨by show 6<=sizeLine;decide,λq2 hq2=>?_⟩;exact k _ q2 ⟨nm,st,lv,gl,lv+1+d,se⟩ (B4.new hq2) ((((S1.trans S2).trans S3).trans S4).new' hq2) Zc (B4.ne hq2) rfl ⟨⟨es,eg,ne⟩,h02,by show lv<=n-1;omega,by show lv+1<=lv+1+d;omega,by show lv+1+d<=n;omega,h04,h14⟩
theorem J5:FnScope ["_law_box_here","_law_name","_law_places_here","_law_start","_law_goal"] ["_law_box_here","_law_name","_law_places_here"] (Zg T.f__law_way):=scO (by decide +kernel)
theorem Kx(B:∀x∈Blts,mg x=none)(CT:Can P w K mg base 1 "_law_take" ["_law_box_here","_law_many"] Xj)(CS:Can P w K mg base 2 "_law_size" ["_law_box_here"] Nb)(CE:Can P w K mg base 2 "_law_ends" ["_law_box_here","_law_places_here"] Ng)(D:Df K mg "_law_way" T.f__law_way ["_law_box_here","_law_name","_law_places_here"]):Can P w K mg base 3 "_law_way" ["_law_box_here","_law_name","_law_places_here"] Wn:=by
 refine D.can J5 (λvs H Q E h=>?_) (λf cdv A outer s H vs Q E hr h=>?_)
 ·obtain⟨b,l,nm,ps,rfl,_⟩:=h;rfl
 ·obtain⟨b,l,nm,ps,rfl,hb,hp,gp,k⟩:=h;refine⟨_,(Zd (UJ (cn CE hr (Za (pv 0) (Za (pv 2) Zb))) (YS rfl (Zp (Zo (i:=3) J5.nd rfl (Or.inl rfl)) (Zp (Zo (i:=4) J5.nd rfl (Or.inl rfl)) ZV)))) (Zk (Zq (Ys (Za (pv 1) (Za (pv 3) (Za (pv 4) (Za (Zv Yp Zi (cn CT hr (Za (pv 0) (Za (il K (ZQ (Za Zi (Za Zi Zb))) (ZE Gb rfl (B _ (by decide +kernel)) Mv (Za (YY Xl (cn CT hr (Za (pv 0) (Za Zi Zb))) Zi (ZD _)) Zb))) Zb)))) (Za (cn CS hr (Za (pv 0) Zb)) Zb))))))))),?_⟩;refine⟨_,rfl,_,rfl,b,l,ps,rfl,hb,hp,gp,λH1 q st gl B1 S1 hq nq es eg ne=>?_⟩;refine⟨q,_,rfl,SqT.of hq,rfl,_,_,rfl,_,_,rfl,rfl,?_⟩;refine⟨_,rfl,_,rfl,_,rfl,_,rfl,by show 2<=sizeLine;decide,λl2 hl2=>?_⟩;have n2:=B1.ne hl2;refine⟨_,rfl,b,8,rfl,B1.new hl2,by decide,Zw (by decide) (by decide),λr2 H2 h02 h12 B2 S2=>?_⟩;have el2:=S2 _ _ Zc n2;have S02:=(S1.new' (o:=.lst [.int 3,.int 50]) hl2).trans S2;refine⟨rfl,.inr ⟨_,rfl,l2,_,_,_,rfl,rfl,SqL.of el2,Ra,b,_,rfl,B2,?_,?_,λlo H3 h03 h13 B3 S3=>?_⟩⟩
  ·exact Int.lt_of_lt_of_le (by decide:(0:Int)<3) (UB (by decide) (by decide) _)
  ·exact Zw (Int.le_trans (by decide:(0:Int)<=3) (UB (by decide) (by decide) _)) (UA (by decide) (by decide) _)
  ·have h50:lo<50:=Int.lt_of_lt_of_le h13 (UA (by decide) (by decide) _);refine⟨_,_,rfl,rfl,_,rfl,b,rfl,B3,λwi H4 h04 h14 B4 S4=>?_⟩;refine⟨by show 5<=sizeLine;decide,λq2 hq2=>?_⟩;exact k _ q2 ⟨nm,st,gl,1+lo,wi⟩ (B4.new hq2) (((S02.trans S3).trans S4).new' hq2) Zc (B4.ne hq2) rfl ⟨⟨es,eg,ne⟩,by show 1<=1+lo;omega,by show 1+lo<=50;omega,h04,h14⟩
theorem Jh:FnScope ["_law_box_here","_law_name","_law_turns","_law_places_here","_law_place"] ["_law_box_here","_law_name","_law_turns","_law_places_here"] (Zg T.f__law_group):=scO (by decide +kernel)
theorem Q5(B:∀x∈Blts,mg x=none)(CT:Can P w K mg base 1 "_law_take" ["_law_box_here","_law_many"] Xj)(D:Df K mg "_law_group" T.f__law_group ["_law_box_here","_law_name","_law_turns","_law_places_here"]):Can P w K mg base 2 "_law_group" ["_law_box_here","_law_name","_law_turns","_law_places_here"] Pa:=by
 refine D.can Jh (λvs H Q E h=>?_) (λf cdv A outer s H vs Q E hr h=>?_)
 ·obtain⟨b,l,nm,n,ps,rfl,_⟩:=h;rfl
 ·obtain⟨b,l,nm,n,ps,rfl,hb,hnl,hp,gp,hn1,hn2,k⟩:=h;refine⟨_,(Zd (st 1 Jh.nd (Zv Zy (pv 1) (il K (ZQ (Za Zn (Za Zn (Za Zn (Za Zn Zb))))) (cn CT hr (Za (pv 0) (Za Zi Zb)))))) (Zd (st 4 Jh.nd (it K (il K (pv 3) (cn CT hr (Za (pv 0) (Za (ZI (r:=rLen K) Yg rfl (B _ (by decide +kernel)) PySem.boot_len (Za (pv 3) Zb)) Zb)))) Zi)) (Zk (Zq (Ys (Za (pv 1) (Za (pv 4) (Za (cn CT hr (Za (pv 0) (Za (Zv Yp (pv 2) Zi) Zb))) (Za (cn CT hr (Za (pv 0) (Za Zi Zb))) Zb))))))))),?_⟩;refine⟨_,rfl,by show 4<=sizeLine;decide,λl2 hl2=>?_⟩;have n2:=hb.ne hl2;refine⟨_,rfl,b,4,rfl,hb.new hl2,by decide,Zw (by decide) (by decide),λr2 H2 h02 h12 B2 S2=>?_⟩;have el2:=S2 _ _ Zc n2;have S02:=((Zj.refl b H).new' (o:=.lst (sufs.map V.str)) hl2).trans S2;obtain⟨sf,hat,hsf⟩:=Rb (ts:=sufs) h02 h12;have hsl:sf.length<=3:=(by decide +kernel:∀t∈sufs,t.length<=3) sf hsf;refine⟨l2,_,r2,_,rfl,rfl,SqL.of el2,hat,_,_,rfl,rfl,Nat.le_trans (by omega:nm.length+sf.length<=2000) (by decide),?_⟩;have hp2:=hp.same S02;have hp2':=hp2;obtain⟨nlb,as,el,len,rws⟩:=hp2';have len':as.length=ps.length:=by rw[len,List.length_map]
  have h36:3<=ps.length/\ps.length<=6:=⟨gp.lo,gp.hi⟩;refine⟨_,rfl,_,rfl,_,rfl,l,_,rfl,.inl (SqL.of el),b,_,rfl,B2,by rw[List.length_map];omega,Zw (by omega) (by rw[List.length_map];omega),λr3 H3 h03 h13 B3 S3=>?_⟩;rw[List.length_map]at h13;have hi:r3.toNat<ps.length:=by omega
  obtain⟨a,na,ha,as',el',ea,len2⟩:=(hp2.same S3).at (i:=r3.toNat) (r:=ZM ps[r3.toNat]) (by rw[List.getElem?_map,List.getElem?_eq_getElem hi];rfl);refine⟨l,_,r3,.ref a,rfl,rfl,SqL.of el',Rc (j:=r3.toNat) (by omega) (by rw[List.getElem?_map,ea];rfl),a,_,0,_,rfl,rfl,SqT.of ha,Zr (j:=0) rfl,?_⟩;refine⟨_,rfl,_,rfl,_,rfl,_,rfl,_,_,rfl,rfl,b,n+1,rfl,B3,by omega,Zw (by omega) (by omega),λtu H4 h04 h14 B4 S4=>?_⟩;refine⟨_,rfl,b,6,rfl,B4,by decide,Zw (by decide) (by decide),λma H5 h05 h15 B5 S5=>?_⟩;refine⟨by show 4<=sizeLine;decide,λq hq=>?_⟩;exact k _ q ⟨nm++sf,ps[r3.toNat].1,tu,ma⟩ (B5.new hq) ((((S02.trans S3).trans S4).trans S5).new' hq) Zc (B5.ne hq) ⟨⟨sf,hsf,rfl⟩,⟨ps[r3.toNat].2,List.getElem_mem hi⟩,h04,by show tu<=n;omega,h05,by show ma<=5;omega⟩
structure Wd where
 n:Int
 ps:Pl
 rs:List Rd
 ws:List Wy
 gs:List Gr
structure Names(ts:List Str)(s:Str):Prop where
 nd:ts.Nodup
 nm:∀t∈ts,Nm t
 len:ts.length<=12
 snm:Nm s
 s:s∉ts
structure GoodW(W:Wd)(bs:List Str):Prop where
 n0:1<=W.n
 n1:W.n<=50
 pl:GoodPl W.ps
 rd:∀r∈W.rs,GoodRd W.n W.ps r
 wy:∀r∈W.ws,GoodWy W.ps r
 len:W.gs.length=bs.length
 gr:∀(i:Nat)b g,bs[i]?=some b->W.gs[i]?=some g->GoodGr W.n W.ps b g
structure Strange(W:Wd)(bs:List Str)(s0 s1 s2 s3:Str):Prop where
 p:Nm s0/\s0∉W.ps.map (·.1)
 r:Names (W.rs.map (·.nm)) s1
 w:Names (W.ws.map (·.nm)) s2
 g:Names bs s3
structure WorldAt(b:Addr)(H:Hp)(p:Addr)(W:Wd)(l1 l2 l3 l4:Addr):Prop where
 ne:p≠b
 at_:H p=some (.lst [.int W.n,.ref l1,.ref l2,.ref l3,.ref l4])
 pl:ZH b H l1 (W.ps.map ZM)
 rd:ZH b H l2 (W.rs.map JB)
 wy:ZH b H l3 (W.ws.map Vy)
 gr:ZH b H l4 (W.gs.map grRow)
def Ro:Sp:=λvs H Q _=>∃(b:Addr),vs=[.ref b]/\Zz H b/\∀H' q p st l1 l2 l3 l4(W:Wd)(bs:List Str)(s0 s1 s2 s3:Str),Zz H' b->Zj b H H'->q≠b->H' q=some (.lst [.ref p,.ref st])->st≠b->H' st=some (.lst [.str s0,.str s1,.str s2,.str s3])->WorldAt b H' p W l1 l2 l3 l4->GoodW W bs->Strange W bs s0 s1 s2 s3->Q (.ref q) H'
def GK(b:Addr)(H:Hp)(l:Addr)(ts:List Str):Prop:=l≠b/\H l=some (.lst (ts.map V.str))/\1<=ts.length/\ts.length<=13/\ts.Nodup/\∀t∈ts,Nm t
theorem GK.same{b:Addr}{H H':Hp}{l:Addr}{ts:List Str}(s:Zj b H H')(h:GK b H l ts):GK b H' l ts:=⟨h.1,s _ _ h.2.1 h.1,h.2.2⟩
theorem cut1(xs:List V)(h:1<=xs.length):cutV xs (some 1) none=xs.drop 1:=by
 have e:HT.sIx xs.length 0 (some 1)=1:=by simp[HT.sIx];omega
 have e2:HT.sIx xs.length xs.length none=xs.length:=by simp[HT.sIx]
 unfold cutV;rw[e,e2,List.take_of_length_le (by rw[List.length_drop];exact Nat.le_refl _)]
theorem Names.of{ts:List Str}{s:Str}(h1:(s::ts).length<=13)(h2:(s::ts).Nodup)(h3:∀t∈s::ts,Nm t):Names ts s:=by rw[List.nodup_cons]at h2;exact⟨h2.2,λt ht=>h3 t (List.mem_cons_of_mem _ ht),by simp at h1;omega,h3 s List.mem_cons_self,h2.1⟩
def Made{R:Type}(b:Addr)(H:Hp)(row:R->List V)(G:Str->R->Prop)(tl:List Str)(i:Nat)(ys:List V):Prop:=∃(as:List Addr)(rs:List R),ys=as.map V.ref/\as.length=i/\rs.length=i/\(∀(j:Nat)a r,as[j]?=some a->rs[j]?=some r->a≠b/\H a=some (.tup (row r)))/\∀(j:Nat)r t,rs[j]?=some r->tl[j]?=some t->G t r
theorem Made.nil{R:Type}{b:Addr}{H:Hp}{row:R->List V}{G:Str->R->Prop}{tl:List Str}:Made b H row G tl 0 []:=⟨[],[],rfl,rfl,rfl,λj a r h=>by simp at h,λj r t h=>by simp at h⟩
theorem Made.len{R:Type}{b:Addr}{H:Hp}{row:R->List V}{G:Str->R->Prop}{tl:List Str}{i:Nat}{ys:List V}(m:Made b H row G tl i ys):ys.length<=i:=by obtain⟨as,rs,rfl,l1,_⟩:=m;rw[List.length_map,l1];exact Nat.le_refl _
theorem Gs{α:Type}{l:List α}{x y:α}{j i:Nat}(hl:l.length=i)(h:(l++[x])[j]?=some y):l[j]?=some y\/(j=i/\x=y):=by
 rcases Nat.lt_or_ge j l.length with h1|h1
 ·rw[List.getElem?_append_left h1]at h;exact .inl h
 ·rw[List.getElem?_append_right h1]at h;rcases Nat.eq_zero_or_pos (j-l.length)with h2|h2
  ·rw[h2]at h;exact .inr ⟨by omega,by simpa using h⟩
  ·rw[List.getElem?_eq_none (by simp;omega)]at h;cases h
theorem Made.step{R:Type}{b:Addr}{H H2:Hp}{row:R->List V}{G:Str->R->Prop}{tl:List Str}{i:Nat}{ys:List V}{a:Addr}{r:R}{t:Str}(m:Made b H row G tl i ys)(s:Zj b H H2)(na:a≠b)(ha:H2 a=some (.tup (row r)))(ht:tl[i]?=some t)(g:G t r):Made b H2 row G tl (i+1) (ys++[.ref a]):=by
 obtain⟨as,rs,rfl,l1,l2,r1,r2⟩:=m;refine⟨as++[a],rs++[r],by simp,by simp[l1],by simp[l2],λj a' r' h1 h2=>?_,λj r' t' h1 h2=>?_⟩
 ·rcases Gs l1 h1 with h1|⟨e,rfl⟩
  ·have hj:j<i:=by rw[<-l1];exact(List.getElem?_eq_some_iff.mp h1).1
   rcases Gs l2 h2 with h2|⟨e,rfl⟩
   ·obtain⟨n,e⟩:=r1 j a' r' h1 h2;exact⟨n,s _ _ e n⟩
   ·omega
  ·rcases Gs l2 h2 with h2|⟨e,rfl⟩
   ·have hj:j<i:=by rw[<-l2];exact(List.getElem?_eq_some_iff.mp h2).1
    omega
   ·exact⟨na,ha⟩
 ·rcases Gs l2 h1 with h1|⟨e,rfl⟩
  ·exact r2 j r' t' h1 h2
  ·rw[e,ht]at h2;cases h2;exact g
theorem Made.done{R:Type}{b:Addr}{H:Hp}{row:R->List V}{G:Str->R->Prop}{tl:List Str}{ys:List V}(m:Made b H row G tl tl.length ys){l:Addr}(hb:Zz H b)(hl:H l=none):∃rs:List R,ZH b (upd H l (.lst ys)) l (rs.map row)/\rs.length=tl.length/\∀(j:Nat)r t,rs[j]?=some r->tl[j]?=some t->G t r:=by obtain⟨as,rs,rfl,l1,l2,r1,r2⟩:=m;refine⟨rs,⟨hb.ne hl,as,Zc,by rw[List.length_map,l1,l2],λi a r h1 h2=>?_⟩,l2,r2⟩;rw[List.getElem?_map]at h2;obtain⟨r',h2',rfl⟩:=Option.map_eq_some_iff.mp h2;obtain⟨n,e⟩:=r1 i a r' h1 h2';exact⟨n,by rw[Ze (Zf e hl)];exact e⟩
theorem Qt{K:PySem.W.Frag}{H:Hp}{l:Addr}{ts:List Str}(h:H l=some (.lst (ts.map V.str))){i:Nat}(hi:i<ts.length):(Itl K l).go i H:=⟨_,.str ts[i],SqL.of h,by simp[hi]⟩
theorem GU{K:PySem.W.Frag}{H:Hp}{l:Addr}{ts:List Str}(h:H l=some (.lst (ts.map V.str))):(Itl K l).stop ts.length H:=⟨_,SqL.of h,by simp⟩
theorem GV{K:PySem.W.Frag}{H H':Hp}{l:Addr}{ts:List Str}(h:H l=some (.lst (ts.map V.str))){i:Nat}{x:V}(hi:i<ts.length)(y:(Itl K l).yld i H x H'):H'=H/\x=.str ts[i]:=by obtain⟨rfl,q⟩:=y;have:=q _ (SqL.of h);rw[List.getElem?_map,List.getElem?_eq_getElem hi]at this;exact⟨rfl,(Option.some.inj this).symm⟩
theorem Yh:FnScope ["_law_box_here","_law_turns","_law_places_here","_law_strange","_law_names_here","_law_rides","_law_ways","_law_groups"] ["_law_box_here"] (Zg T.f__law_world):=scO (by decide +kernel)
noncomputable def Xv:Scope:={kind:=.function,names:=[(Str.ofString ".0",.local),(Str.ofString "_law_k",.local),(Str.ofString "_law_names",.globalImplicit),(Str.ofString "_law_take",.globalImplicit),(Str.ofString "int",.globalImplicit),(Str.ofString "_law_box_here",.free)],isGenerator:=false,isCoroutine:=false,more:=[]}
theorem V9:CompScope Xv (Zg T.f__law_world):=⟨rfl,by decide +kernel,by decide +kernel,by decide +kernel⟩
theorem Ub:(["_law_k","_law_box_here"]:List Str).Nodup:=by decide +kernel
theorem Ua:CompNames ["_law_box_here","_law_turns","_law_places_here","_law_strange","_law_names_here","_law_rides","_law_ways","_law_groups"] Xv ["_law_k","_law_box_here"] [none,some 0]:=.mk' (by decide +kernel)
noncomputable def Xu:Scope:={kind:=.function,names:=[(Str.ofString ".0",.local),(Str.ofString "_law_name",.local),(Str.ofString "_law_ride",.globalImplicit),(Str.ofString "_law_box_here",.free),(Str.ofString "_law_places_here",.free),(Str.ofString "_law_turns",.free)],isGenerator:=false,isCoroutine:=false,more:=[]}
theorem V6:CompScope Xu (Zg T.f__law_world):=⟨rfl,by decide +kernel,by decide +kernel,by decide +kernel⟩
theorem V8:(["_law_name","_law_box_here","_law_places_here","_law_turns"]:List Str).Nodup:=by decide +kernel
theorem V7:CompNames ["_law_box_here","_law_turns","_law_places_here","_law_strange","_law_names_here","_law_rides","_law_ways","_law_groups"] Xu ["_law_name","_law_box_here","_law_places_here","_law_turns"] [none,some 0,some 2,some 1]:=.mk' (by decide +kernel)
noncomputable def Xs:Scope:={kind:=.function,names:=[(Str.ofString ".0",.local),(Str.ofString "_law_name",.local),(Str.ofString "_law_way",.globalImplicit),(Str.ofString "_law_box_here",.free),(Str.ofString "_law_places_here",.free)],isGenerator:=false,isCoroutine:=false,more:=[]}
theorem V3:CompScope Xs (Zg T.f__law_world):=⟨rfl,by decide +kernel,by decide +kernel,by decide +kernel⟩
theorem V5:(["_law_name","_law_box_here","_law_places_here"]:List Str).Nodup:=by decide +kernel
theorem V4:CompNames ["_law_box_here","_law_turns","_law_places_here","_law_strange","_law_names_here","_law_rides","_law_ways","_law_groups"] Xs ["_law_name","_law_box_here","_law_places_here"] [none,some 0,some 2]:=.mk' (by decide +kernel)
noncomputable def Xr:Scope:={kind:=.function,names:=[(Str.ofString ".0",.local),(Str.ofString "_law_name",.local),(Str.ofString "_law_group",.globalImplicit),(Str.ofString "_law_box_here",.free),(Str.ofString "_law_places_here",.free),(Str.ofString "_law_turns",.free)],isGenerator:=false,isCoroutine:=false,more:=[]}
theorem V0:CompScope Xr (Zg T.f__law_world):=⟨rfl,by decide +kernel,by decide +kernel,by decide +kernel⟩
theorem V2:(["_law_name","_law_box_here","_law_places_here","_law_turns"]:List Str).Nodup:=by decide +kernel
theorem V1:CompNames ["_law_box_here","_law_turns","_law_places_here","_law_strange","_law_names_here","_law_rides","_law_ways","_law_groups"] Xr ["_law_name","_law_box_here","_law_places_here","_law_turns"] [none,some 0,some 2,some 1]:=.mk' (by decide +kernel)
theorem Te(B:∀x∈Blts,mg x=none)(CT:Can P w K mg base 1 "_law_take" ["_law_box_here","_law_many"] Xj)(CN:Can P w K mg base 2 "_law_names" ["_law_box_here","_law_many"] Nd)(CP:Can P w K mg base 3 "_law_places" ["_law_box_here"] N7)(CR:Can P w K mg base 3 "_law_ride" ["_law_box_here","_law_name","_law_turns","_law_places_here"] Rx)(CW:Can P w K mg base 3 "_law_way" ["_law_box_here","_law_name","_law_places_here"] Wn)(CG:Can P w K mg base 2 "_law_group" ["_law_box_here","_law_name","_law_turns","_law_places_here"] Pa)(D:Df K mg "_law_world" T.f__law_world ["_law_box_here"]):Can P w K mg base 4 "_law_world" ["_law_box_here"] Ro:=by
 refine D.can Yh (λvs H Q E h=>?_) (λf cdv A outer s H vs Q E hr h=>?_)
 ·obtain⟨b,rfl,_⟩:=h;rfl
 ·obtain⟨b,rfl,hb,k⟩:=h;refine⟨_,(Zd (Yn (i:=1) Yh.nd rfl (Or.inr rfl) (Zv Yp Zi (cn CT hr (Za (pv 0) (Za (il K (ZQ (Za Zi (Za Zi Zb))) (ZE Gb rfl (B _ (by decide +kernel)) Mv (Za (YY Xl (cn CT hr (Za (pv 0) (Za Zi Zb))) Zi (ZD _)) Zb))) Zb))))) (Zd (UJ (cn CP hr (Za (pv 0) Zb)) (WQ rfl (Zp (Zo (i:=2) Yh.nd rfl (Or.inr rfl)) (Zp (Zo (i:=3) Yh.nd rfl (Or.inl rfl)) ZV)))) (Zd (Yy (i:=4) Yh.nd rfl (Or.inl rfl) (scope:=Xv) (N:=["_law_k","_law_box_here"]) (cp:=[none,some 0]) rfl V9 Ua (YR rfl (B _ (by decide +kernel)) (Za Zi Zb)) (λC s H ex pn=>(Zo (i:=0) Ub rfl (Or.inl rfl))) (λC s H ex pn=>ZO) (λC s H ex pn=>(cn CN hr (Za (pv 1) (Za (Zv Yp Zi (cn CT hr (Za (pv 1) (Za (il K (ZQ (Za Zi (Za Zi Zb))) (ZE Gb rfl (B _ (by decide +kernel)) Mv (Za (YY Xl (cn CT hr (Za (pv 1) (Za Zi Zb))) Zi (ZD _)) Zb))) Zb)))) Zb))))) (Zd (Yy (i:=5) Yh.nd rfl (Or.inl rfl) (scope:=Xu) (N:=["_law_name","_law_box_here","_law_places_here","_law_turns"]) (cp:=[none,some 0,some 2,some 1]) rfl V6 V7 (Yc (Yv (r:=rSlL K) Jg (il K (pv 4) Zi) (YG Zi) YH)) (λC s H ex pn=>(Zo (i:=0) V8 rfl (Or.inl rfl))) (λC s H ex pn=>ZO) (λC s H ex pn=>(cn CR hr (Za (pv 1) (Za (pv 0) (Za (pv 3) (Za (pv 2) Zb))))))) (Zd (Yy (i:=6) Yh.nd rfl (Or.inl rfl) (scope:=Xs) (N:=["_law_name","_law_box_here","_law_places_here"]) (cp:=[none,some 0,some 2]) rfl V3 V4 (Yc (Yv (r:=rSlL K) Jg (il K (pv 4) Zi) (YG Zi) YH)) (λC s H ex pn=>(Zo (i:=0) V5 rfl (Or.inl rfl))) (λC s H ex pn=>ZO) (λC s H ex pn=>(cn CW hr (Za (pv 1) (Za (pv 0) (Za (pv 2) Zb)))))) (Zd (Yy (i:=7) Yh.nd rfl (Or.inl rfl) (scope:=Xr) (N:=["_law_name","_law_box_here","_law_places_here","_law_turns"]) (cp:=[none,some 0,some 2,some 1]) rfl V0 V1 (Yc (Yv (r:=rSlL K) Jg (il K (pv 4) Zi) (YG Zi) YH)) (λC s H ex pn=>(Zo (i:=0) V2 rfl (Or.inl rfl))) (λC s H ex pn=>ZO) (λC s H ex pn=>(cn CG hr (Za (pv 1) (Za (pv 0) (Za (pv 3) (Za (pv 2) Zb))))))) (Zk (Zq (ZQ (Za (ZQ (Za (pv 1) (Za (pv 2) (Za (pv 5) (Za (pv 6) (Za (pv 7) Zb)))))) (Za (ZQ (Za (pv 3) (Za (il K (il K (pv 4) Zi) Zi) (Za (il K (il K (pv 4) Zi) Zi) (Za (il K (il K (pv 4) Zi) Zi) Zb))))) Zb))))))))))),?_⟩;refine⟨_,rfl,by show 2<=sizeLine;decide,λl2 hl2=>?_⟩;have n2:=hb.ne hl2;refine⟨_,rfl,b,8,rfl,hb.new hl2,by decide,Zw (by decide) (by decide),λr2 H2 h02 h12 B2 S2=>?_⟩;have el2:=S2 _ _ Zc n2;have S02:=((Zj.refl b H).new' (o:=.lst [.int 6,.int 50]) hl2).trans S2;refine⟨rfl,.inr ⟨_,rfl,l2,_,_,_,rfl,rfl,SqL.of el2,Ra,b,_,rfl,B2,?_,?_,λtu H3 h03 h13 B3 S3=>?_⟩⟩
  ·exact Int.lt_of_lt_of_le (by decide:(0:Int)<6) (UB (by decide) (by decide) _)
  ·exact Zw (Int.le_trans (by decide:(0:Int)<=6) (UB (by decide) (by decide) _)) (UA (by decide) (by decide) _)
  have h50:tu<50:=Int.lt_of_lt_of_le h13 (UA (by decide) (by decide) _);clear h13;refine⟨_,_,rfl,rfl,?_⟩;have S03:=S02.trans S3;clear S02 S2 S3 el2 hl2;have hn1:1<=(1+tu):=by omega
  have hn2:(1+tu)<=50:=by omega
  refine⟨_,rfl,b,rfl,B3,λH4 q l1 s0 ps B4 S4 hq nq hpl gp s0n s0p=>?_⟩;refine⟨q,_,rfl,SqL.of hq,rfl,_,_,rfl,_,_,rfl,rfl,?_⟩;have S04:=S03.trans S4;clear S03 S4 B3;refine⟨3,rfl,by decide,by decide,ZF (J:=Itr 0 3) 3 (by decide)
   (λi ys τ H'=>Zz H' b/\Zj b H H'/\ZH b H' l1 (ps.map ZM)/\(∃ls:List (Addr×List Str),ys=ls.map (λp=>V.ref p.1)/\ls.length=i/\∀p∈ls,GK b H' p.1 p.2)/\∃v,τ=[v,some (.ref b)]) ⟨B4,S04,hpl,⟨[],rfl,rfl,by simp⟩,none,rfl⟩ (λi ys τ H' p=>?_) (λi ys τ H' hi p=>hi) (λys τ H' p=>Nat.le_refl _) (λi ys τ H' x' H3 hi p yl=>?_) (λys τ H5 p ln hln=>?_)⟩
  ·obtain⟨_,_,_,⟨ls,rfl,e,_⟩,_⟩:=p;rw[List.length_map,e];exact Nat.le_refl _
  ·obtain⟨bx,sm,hpl5,⟨ls,rfl,e,ho⟩,v,rfl⟩:=p;obtain⟨rfl,rfl⟩:=yl;refine⟨_,rfl,_,rfl,by show 2<=sizeLine;decide,λl2 hl2=>?_⟩;have n2:=bx.ne hl2;refine⟨_,rfl,b,8,rfl,bx.new hl2,by decide,Zw (by decide) (by decide),λr2 H2 h02 h12 B2 S2=>?_⟩;have el2:=S2 _ _ Zc n2;have S12:=((Zj.refl b H3).new' (o:=.lst [.int 5,.int 13]) hl2).trans S2;refine⟨rfl,.inr ⟨_,rfl,l2,_,_,_,rfl,rfl,SqL.of el2,Ra,b,_,rfl,B2,?_,?_,λmn H6 h06 h16 B6 S6=>?_⟩⟩
   ·exact Int.lt_of_lt_of_le (by decide:(0:Int)<5) (UB (by decide) (by decide) _)
   ·exact Zw (Int.le_trans (by decide:(0:Int)<=5) (UB (by decide) (by decide) _)) (UA (by decide) (by decide) _)
   have h13:mn<13:=Int.lt_of_lt_of_le h16 (UA (by decide) (by decide) _);refine⟨_,_,rfl,rfl,b,1+mn,rfl,B6,by omega,by omega,λH7 l7 ts B7 S7 hl7 nl7 hlen hnd hnm=>?_⟩;have S17:=(S12.trans S6).trans S7;refine⟨B7,sm.trans S17,hpl5.same S17,⟨ls++[(l7,ts)],by rw[List.map_append];rfl,by simp[e],λp hp=>?_⟩,_,rfl⟩;rcases List.mem_append.mp hp with hp|hp
   ·exact(ho p hp).same S17
   ·rw[List.mem_singleton]at hp;subst hp;exact⟨nl7,hl7,by show 1<=ts.length;omega,by show ts.length<=13;omega,hnd,hnm⟩
  ·obtain⟨B5,S05,hpl5,⟨ls,rfl,e,ho⟩,v,rfl⟩:=p;match ls,e,ho with
  |[(a1,t1),(a2,t2),(a3,t3)],_,ho=>
   have N1:=ho (a1,t1) (by simp);have N2:=ho (a2,t2) (by simp);have N3:=ho (a3,t3) (by simp);clear ho;dsimp only[List.map]at hln ⊢;have nln:=B5.ne hln;have B6:=B5.new (o:=.lst [.ref a1,.ref a2,.ref a3]) hln;have S56:Zj b H5 (upd H5 ln (.lst [.ref a1,.ref a2,.ref a3])):=(Zj.refl b H5).new' hln;have eln:upd H5 ln (.lst [.ref a1,.ref a2,.ref a3]) ln=some (.lst [.ref a1,.ref a2,.ref a3]):=Zc;generalize upd H5 ln (.lst [.ref a1,.ref a2,.ref a3])=H6 at B6 S56 eln ⊢;have S06:=S05.trans S56;have N1:=N1.same S56;have N2:=N2.same S56;have N3:=N3.same S56;have hpl6:=hpl5.same S56;clear S56 S05 hpl5 B5 hln;obtain⟨na1,ea1,c1,c1',nd1,nm1⟩:=id N1;obtain⟨h1,u1,rfl⟩:∃h u,t1=h::u:=by
    cases t1 with
   |nil=>simp at c1
   |cons h u=>exact⟨h,u,rfl⟩
   refine⟨_,rfl,ln,_,0,_,rfl,rfl,SqL.of eln,Zr (j:=0) rfl,_,rfl,a1,_,rfl,SqL.of ea1,λx1 hx1=>?_⟩;rw[cut1 _ (by rw[List.length_map];exact c1)];have nx1:=B6.ne hx1;refine⟨x1,rfl,⟨_,SqL.of Zc⟩,?_⟩;have ex1:upd H6 x1 (.lst ((h1::u1).map V.str |>.drop 1)) x1=some (.lst (u1.map V.str)):=Zc
   have Bx1:=B6.new (o:=.lst ((h1::u1).map V.str |>.drop 1)) hx1
   have Sx1:Zj b H6 (upd H6 x1 (.lst ((h1::u1).map V.str |>.drop 1))):=(Zj.refl b H6).new' hx1
   generalize upd H6 x1 (.lst ((h1::u1).map V.str |>.drop 1))=X1 at ex1 Bx1 Sx1 ⊢
   have len1:u1.length<=12:=by simp at c1';omega
   refine ZF (J:=Itl K x1) u1.length (Nat.le_trans len1 (by decide)) (λi ys τ H'=>Zz H' b/\Zj b X1 H'/\Made b H' JB (λt(r:Rd)=>r.nm=t/\GoodRd (1+tu) ps r) u1 i ys/\∃v,τ=[v,some (.ref b),some (.ref l1),some (.int (1+tu))]) ⟨Bx1,Zj.refl b _,Made.nil,none,rfl⟩ (λi ys τ H' p=>p.2.2.1.len) (λi ys τ H' hi p=>Qt (p.2.1 _ _ ex1 nx1) hi) (λys τ H' p=>GU (p.2.1 _ _ ex1 nx1)) (λi ys τ H' x' H3 hi p yl=>?_) (λys τ H70 p lr hlr=>?_)
   ·obtain⟨bx,sm,md,v,rfl⟩:=p;obtain⟨rfl,rfl⟩:=GV (sm _ _ ex1 nx1) hi yl;exact⟨_,rfl,_,rfl,_,rfl,_,rfl,b,l1,_,(1+tu),ps,rfl,bx,hpl6.same (Sx1.trans sm),gp,hn1,hn2,λH4 q r B4 S4 hq nq e g=>⟨B4,sm.trans S4,md.step S4 nq hq (List.getElem?_eq_getElem hi) ⟨e,g⟩,_,rfl⟩⟩
   obtain⟨bx1,sm1,md1,v,rfl⟩:=p;obtain⟨rs,R1,lr1,g1⟩:=md1.done bx1 hlr;have B7:=bx1.new (o:=.lst ys) hlr;have S1_:Zj b H6 (upd H70 lr (.lst ys)):=(Sx1.trans sm1).new' hlr;generalize upd H70 lr (.lst ys)=H7 at B7 S1_ R1 ⊢;have S07:=S06.trans S1_;have hpl7:=hpl6.same S1_;have eln:=S1_ _ _ eln nln;have N2:=N2.same S1_;have N3:=N3.same S1_;clear Sx1 sm1 ex1 bx1 Bx1 ea1;obtain⟨na2,ea2,c2,c2',nd2,nm2⟩:=id N2;obtain⟨h2,u2,rfl⟩:∃h u,t2=h::u:=by
    cases t2 with
   |nil=>simp at c2
   |cons h u=>exact⟨h,u,rfl⟩
   refine⟨_,rfl,ln,_,1,_,rfl,rfl,SqL.of eln,Zr (j:=1) rfl,_,rfl,a2,_,rfl,SqL.of ea2,λx2 hx2=>?_⟩;rw[cut1 _ (by rw[List.length_map];exact c2)];have nx2:=B7.ne hx2;refine⟨x2,rfl,⟨_,SqL.of Zc⟩,?_⟩;have ex2:upd H7 x2 (.lst ((h2::u2).map V.str |>.drop 1)) x2=some (.lst (u2.map V.str)):=Zc
   have Bx2:=B7.new (o:=.lst ((h2::u2).map V.str |>.drop 1)) hx2
   have Sx2:Zj b H7 (upd H7 x2 (.lst ((h2::u2).map V.str |>.drop 1))):=(Zj.refl b H7).new' hx2
   generalize upd H7 x2 (.lst ((h2::u2).map V.str |>.drop 1))=X2 at ex2 Bx2 Sx2 ⊢
   have len2:u2.length<=12:=by simp at c2';omega
   refine ZF (J:=Itl K x2) u2.length (Nat.le_trans len2 (by decide)) (λi ys τ H'=>Zz H' b/\Zj b X2 H'/\Made b H' Vy (λt(r:Wy)=>r.nm=t/\GoodWy ps r) u2 i ys/\∃v,τ=[v,some (.ref b),some (.ref l1)]) ⟨Bx2,Zj.refl b _,Made.nil,none,rfl⟩ (λi ys τ H' p=>p.2.2.1.len) (λi ys τ H' hi p=>Qt (p.2.1 _ _ ex2 nx2) hi) (λys τ H' p=>GU (p.2.1 _ _ ex2 nx2)) (λi ys τ H' x' H3 hi p yl=>?_) (λys τ H80 p lw hlw=>?_)
   ·obtain⟨bx,sm,md,v,rfl⟩:=p;obtain⟨rfl,rfl⟩:=GV (sm _ _ ex2 nx2) hi yl;exact⟨_,rfl,_,rfl,_,rfl,b,l1,_,ps,rfl,bx,hpl7.same (Sx2.trans sm),gp,λH4 q r B4 S4 hq nq e g=>⟨B4,sm.trans S4,md.step S4 nq hq (List.getElem?_eq_getElem hi) ⟨e,g⟩,_,rfl⟩⟩
   obtain⟨bx2,sm2,md2,v,rfl⟩:=p;obtain⟨ws,R2,lr2,g2⟩:=md2.done bx2 hlw;have B8:=bx2.new (o:=.lst ys) hlw;have S2_:Zj b H7 (upd H80 lw (.lst ys)):=(Sx2.trans sm2).new' hlw;generalize upd H80 lw (.lst ys)=H8 at B8 S2_ R2 ⊢;have S08:=S07.trans S2_;have hpl8:=hpl7.same S2_;have eln:=S2_ _ _ eln nln;have N3:=N3.same S2_;have R1:=R1.same S2_;clear Sx2 sm2 ex2 bx2 Bx2 ea2;obtain⟨na3,ea3,c3,c3',nd3,nm3⟩:=id N3;obtain⟨h3,u3,rfl⟩:∃h u,t3=h::u:=by
    cases t3 with
   |nil=>simp at c3
   |cons h u=>exact⟨h,u,rfl⟩
   refine⟨_,rfl,ln,_,2,_,rfl,rfl,SqL.of eln,Zr (j:=2) rfl,_,rfl,a3,_,rfl,SqL.of ea3,λx3 hx3=>?_⟩;rw[cut1 _ (by rw[List.length_map];exact c3)];have nx3:=B8.ne hx3;refine⟨x3,rfl,⟨_,SqL.of Zc⟩,?_⟩;have ex3:upd H8 x3 (.lst ((h3::u3).map V.str |>.drop 1)) x3=some (.lst (u3.map V.str)):=Zc
   have Bx3:=B8.new (o:=.lst ((h3::u3).map V.str |>.drop 1)) hx3
   have Sx3:Zj b H8 (upd H8 x3 (.lst ((h3::u3).map V.str |>.drop 1))):=(Zj.refl b H8).new' hx3
   generalize upd H8 x3 (.lst ((h3::u3).map V.str |>.drop 1))=X3 at ex3 Bx3 Sx3 ⊢
   have len3:u3.length<=12:=by simp at c3';omega
   refine ZF (J:=Itl K x3) u3.length (Nat.le_trans len3 (by decide)) (λi ys τ H'=>Zz H' b/\Zj b X3 H'/\Made b H' grRow (λt(r:Gr)=>GoodGr (1+tu) ps t r) u3 i ys/\∃v,τ=[v,some (.ref b),some (.ref l1),some (.int (1+tu))]) ⟨Bx3,Zj.refl b _,Made.nil,none,rfl⟩ (λi ys τ H' p=>p.2.2.1.len) (λi ys τ H' hi p=>Qt (p.2.1 _ _ ex3 nx3) hi) (λys τ H' p=>GU (p.2.1 _ _ ex3 nx3)) (λi ys τ H' x' H3 hi p yl=>?_) (λys τ H90 p lg hlg=>?_)
   ·obtain⟨bx,sm,md,v,rfl⟩:=p;obtain⟨rfl,rfl⟩:=GV (sm _ _ ex3 nx3) hi yl;exact⟨_,rfl,_,rfl,_,rfl,_,rfl,b,l1,_,(1+tu),ps,rfl,bx,Nat.le_trans (by have:=(nm3 u3[i] (List.mem_cons_of_mem _ (List.getElem_mem hi))).2.1;rw[ZG]at this;exact this) (by decide),hpl8.same (Sx3.trans sm),gp,hn1,hn2,λH4 q r B4 S4 hq nq g=>⟨B4,sm.trans S4,md.step S4 nq hq (List.getElem?_eq_getElem hi) g,_,rfl⟩⟩
   obtain⟨bx3,sm3,md3,v,rfl⟩:=p;obtain⟨gs,R3,lr3,g3⟩:=md3.done bx3 hlg;have B9:=bx3.new (o:=.lst ys) hlg;have S3_:Zj b H8 (upd H90 lg (.lst ys)):=(Sx3.trans sm3).new' hlg;generalize upd H90 lg (.lst ys)=H9 at B9 S3_ R3 ⊢;have S09:=S08.trans S3_;have hpl9:=hpl8.same S3_;have eln:=S3_ _ _ eln nln;have R1:=R1.same S3_;have R2:=R2.same S3_;have N1:=N1.same ((S1_.trans S2_).trans S3_);have N2:=N2.same (S2_.trans S3_);have N3:=N3.same S3_;clear Sx3 sm3 ex3 bx3 Bx3 ea3;refine⟨_,rfl,_,rfl,_,rfl,_,rfl,_,rfl,by show 5<=sizeLine;decide,λpw hpw=>?_⟩;have npw:=B9.ne hpw;have Bp:=B9.new (o:=.lst [.int (1+tu),.ref l1,.ref lr,.ref lw,.ref lg]) hpw;have Sp:Zj b H9 (upd H9 pw (.lst [.int (1+tu),.ref l1,.ref lr,.ref lw,.ref lg])):=(Zj.refl b H9).new' hpw;have ep:upd H9 pw (.lst [.int (1+tu),.ref l1,.ref lr,.ref lw,.ref lg]) pw=some (.lst [.int (1+tu),.ref l1,.ref lr,.ref lw,.ref lg]):=Zc;generalize upd H9 pw (.lst [.int (1+tu),.ref l1,.ref lr,.ref lw,.ref lg])=Hp at Bp Sp ep ⊢;have elnp:=Sp _ _ eln nln;have at0:∀(x:V)(l:List V),atI (x::l) 0=some x:=λx l=>Zr (xs:=x::l) (j:=0) rfl;refine⟨_,rfl,_,rfl,ln,_,0,_,rfl,rfl,SqL.of elnp,Zr (j:=0) rfl,a1,_,0,_,rfl,rfl,SqL.of (Sp _ _ N1.2.1 N1.1),at0 _ _,_,rfl,ln,_,1,_,rfl,rfl,SqL.of elnp,Zr (j:=1) rfl,a2,_,0,_,rfl,rfl,SqL.of (Sp _ _ N2.2.1 N2.1),at0 _ _,_,rfl,ln,_,2,_,rfl,rfl,SqL.of elnp,Zr (j:=2) rfl,a3,_,0,_,rfl,rfl,SqL.of (Sp _ _ N3.2.1 N3.1),at0 _ _,by show 4<=sizeLine;decide,λps4 hps4=>?_⟩;have nps4:=Bp.ne hps4;refine⟨by show 2<=sizeLine;decide,λqq hqq=>?_⟩;have Bs:=Bp.new (o:=.lst [.str s0,.str h1,.str h2,.str h3]) hps4;have Ss:Zj b Hp (upd Hp ps4 (.lst [.str s0,.str h1,.str h2,.str h3])):=(Zj.refl b Hp).new' hps4;have Sq:=(Sp.trans Ss).new' (o:=.lst [.ref pw,.ref ps4]) hqq;have st4:(upd (upd Hp ps4 (.lst [.str s0,.str h1,.str h2,.str h3])) qq (.lst [.ref pw,.ref ps4])) ps4=some (.lst [.str s0,.str h1,.str h2,.str h3]):=by rw[Ze (Zf Zc hqq)];exact Zc
   have fst:∀{R:Type}{f:R->Str}{rs:List R}{u:List Str},rs.length=u.length->(∀(j:Nat)r t,rs[j]?=some r->u[j]?=some t->f r=t)->rs.map f=u:=λ{R f rs u}hl hf=>by apply List.ext_getElem (by simp[hl]);intro i h1 h2;simp only[List.getElem_map];exact hf i _ _ (List.getElem?_eq_getElem (by simpa using h1)) (List.getElem?_eq_getElem h2)
   have f1:rs.map (·.nm)=u1:=fst lr1 λj r t a c=>(g1 j r t a c).1;have f2:ws.map (·.nm)=u2:=fst lr2 λj r t a c=>(g2 j r t a c).1;have all:∀{R:Type}{rs:List R}{u:List Str}{G:R->Prop},rs.length=u.length->(∀(j:Nat)r t,rs[j]?=some r->u[j]?=some t->G r)->∀r∈rs,G r:=λ{R rs u G}hl hf r hr=>by
    obtain⟨j,hj⟩:=List.mem_iff_getElem?.mp hr;have:j<u.length:=by rw[<-hl];exact(List.getElem?_eq_some_iff.mp hj).1
    exact hf j r _ hj (List.getElem?_eq_getElem this)
   refine k _ qq pw ps4 l1 lr lw lg ⟨(1+tu),ps,rs,ws,gs⟩ u3 s0 h1 h2 h3 (Bs.new hqq) (S09.trans Sq) (Bs.ne hqq) Zc nps4 st4 ⟨npw,?_,hpl9.same Sq,R1.same Sq,R2.same Sq,R3.same Sq⟩ ?_ ?_
   ·exact((Zj.refl b Hp).new' hps4).new' hqq _ _ ep npw
   ·exact⟨hn1,hn2,gp,all lr1 λj r t a c=>(g1 j r t a c).2,all lr2 λj r t a c=>(g2 j r t a c).2,lr3,λi c g h1 h2=>g3 i g c h2 h1⟩
   ·refine⟨⟨s0n,s0p⟩,?_,?_,Names.of c3' nd3 nm3⟩
    ·show Names (rs.map (·.nm)) h1;rw[f1];exact Names.of c1' nd1 nm1
    ·show Names (ws.map (·.nm)) h2;rw[f2];exact Names.of c2' nd2 nm2
end
theorem RM{t:Str}(h:Nm t):∃c r,codes t=c::r/\c∈LET:=by
 obtain⟨h1,h2,h3⟩:=h;cases e:codes t with
|nil=>rw[e]at h1;simp at h1
|cons c r=>exact⟨c,r,rfl,h3 c (by rw[e];exact List.mem_cons_self)⟩
theorem W2{t:Str}(h:Nm t):ZL false (.str t)=true:=by
 obtain⟨c,r,e,hc⟩:=RM h;obtain⟨h1,h2,h3⟩:=h;show K1.Y1 8 (K1.codes K1.tNAME) (codes t)=true;unfold K1.Y1 K1.Z6 K1.lenB;rw[K1.Ff];simp only[Bool.and_eq_true,decide_eq_true_eq,List.all_eq_true];refine⟨⟨⟨by omega,by omega⟩,λd hd=>?_⟩,?_⟩
 ·exact List.mem_append_left _ (List.mem_append_left _ (h3 d hd))
 ·rw[e];exact hc
theorem Wc:∀s∈sufs,(codes s).length<=3/\(∀c∈codes s,c∈LET++K1.FIG++[46])/\((codes s).head?.map λc=>decide (c∈LET))≠some true:=by decide +kernel
theorem Em{t s:Str}(h:Nm t)(hs:s∈sufs):ZL true (.str (t++s))=true:=by
 obtain⟨c,r,e,hc⟩:=RM h;obtain⟨h1,h2,h3⟩:=h;obtain⟨s1,s2,_⟩:=Wc s hs;show K1.Y1 12 (K1.codes K1.tGROUP) (codes (t++s))=true;unfold K1.Y1 K1.Z6 K1.lenB;rw[K1.Ew,Xi];simp only[Bool.and_eq_true,decide_eq_true_eq,List.all_eq_true,List.length_append];refine⟨⟨⟨by omega,by omega⟩,λd hd=>?_⟩,?_⟩
 ·rcases List.mem_append.mp hd with hd|hd
  ·exact List.mem_append_left _ (List.mem_append_left _ (h3 d hd))
  ·exact s2 d hd
 ·rw[e];exact hc
theorem Sh{t s:Str}(h:Nm t)(hs:s∈sufs):(codes (t++s)).takeWhile (λc=>decide (c∈LET))=codes t:=by
 obtain⟨_,_,h3⟩:=h;obtain⟨_,_,s3⟩:=Wc s hs;rw[Xi,List.takeWhile_append_of_pos (λc hc=>decide_eq_true (h3 c hc))];cases e:codes s with
|nil=>simp
|cons c r=>
  rw[e]at s3;have:decide (c∈LET)=false:=by simpa using s3
  rw[List.takeWhile_cons_of_neg (by rw[this];exact Bool.false_ne_true),List.append_nil]
theorem YQ{i lo hi:Int}(h1:lo<=i)(h2:i<=hi):K1.Zt (.int i) lo hi=true:=by show(decide (lo<=i)&&decide (i<=hi))=true;simp[h1,h2]
end WD
namespace L2
open PySem PySem.W PySem.Spec PyProof.Rows
section
variable {X:Cx}
def rNil(neg:Bool)(K:PySem.W.Frag):R2:=λx y H Q=>∃a b xs,x=.ref a/\y=.ref b/\SqL K H a xs/\H b=some (.lst [])/\Q (.bl (if neg then !decide (xs=[])else decide (xs=[]))) H
end
end L2
namespace L2
open PySem PySem.Spec PyProof.Rows
section
variable {X:Cx}
def rEqD:R2:=λx y H Q=>∃d e,Is H x d/\Is H y e/\SeqAt.shaped d=true/\SeqAt.shaped e=true/\Q (.bl (PyData.eqv d e)) H
theorem DQ(hu:X.A.units+64<cLine):OpR X (compareOp .Eq) rEqD:=by intro pins s σ H x y v u Q I rx ry h;obtain⟨d,e,h1,h2,s1,s2,q⟩:=h;obtain⟨as,r1⟩:=h1.reads I.hok rx;obtain⟨bs,r2⟩:=h2.reads I.hok ry;exact SeqAt.compareEq_shaped r1 r2 s1 s2 hu ⟨.bl _,H,I,rfl,q⟩
noncomputable def DG:List V->Hp->VK->Prop:=λxs H Q=>∃x d,xs=[x]/\Is H x d/\d.showable=true/\d.depth<=64/\d.shown.length<=sizeLine/\Q (.str d.shown) H
theorem Q7{k:Nat}(hr:Room k X.A):YM X (.builtin "repr") DG:=by
 intro pins s σ H xs us Q I r h;obtain⟨x,d,rfl,hd,hs,hdp,hz,q⟩:=h;have q0:=q;cases hd with
|non=>obtain⟨u,rfl,rx⟩:=vals1 r;cases rx;refine PySem.P.repr_of_none ⟨.str (PyData.none).shown,H,I.tok _,⟨s.toks,?_⟩,q⟩;simp only[PyData.shown]
|bl b=>obtain⟨u,rfl,rx⟩:=vals1 r;cases rx;refine PySem.P.repr_of_bool ⟨.str (PyData.bool b).shown,H,I.tok _,⟨s.toks,?_⟩,q⟩;simp only[PyData.shown]
|int i=>obtain⟨u,rfl,t,rfl⟩:=vals1 r;refine PySem.P.repr_of_int (by simpa[PyData.showable]using hs) ⟨.str (PyData.int i).shown,H,I.tok _,⟨s.toks,?_⟩,q⟩;simp only[PyData.shown]
|str z=>obtain⟨u,rfl,t,rfl⟩:=vals1 r;refine PySem.P.repr_of_str ⟨.str (PyData.str z).shown,H,I.tok _,⟨s.toks,?_⟩,q⟩ (by simpa only[PyData.shown]using hz);simp only[PyData.shown]
|lst e ra=>exact Mu hr pins s σ H _ us Q I r ⟨_,_,rfl,.lst e ra,hs,hdp,hz,q⟩
|tup e ra=>exact Mu hr pins s σ H _ us Q I r ⟨_,_,rfl,.tup e ra,hs,hdp,hz,q⟩
end
end L2
namespace WD
open PySem L2 PySem.Spec PyProof.Rows TB
noncomputable def szJ:Nat->Nat
|1=>2|2=>6|3=>5|_=>4
noncomputable def Dd:Nat->Nat
|1=>14|2=>80|3=>40|_=>300
noncomputable def Ez:Nat->Str
|1=>"places"|2=>"rides"|3=>"ways"|_=>"groups"
noncomputable def gJ(j:Nat):Bool:=decide (j=4)
noncomputable abbrev Kv:=List (Key×V)
noncomputable def whyJ(j:Nat)(k1:Kv)(n pp:Int)(ys:List V):V:=match j with
|1=>Z5 (at_ ys 1)
|2=>JA k1 n ys
|3=>wayW k1 ys
|_=>Jm k1 n pp ys
noncomputable def dueJ(j:Nat)(k1:Kv)(n pp:Int)(kvs:Kv)(r:Option (List V)):V:=if begR (gJ j) (szJ j) kvs r≠.non then begR (gJ j) (szJ j) kvs r else match r with
 |some ys=>whyJ j k1 n pp ys
 |none=>.str "form"
noncomputable def Js(j:Nat)(k1:Kv)(n:Int):Nat->Int->Kv->List (V×Option (List V))->Sum (Nat×V) Kv
|_,_,kvs,[]=>.inr kvs
|i,pp,kvs,(x,r)::rs=>if dueJ j k1 n pp kvs r≠.non then .inl (i,dueJ j k1 n pp kvs r)else match r with
 |some ys=>Js j k1 n (i+1) (pp+Z9 ys) (putK kvs (.inr (nameOf ys)) (if j=1 then at_ ys 1 else x)) rs
 |none=>.inl (i,.str "form")
theorem JU{j:Nat}{k1:Kv}{n pp:Int}{kvs:Kv}{r:Option (List V)}(h:begR (gJ j) (szJ j) kvs r≠.non):dueJ j k1 n pp kvs r=begR (gJ j) (szJ j) kvs r:=by unfold dueJ;rw[if_pos h]
theorem Y0{j:Nat}{k1:Kv}{n pp:Int}{kvs:Kv}{ys:List V}(h:begR (gJ j) (szJ j) kvs (some ys)=.non):dueJ j k1 n pp kvs (some ys)=whyJ j k1 n pp ys:=by unfold dueJ;rw[if_neg (λz=>z h)]
theorem JT{j:Nat}{k1:Kv}{n:Int}{i:Nat}{pp:Int}{kvs:Kv}{x:V}{r:Option (List V)}{rs:List (V×Option (List V))}(h:dueJ j k1 n pp kvs r≠.non):Js j k1 n i pp kvs ((x,r)::rs)=.inl (i,dueJ j k1 n pp kvs r):=by unfold Js;rw[if_pos h]
theorem VR{j:Nat}{k1:Kv}{n:Int}{i:Nat}{pp:Int}{kvs:Kv}{x:V}{ys:List V}{rs:List (V×Option (List V))}(h:dueJ j k1 n pp kvs (some ys)=.non):Js j k1 n i pp kvs ((x,some ys)::rs)=Js j k1 n (i+1) (pp+Z9 ys) (putK kvs (.inr (nameOf ys)) (if j=1 then at_ ys 1 else x)) rs:=by
 conv=>lhs;unfold Js
 rw[if_neg (λz=>z h)]
theorem Mi{g:Bool}{m:Nat}{why:List V->V}{j:Nat}{k1:Kv}{n:Int}(hg:gJ j=g)(hm:szJ j=m)(hj:j≠1)(hw:∀pp ys,whyJ j k1 n pp ys=why ys):∀(rs:List (V×Option (List V)))(i:Nat)(pp:Int)(kvs:Kv),Yj g m why i kvs rs=Js j k1 n i pp kvs rs
|[],_,_,_=>rfl
|(x,r)::rs,i,pp,kvs=>by
  subst hg hm;by_cases b:begR (gJ j) (szJ j) kvs r=.non
  ·cases r with
  |none=>cases b
  |some ys=>
    rw[UH b];by_cases h:why ys=.non
    ·rw[if_neg (λz=>z h),VR (by rw[Y0 b,hw];exact h),if_neg hj];exact Mi rfl rfl hj hw rs _ _ _
    ·rw[if_pos h,JT (by rw[Y0 b,hw];exact h),Y0 b,hw]
  ·rw[G6 b,JT (by rw[JU b];exact b),JU b]
theorem Ml{k1:Kv}{n:Int}:∀(rs:List (V×Option (List V)))(i:Nat)(pp:Int)(kvs:Kv),Yb k1 n i pp kvs rs=Js 4 k1 n i pp kvs rs
|[],_,_,_=>rfl
|(x,r)::rs,i,pp,kvs=>by
  by_cases b:begR true 4 kvs r=.non
  ·cases r with
  |none=>cases b
  |some ys=>
    have b':begR (gJ 4) (szJ 4) kvs (some ys)=.non:=b;rw[Gk b];by_cases h:Jm k1 n pp ys=.non
    ·rw[if_neg (λz=>z h),VR (by rw[Y0 b'];exact h),if_neg (by decide)];exact Ml rs _ _ _
    ·rw[if_pos h,JT (by rw[Y0 b'];exact h),Y0 b'];rfl
  ·have b':begR (gJ 4) (szJ 4) kvs r≠.non:=b;rw[JT (by rw[JU b'];exact b),JU b'];unfold Yb;rw[if_pos b];rfl
theorem Mj{k1:Kv}{n:Int}:∀(xs:List V)(rs:List (Option (List V)))(i:Nat)(pp:Int)(kvs:Kv),xs.length=rs.length->Z7 i kvs rs=Js 1 k1 n i pp kvs (xs.zip rs)
|[],[],_,_,_,_=>rfl
|[],_::_,_,_,_,h=>by cases h
|_::_,[],_,_,_,h=>by cases h
|x::xs,r::rs,i,pp,kvs,hl=>by
  rw[List.zip_cons_cons];by_cases b:begR false 2 kvs r=.non
  ·obtain⟨ys,y,rfl,h2,h0⟩:=JI b;have b':begR (gJ 1) (szJ 1) kvs (some ys)=.non:=b;obtain⟨x0,room,rfl⟩:=len2 h2;have hx0:x0=.str y:=h0;subst hx0;conv=>lhs;unfold Z7
   rw[if_neg (λz=>z b)];dsimp only;by_cases h:Z5 room=.non
   ·rw[if_neg (λz=>z h),VR (by rw[Y0 b'];exact h),if_pos rfl];exact Mj xs rs _ _ _ (by simpa using hl)
   ·rw[if_pos h,JT (by rw[Y0 b'];exact h),Y0 b'];rfl
  ·have b':begR (gJ 1) (szJ 1) kvs r≠.non:=b;rw[G8 b,JT (by rw[JU b'];exact b),JU b'];rfl
noncomputable def goJ(j:Nat)(k1:Kv)(n:Int):List V->List (Option (List V))->Sum (Nat×V) Kv:=match j with
|1=>goP
|2=>goR k1 n
|3=>goW k1
|_=>goG k1 n
theorem El{j:Nat}(hj:j=1\/j=2\/j=3\/j=4){k1:Kv}{n:Int}{xs:List V}{rs:List (Option (List V))}(h:xs.length=rs.length):goJ j k1 n xs rs=Js j k1 n 0 0 [] (xs.zip rs):=by
 rcases hj with rfl|rfl|rfl|rfl
 ·exact Mj xs rs _ _ _ h
 ·exact Mi (j:=2) (k1:=k1) (n:=n) rfl rfl (by decide) (λ_ _=>rfl) _ _ _ _
 ·exact Mi (j:=3) (k1:=k1) (n:=n) rfl rfl (by decide) (λ_ _=>rfl) _ _ _ _
 ·exact Ml _ _ _ _
def Mw(k1:Kv)(t1:List (List V)):Prop:=∀p∈t1,valV k1 (.inr (nameOf p))=some (at_ p 1)
structure PlDict(k1:Kv)(t1:List (List V)):Prop where
 has:Mw k1 t1
 no:∀z,z∉t1.map nameOf->valV k1 (.inr z)=none
def Flat(y:V):Prop:=y=.non\/(∃i,y=.int i)\/∃z,y=.str z/\z.length<=1000
structure RowOk(j:Nat)(n:Int)(t1:List (List V))(ys:List V):Prop where
 len:ys.length=szJ j
 nm:ZL (gJ j) (at_ ys 0)=true
 why:∀k1,(j≠1->Mw k1 t1)->∀pp,(j=4->pp+Z9 ys<=300)->whyJ j k1 n pp ys=.non
 ma:j=4->0<=Z9 ys
 flat:∀y∈ys,Flat y
structure RowsOk(j:Nat)(n:Int)(t1 t:List (List V)):Prop where
 nd:(t.map nameOf).Nodup
 row:∀ys∈t,RowOk j n t1 ys
 sum:j=4->(t.map Z9).sum<=300
theorem DS{g:Bool}{v:V}(h:ZL g v=true):∃z,v=.str z:=by unfold ZL at h;split at h<;>(unfold K1.VN at h;cases v<;>first|exact⟨_,rfl⟩|(exfalso;simp at h))
theorem RowOk.name{j:Nat}{n:Int}{t1:List (List V)}{ys:List V}(h:RowOk j n t1 ys):ys.getD 0 .non=.str (nameOf ys):=by obtain⟨z,e⟩:=DS h.nm;have e':ys.getD 0 .non=.str z:=e;unfold nameOf;rw[e']
theorem Wb:∀{l:List Int},(∀x∈l,0<=x)->0<=l.sum
|[],_=>by simp
|x::l,h=>by rw[List.sum_cons];have:=h x List.mem_cons_self;have:=Wb (l:=l) λy hy=>h y (List.mem_cons_of_mem _ hy);omega
theorem RS{j:Nat}{k1:Kv}{n:Int}{t1:List (List V)}(hk:j≠1->Mw k1 t1){rest:List (V×Option (List V))}:∀(t:List (List V))(xs:List V)(i:Nat)(pp:Int)(kvs:Kv),xs.length=t.length->(t.map nameOf).Nodup->(∀ys∈t,RowOk j n t1 ys)->(j=4->pp+(t.map Z9).sum<=300)->(∀ys∈t,valV kvs (.inr (nameOf ys))=none) ->∃kvs',Js j k1 n i pp kvs (xs.zip (t.map some)++rest)=Js j k1 n (i+t.length) (pp+(t.map Z9).sum) kvs' rest/\(∀z,z∉t.map nameOf->valV kvs' (.inr z)=valV kvs (.inr z))/\(j=1->Mw kvs' t)/\(∀ys∈t,valV kvs' (.inr (nameOf ys))≠none)/\(j≠1->∀(m:Nat)y x,t[m]?=some y->xs[m]?=some x->valV kvs' (.inr (nameOf y))=some x)
|[],[],i,pp,kvs,_,_,_,_,_=>⟨kvs,by simp,λ_ _=>rfl,λ_ p hp=>(by cases hp),λp hp=>(by cases hp),λ_ m y x h=>by simp at h⟩
|[],_::_,_,_,_,h,_,_,_,_=>by cases h
|_::_,[],_,_,_,h,_,_,_,_=>by cases h
|y::t,x::xs,i,pp,kvs,hl,nd,hr,hs,hn=>by
  have ry:=hr y List.mem_cons_self;have ny:=hn y List.mem_cons_self;have b:begR (gJ j) (szJ j) kvs (some y)=.non:=by show begV _ _ _ _=_;unfold begV;rw[if_neg (λz=>z ry.len),show ZL (gJ j) (y.getD 0 .non)=true from ry.nm,if_neg (by decide),ry.name];rw[show ZT (.str (nameOf y)) kvs=false from by show(valV kvs _).isSome=false;rw[ny];rfl,if_neg (by decide)]
  rw[List.map_cons,List.nodup_cons]at nd;have ht:∀ys∈t,RowOk j n t1 ys:=λq hq=>hr q (List.mem_cons_of_mem _ hq);have hs':j=4->pp+Z9 y+(t.map Z9).sum<=300:=λe=>by have:=hs e;rw[List.map_cons,List.sum_cons]at this;omega
  have hy:j=4->pp+Z9 y<=300:=λe=>by
   have:=hs' e;have:=Wb (l:=t.map Z9) λx hx=>by obtain⟨q,hq,rfl⟩:=List.mem_map.mp hx;exact(ht q hq).ma e
   omega
  have hw:whyJ j k1 n pp y=.non:=ry.why k1 hk pp hy;have yn:∀q∈t,nameOf q≠nameOf y:=λq hq e=>nd.1 (e▸List.mem_map.mpr ⟨q,hq,rfl⟩);obtain⟨kvs',e1,e2,e3,e4,e5⟩:=RS hk (rest:=rest) t xs (i+1) (pp+Z9 y) (putK kvs (.inr (nameOf y)) (if j=1 then at_ y 1 else x)) (by simpa using hl) nd.2 ht hs' (λq hq=>by rw[GO,if_neg (λe=>yn q hq (by injection e))];exact hn q (List.mem_cons_of_mem _ hq));have eY:valV kvs' (.inr (nameOf y))=some (if j=1 then at_ y 1 else x):=by rw[e2 _ nd.1,GO,if_pos rfl]
  refine⟨kvs',?_,λz hz=>?_,λe p hp=>?_,λp hp=>?_,λnj m y' x' h1 h2=>?_⟩
  ·rw[List.map_cons,List.zip_cons_cons,List.cons_append,VR (by rw[Y0 b];exact hw),e1,List.map_cons,List.sum_cons,List.length_cons];congr 1<;>omega
  ·rw[List.map_cons,List.mem_cons,not_or]at hz;rw[e2 z hz.2,GO,if_neg (λe=>hz.1 (by injection e))]
  ·rcases List.mem_cons.mp hp with rfl|hp
   ·rw[eY,if_pos e]
   ·exact e3 e p hp
  ·rcases List.mem_cons.mp hp with rfl|hp
   ·rw[eY];exact λz=>by cases z
   ·exact e4 p hp
  ·cases m with
  |zero=>simp at h1 h2;subst h1 h2;rw[eY,if_neg nj]
  |succ m=>exact e5 nj m y' x' (by simpa using h1) (by simpa using h2)
def Rg(j:Nat)(n:Int)(t1 t:List (List V)):Prop:=t.length<=Dd j/\RowsOk j n t1 t
section
variable {j:Nat}{k1:Kv}{n:Int}{t1:List (List V)}
theorem X9(hj:j=1\/j=2\/j=3\/j=4)(hk:j≠1->Mw k1 t1){t:List (List V)}(h:Rg j n t1 t){xs:List V}(hx:xs.length=t.length):∃kvs,YB (Dd j) (goJ j k1 n) (some (xs,t.map some))=.inr kvs/\(j=1->PlDict kvs t)/\(∀z,z∉t.map nameOf->valV kvs (.inr z)=none)/\(j≠1->∀(m:Nat)y x,t[m]?=some y->xs[m]?=some x->valV kvs (.inr (nameOf y))=some x):=by obtain⟨hl,nd,row,sum⟩:=h;obtain⟨kvs,e,e2,e3,_,e5⟩:=RS (k1:=k1) (n:=n) hk (rest:=[]) t xs 0 0 [] hx nd row (λe=>by have:=sum e;omega) (λ_ _=>rfl);refine⟨kvs,?_,λe=>⟨e3 e,λz hz=>e2 z hz⟩,λz hz=>e2 z hz,e5⟩;unfold YB;simp only;rw[if_neg (by omega),El hj (by rw[hx,List.length_map])];rw[List.append_nil]at e;rw[e];rfl
end
structure Tb where
 n:Int
 t1:List (List V)
 t2:List (List V)
 t3:List (List V)
 t4:List (List V)
noncomputable def Tb.part(T:Tb):Nat->List (List V)
|1=>T.t1|2=>T.t2|3=>T.t3|_=>T.t4
structure OkTb(T:Tb):Prop where
 n0:1<=T.n
 n1:T.n<=50
 part:∀j,j=1\/j=2\/j=3\/j=4->Rg j T.n T.t1 (T.part j)
noncomputable def prs(xs:List V)(t:List (List V)):PR:=some (xs,t.map some)
structure RwDict(k:Kv)(t:List (List V))(xs:List V):Prop where
 at_:∀(m:Nat)y x,t[m]?=some y->xs[m]?=some x->valV k (.inr (nameOf y))=some x
 no:∀z,z∉t.map nameOf->valV k (.inr z)=none
structure TbDict(T:Tb)(x2 x3 x4:List V)(k:Ks):Prop where
 p:PlDict k.1 T.t1
 r:RwDict k.2.1 T.t2 x2
 w:RwDict k.2.2.1 T.t3 x3
 g:RwDict k.2.2.2 T.t4 x4
theorem TZ{T:Tb}(o:OkTb T){x1 x2 x3 x4:List V}(l1:x1.length=T.t1.length)(l2:x2.length=T.t2.length)(l3:x3.length=T.t3.length)(l4:x4.length=T.t4.length):∃k,Ge (.int T.n) (prs x1 T.t1) (prs x2 T.t2) (prs x3 T.t3) (prs x4 T.t4)=.inr k/\TbDict T x2 x3 x4 k:=by obtain⟨k1,e1,d,_⟩:=X9 (j:=1) (k1:=[]) (n:=T.n) (t1:=T.t1) (.inl rfl) (λh=>absurd rfl h) (o.part 1 (.inl rfl)) l1;have hd:=d rfl;obtain⟨k2,e2,_,n2,d2⟩:=X9 (j:=2) (k1:=k1) (n:=T.n) (t1:=T.t1) (.inr (.inl rfl)) (λ_=>hd.has) (o.part 2 (.inr (.inl rfl))) l2;obtain⟨k3,e3,_,n3,d3⟩:=X9 (j:=3) (k1:=k1) (n:=T.n) (t1:=T.t1) (.inr (.inr (.inl rfl))) (λ_=>hd.has) (o.part 3 (.inr (.inr (.inl rfl)))) l3;obtain⟨k4,e4,_,n4,d4⟩:=X9 (j:=4) (k1:=k1) (n:=T.n) (t1:=T.t1) (.inr (.inr (.inr rfl))) (λ_=>hd.has) (o.part 4 (.inr (.inr (.inr rfl)))) l4;refine⟨(k1,k2,k3,k4),?_,hd,⟨d2 (by decide),n2⟩,⟨d3 (by decide),n3⟩,⟨d4 (by decide),n4⟩⟩;unfold Ge;simp only[show(decide (1<=T.n)&&decide (T.n<=50))=true from by simp[o.n0,o.n1],if_true];rw[show YB 14 goP (prs x1 T.t1)=.inr k1 from e1];simp only[named];rw[show YB 80 (goR k1 T.n) (prs x2 T.t2)=.inr k2 from e2];simp only[named];rw[show YB 40 (goW k1) (prs x3 T.t3)=.inr k3 from e3];simp only[named];rw[show YB 300 (goG k1 T.n) (prs x4 T.t4)=.inr k4 from e4]
end WD
namespace L2
open PySem PySem.Spec PyProof.Rows
structure ZFar(z TI TO i1 i2:Addr)(f1 f2:List Addr):Prop where
 a1:TI≠z
 a2:TO≠z
 a3:TI≠TO
 b1:i1≠z/\i1≠TI/\i1≠TO/\i1≠i2
 b2:i2≠z/\i2≠TI/\i2≠TO
 c1:∀b∈f1,b≠z/\b≠TO/\b≠i2
 c2:∀b∈f2,b≠z/\b≠TO/\b≠i1
section
variable {prog:Program}{w:World}{A:Around}{E:Value->Shared->Prop}{s:Shared}{z TI TO i1 i2:Addr}{f1 f2:List Addr}{n1 n2 k:Nat}{P1 P2:Nat->Value->Prop}{S1 S2:Nat->Heap->Prop}{a b:Value}
theorem _root_.PySem.Draws.on{it:Addr}{fp:List Addr}{n:Nat}{P:Nat->Value->Prop}{St:Nat->Heap->Prop}(D:Draws prog w A it fp n P St){i:Nat}{h h':Heap}{c:Addr}(st:St i h)(hs:Heap.SameBut c h h')(hc:∀b∈fp,b≠c):St i h':=D.frame i h h' st λb hb o e=>hs.extBut _ _ (hc b hb) e
theorem KQ{Q:Value->Shared->Prop}(D1:Draws prog w A i1 f1 n1 P1 S1)(D2:Draws prog w A i2 f2 n2 P2 S2)(F:ZFar z TI TO i1 i2 f1 f2)(hz:IsZip s.heap z TI TO .none)(hTI:IsPair s.heap TI (.ref i1) (.ref i2))(hTO:IsPair s.heap TO a b)(k1:k<n1)(k2:k<n2)(s1:S1 k s.heap)(s2:S2 k s.heap)(hQ:∀h' tk x y,P1 k x->P2 k y->IsZip h' z TI TO (rawInt s.heap.objs.size)->IsPair h' TO x y->S1 (k+1) h'->S2 (k+1) h'->IsPair h' s.heap.objs.size x y ->(∀c o,c∉[z,TO,i1,i2]->s.heap.get? c=some o->h'.get? c=some o)->Q (.ref s.heap.objs.size) {s with heap:=h',toks:=tk}):wpAny (model prog w) A (Builtin.«zip.__next__» ⟨[.ref z],[]⟩) (λfin s'=>∃v,fin=.done (.ret v)/\Q v s') E s:=by
 show wpAny _ _ (field (.ref z) 2 >>= _) _ _ _;refine wpAny_bind (wpAny_field hz rfl (x:=.bool false) rfl ?_);show wpAny _ _ (field (.ref z) 3 >>= _) _ _ _;refine wpAny_bind (wpAny_field hz rfl (x:=.ref TI) rfl (wpAny_bind (wpAny_seqItems hTI rfl ?_)));show wpAny _ _ (Builtin.SmallTypes.ownedTupleIsFree (.ref z) >>= _) _ _ _;refine wpAny_bind ?_;unfold Builtin.SmallTypes.ownedTupleIsFree;refine wpAny_bind (wpAny_field hz rfl (x:=.none) rfl (wpAny_pure ?_));simp only[if_true];refine wpAny_bind (wpAny_rule (wpAny_bind (wpAny_field hz rfl (x:=.ref TO) rfl (wpAny_bind (wpAny_setField_rec hz (by simp) λha za sa=>?_)))));have za:IsZip ha z TI TO .ellipsis:=za;refine wpAny_bind ?_;simp only[List.zipIdx_cons,List.zipIdx_nil,List.forIn_cons,List.forIn_nil];refine wpAny_bind (wpAny_bind (wpAny_onRaise ?_));show wpAny _ _ (Builtin.SmallTypes.nextOf (.ref i1) >>= _) _ _ _;refine wpAny_bind (D1.item k {s with heap:=ha} _ _ k1 (D1.on s1 sa λb hb=>(F.c1 b hb).1) λx hb tk px t1 sb=>wpAny_pure ?_);have ob:IsPair hb TO a b:=sb.extBut _ _ F.b1.2.2.1.symm (sa.extBut _ _ F.a2 hTO);refine wpAny_bind (wpAny_seqItems ob rfl (wpAny_bind (wpAny_updateSeq_pair ob λhc oc sc=>wpAny_bind (wpAny_letGo (wpAny_pure ?_)))));have oc:IsPair hc TO x b:=oc;refine wpAny_bind (wpAny_bind (wpAny_onRaise ?_));show wpAny _ _ (Builtin.SmallTypes.nextOf (.ref i2) >>= _) _ _ _;have t2:S2 k hc:=D2.on (D2.on (D2.on s2 sa λb hb=>(F.c2 b hb).1) sb λb hb=>(F.c2 b hb).2.2) sc λb hb=>(F.c2 b hb).2.1;refine wpAny_bind (D2.item k {s with heap:=hc,toks:=tk} _ _ k2 t2 λy hd tk2 py u2 sd=>wpAny_pure ?_);have od:IsPair hd TO x b:=sd.extBut _ _ F.b2.2.2.symm oc;refine wpAny_bind (wpAny_seqItems od rfl (wpAny_bind (wpAny_updateSeq_pair od λhe oe se=>wpAny_bind (wpAny_letGo (wpAny_pure (wpAny_pure ?_))))));have oe:IsPair he TO x y:=oe;refine wpAny_bind (wpAny_seqItems oe rfl (wpAny_bind (wpAny_newTuple ?_)));have sz:he.objs.size=s.heap.objs.size:=by rw[se.1,sd.1,sc.1,sb.1,sa.1]
 have ze:IsZip he z TI TO .ellipsis:=se.extBut _ _ F.a2.symm (sd.extBut _ _ F.b2.1.symm (sc.extBut _ _ F.a2.symm (sb.extBut _ _ F.b1.1.symm za)));have ke:∀c o,c∉[z,TO,i1,i2]->s.heap.get? c=some o->he.get? c=some o:=λc o hc e=>by simp only[List.mem_cons,List.not_mem_nil,or_false,not_or]at hc;exact se.extBut _ _ hc.2.1 (sd.extBut _ _ hc.2.2.2 (sc.extBut _ _ hc.2.1 (sb.extBut _ _ hc.2.2.1 (sa.extBut _ _ hc.1 e))))
 have v1:S1 (k+1) he:=D1.on (D1.on (D1.on t1 sc λb hb=>(F.c1 b hb).2.1) sd λb hb=>(F.c1 b hb).2.2) se λb hb=>(F.c1 b hb).2.1;have v2:S2 (k+1) he:=D2.on u2 se λb hb=>(F.c2 b hb).2.1;have lz:z<he.objs.size:=Heap.lt_size ze;show wpAny _ _ (Builtin.SmallTypes.ownedTupleHandOut (.ref z) (.ref he.objs.size) >>= _) _ _ _;refine wpAny_bind ?_;unfold Builtin.SmallTypes.ownedTupleHandOut;refine wpAny_bind (wpAny_setField_rec (show IsZip (he.push {cls:=.type "tuple",data:=.seq #[x,y]}) z TI TO .ellipsis from Heap.get?_push_of_some _ ze) (by simp) λhg zg sg=>?_);have zg:IsZip hg z TI TO (rawInt he.objs.size):=zg;refine wpAny_setField_rec zg (by simp) λhh zh sh=>?_;have zh:IsZip hh z TI TO (rawInt he.objs.size):=zh;have up:∀c o,c≠z->he.get? c=some o->hh.get? c=some o:=λc o c1 e=>sh.extBut _ _ c1 (sg.extBut _ _ c1 (Heap.get?_push_of_some _ e));have pT:IsPair hh he.objs.size x y:=sh.extBut _ _ (Nat.ne_of_gt lz) (sg.extBut _ _ (Nat.ne_of_gt lz) (Heap.get?_push_size _ rfl));rw[sz]at zh pT;refine wpAny_pure ⟨_,rfl,?_⟩;show Q (.ref he.objs.size) _;rw[sz];exact hQ hh tk2 x y px py zh (up _ _ F.a2 oe) (D1.frame _ _ _ v1 λb hb o e=>up b o (F.c1 b hb).1 e) (D2.frame _ _ _ v2 λb hb o e=>up b o (F.c2 b hb).1 e) pT λc o hc e=>up c o (λq=>hc (by simp[q])) (ke c o hc e)
theorem Di{Q:Fin->Shared->Prop}(D1:Draws prog w A i1 f1 n1 P1 S1)(D2:Draws prog w A i2 f2 n2 P2 S2)(F:ZFar z TI TO i1 i2 f1 f2)(hz:IsZip s.heap z TI TO .none)(hTI:IsPair s.heap TI (.ref i1) (.ref i2))(hTO:IsPair s.heap TO a b)(s1:S1 k s.heap)(s2:S2 k s.heap)(hend:k=n1\/(k<n1/\k=n2))(hE:∀h' e tk,(∀c o,c∉[z,TO,i1,i2]->s.heap.get? c=some o->h'.get? c=some o)->(∃o,h'.get? e=some o/\o.cls=.type "StopIteration")->E (.ref e) {s with heap:=h',toks:=tk}):wpAny (model prog w) A (Builtin.«zip.__next__» ⟨[.ref z],[]⟩) Q E s:=by
 show wpAny _ _ (field (.ref z) 2 >>= _) _ _ _;refine wpAny_bind (wpAny_field hz rfl (x:=.bool false) rfl ?_);show wpAny _ _ (field (.ref z) 3 >>= _) _ _ _;refine wpAny_bind (wpAny_field hz rfl (x:=.ref TI) rfl (wpAny_bind (wpAny_seqItems hTI rfl ?_)));show wpAny _ _ (Builtin.SmallTypes.ownedTupleIsFree (.ref z) >>= _) _ _ _;refine wpAny_bind ?_;unfold Builtin.SmallTypes.ownedTupleIsFree;refine wpAny_bind (wpAny_field hz rfl (x:=.none) rfl (wpAny_pure ?_));simp only[if_true];refine wpAny_bind (wpAny_rule (wpAny_bind (wpAny_field hz rfl (x:=.ref TO) rfl (wpAny_bind (wpAny_setField_rec hz (by simp) λha za sa=>?_)))));have za:IsZip ha z TI TO .ellipsis:=za;refine wpAny_bind ?_;simp only[List.zipIdx_cons,List.zipIdx_nil,List.forIn_cons,List.forIn_nil];refine wpAny_bind (wpAny_bind (wpAny_onRaise ?_));show wpAny _ _ (Builtin.SmallTypes.nextOf (.ref i1) >>= _) _ _ _;rcases hend with rfl|⟨k1,rfl⟩
 ·refine wpAny_bind (D1.done {s with heap:=ha} _ _ (D1.on s1 sa λb hb=>(F.c1 b hb).1) λhb e sb he=>?_);obtain⟨oe,hoe,hce⟩:=he;have zb:IsZip hb z TI TO .ellipsis:=sb _ _ F.b1.1.symm za;have hez:e≠z:=λq=>by subst q;rw[zb]at hoe;cases hoe;simp at hce
  refine wpAny_setField_rec zb (by simp) λhc _ sc=>hE hc e _ (λc o q x=>?_) ⟨oe,sc.extBut _ _ hez hoe,hce⟩;simp only[List.mem_cons,List.not_mem_nil,or_false,not_or]at q;exact sc.extBut _ _ q.1 (sb _ _ q.2.2.1 (sa.extBut _ _ q.1 x))
 ·refine wpAny_bind (D1.item k {s with heap:=ha} _ _ k1 (D1.on s1 sa λb hb=>(F.c1 b hb).1) λx hb tk px t1 sb=>wpAny_pure ?_);have ob:IsPair hb TO a b:=sb.extBut _ _ F.b1.2.2.1.symm (sa.extBut _ _ F.a2 hTO);refine wpAny_bind (wpAny_seqItems ob rfl (wpAny_bind (wpAny_updateSeq_pair ob λhc oc sc=>wpAny_bind (wpAny_letGo (wpAny_pure ?_)))));refine wpAny_bind (wpAny_bind (wpAny_onRaise ?_));show wpAny _ _ (Builtin.SmallTypes.nextOf (.ref i2) >>= _) _ _ _;have t2:S2 k hc:=D2.on (D2.on (D2.on s2 sa λb hb=>(F.c2 b hb).1) sb λb hb=>(F.c2 b hb).2.2) sc λb hb=>(F.c2 b hb).2.1;refine wpAny_bind (D2.done {s with heap:=hc,toks:=tk} _ _ t2 λhd e sd he=>?_);obtain⟨oe,hoe,hce⟩:=he;have zd:IsZip hd z TI TO .ellipsis:=sd _ _ F.b2.1.symm (sc.extBut _ _ F.a2.symm (sb.extBut _ _ F.b1.1.symm za));have hez:e≠z:=λq=>by subst q;rw[zd]at hoe;cases hoe;simp at hce
  refine wpAny_setField_rec zd (by simp) λhf _ sf=>hE hf e _ (λc o q x=>?_) ⟨oe,sf.extBut _ _ hez hoe,hce⟩;simp only[List.mem_cons,List.not_mem_nil,or_false,not_or]at q;exact sf.extBut _ _ q.1 (sd _ _ q.2.2.2 (sc.extBut _ _ q.2.1 (sb.extBut _ _ q.2.2.1 (sa.extBut _ _ q.1 x))))
end
end L2
namespace L2
open PySem PySem.W PySem.Spec PyProof.Rows
noncomputable def Itzt(K:PySem.W.Frag)(l1 l2:Addr):It:=⟨λi H=>∃xs ys,H l1=some (.lst xs)/\SqT K H l2 ys/\i<xs.length/\i<ys.length,λi H x H'=>∃(T:Addr)(xs:List V)(a b:V),H T=none/\H l1=some (.lst xs)/\(∀ys,SqT K H l2 ys->ys[i]?=some b)/\xs[i]?=some a/\x=.ref T/\H'=upd H T (.tup [a,b]),λi H=>∃xs ys,H l1=some (.lst xs)/\SqT K H l2 ys/\i=min xs.length ys.length⟩
def ZtSt(z TI TO i1 i2 l1 l2:Addr)(i:Nat)(h:Heap):Prop:=IsZip h z TI TO .none/\IsPair h TI (.ref i1) (.ref i2)/\(∃a b,IsPair h TO a b)/\h.IsListIter i1 l1 i/\h.IsTupleIter i2 l2 i
theorem TM{z TI TO i1 i2 l1 l2:Addr}(D:ZipApart z TI TO i1 i2 l1 l2):ZFar z TI TO i1 i2 [i1,l1] [i2,l2]:=⟨D.TIz,D.TOz,D.TITO,⟨D.i1z,D.TIi1.symm,D.TOi1.symm,D.i12⟩,⟨D.i2z,D.TIi2.symm,D.TOi2.symm⟩,λb hb=>by
  simp only[List.mem_cons,List.not_mem_nil,or_false]at hb;rcases hb with rfl|rfl
  ·exact⟨D.i1z,D.TOi1.symm,D.i12⟩
  ·exact⟨D.l1z,D.l1TO,D.l1i2⟩,λb hb=>by
  simp only[List.mem_cons,List.not_mem_nil,or_false]at hb;rcases hb with rfl|rfl
  ·exact⟨D.i2z,D.TOi2.symm,D.i12.symm⟩
  ·exact⟨D.l2z,D.l2TO,D.l2i1⟩⟩
section
variable {prog:Program}{w:World}{A:Around}{E:Value->Shared->Prop}{s:Shared}{z TI TO i1 i2 l1 l2:Addr}{k:Nat}{xs ys:Array Value}{a b:Value}
theorem KP{Q:Option Value->Shared->Prop}{x y:Value}(hh:A.handled=none)(D:ZipApart z TI TO i1 i2 l1 l2)(st:ZtSt z TI TO i1 i2 l1 l2 k s.heap)(hl1:s.heap.IsList l1 xs)(hl2:s.heap.IsTuple l2 ys)(hx:xs[k]?=some x)(hy:ys[k]?=some y)(hQ:∀h' tk,IsZip h' z TI TO (rawInt s.heap.objs.size)->IsPair h' TO x y->h'.IsListIter i1 l1 (k+1)->h'.IsTupleIter i2 l2 (k+1)->IsPair h' s.heap.objs.size x y ->(∀c o,c∉[z,TO,i1,i2]->s.heap.get? c=some o->h'.get? c=some o)->Q (some (.ref s.heap.objs.size)) {s with heap:=h',toks:=tk}):wpAny (model prog w) A (pyNext (.ref z)) Q E s:=by obtain⟨hz,hTI,⟨a,b,hTO⟩,t1,t2⟩:=st;have hT:s.TypeIs (.ref z) "zip":=⟨_,hz,rfl⟩;have d1:=Draws.list (prog:=prog) (w:=w) (A:=A.in1) hh i1 l1 D.l1i1 xs;have d2:=JV (prog:=prog) (w:=w) (A:=A.in1) hh i2 l2 D.l2i2 ys;have k1:k<xs.size:=(Array.getElem?_eq_some_iff.mp hx).1;have k2:k<ys.size:=(Array.getElem?_eq_some_iff.mp hy).1;unfold pyNext;refine wpAny_bind (wpAny_attempt (wpAny_callSpecial?_slot (name:=Str.ofString "__next__") hT F.slot_zip_next (wpAny_call_entry F.slot_zip_next hT F.entry_zip_next (KQ d1 d2 (TM D) hz hTI hTO k1 k2 ⟨t1,hl1⟩ ⟨t2,hl2⟩ λh' tk x' y' px py b1 b2 b3 b4 b5 b6=>?_) (F.args_zip_next_1 _))));have ex:x'=x:=Option.some.inj (px.symm.trans hx);have ey:y'=y:=Option.some.inj (py.symm.trans hy);subst ex ey;exact wpAny_pure (hQ h' tk b1 b2 b3.1 b4.1 b5 b6)
theorem KO{Q:Option Value->Shared->Prop}(hh:A.handled=none)(D:ZipApart z TI TO i1 i2 l1 l2)(st:ZtSt z TI TO i1 i2 l1 l2 k s.heap)(hl1:s.heap.IsList l1 xs)(hl2:s.heap.IsTuple l2 ys)(hk:k=min xs.size ys.size)(hQ:∀h' tk,(∀c o,c∉[z,TO,i1,i2]->s.heap.get? c=some o->h'.get? c=some o)->Q none {s with heap:=h',toks:=tk}):wpAny (model prog w) A (pyNext (.ref z)) Q E s:=by
 obtain⟨hz,hTI,⟨a,b,hTO⟩,t1,t2⟩:=st;have hT:s.TypeIs (.ref z) "zip":=⟨_,hz,rfl⟩;have d1:=Draws.list (prog:=prog) (w:=w) (A:=A.in1) hh i1 l1 D.l1i1 xs;have d2:=JV (prog:=prog) (w:=w) (A:=A.in1) hh i2 l2 D.l2i2 ys;have he:k=xs.size\/(k<xs.size/\k=ys.size):=by omega
 unfold pyNext;refine wpAny_bind (wpAny_attempt (wpAny_callSpecial?_slot (name:=Str.ofString "__next__") hT F.slot_zip_next (wpAny_call_entry F.slot_zip_next hT F.entry_zip_next (Di d1 d2 (TM D) hz hTI hTO ⟨t1,hl1⟩ ⟨t2,hl2⟩ he λh' e tk kk ee=>?_) (F.args_zip_next_1 _))));obtain⟨o,ho,hc⟩:=ee;exact wpAny_bind (wpAny_isInstance (T:="StopIteration") (b:=true) ⟨o,ho,hc⟩ isSubtype_stop (wpAny_pure (hQ _ _ kk)))
end
theorem Se{P:Program}{w:World}{K:PySem.W.Frag}{es:List Expr}{k:Nat}{pt:Pos}(z TI TO i1 i2 l1 l2:Addr)(D:ZipApart z TI TO i1 i2 l1 l2):
  Turn P w K (.Tuple es k pt) (Itzt K l1 l2) [z,TI,TO,i1,i2] z (ZtSt z TI TO i1 i2 l1 l2) where
 mem:=by simp
 obj:=λi h st b hb=>by
  obtain⟨q1,q2,⟨a,c,q3⟩,⟨o4,q4,c4,d4⟩,⟨o5,q5,c5,d5⟩⟩:=st
  have hb':b=z\/b=TI\/b=TO\/b=i1\/b=i2:=by simpa using hb
  rcases hb' with rfl|rfl|rfl|rfl|rfl
  ·exact⟨_,q1,λv e=>by cases e⟩
  ·exact⟨_,q2,λv e=>by cases e⟩
  ·exact⟨_,q3,λv e=>by cases e⟩
  ·exact⟨_,q4,λv e=>by rw[d4]at e;cases e⟩
  ·exact⟨_,q5,λv e=>by rw[d5]at e;cases e⟩
 keep:=λi h h' st kk=>by
  obtain⟨q1,q2,⟨a,c,q3⟩,⟨o4,q4,r4⟩,⟨o5,q5,r5⟩⟩:=st
  exact⟨kk z (by simp) _ q1,kk TI (by simp) _ q2,⟨a,c,kk TO (by simp) _ q3⟩,⟨o4,kk i1 (by simp) _ q4,r4⟩,⟨o5,kk i2 (by simp) _ q5,r5⟩⟩
 item:=by
  intro X hP hw hK hc i pins s σ H E I hf st hg
  subst hP hw hK
  obtain⟨xs,ys,hx,hy,g1,g2⟩:=hg
  obtain⟨_,its,n,rv,hl,e⟩:=I.lstM hx
  obtain⟨its2,rv2,il2,hl2⟩:=I.tuple hy
  have hl2':=rv2.length
  obtain⟨q1,q2,q3,q4,q5⟩:=st
  have il1:s.heap.IsList l1 its.toArray:=⟨_,e,rfl,_,rfl⟩
  obtain⟨a,ha⟩:∃a,xs[i]?=some a:=⟨xs[i],List.getElem?_eq_getElem g1⟩
  obtain⟨b,hb⟩:∃b,ys[i]?=some b:=⟨ys[i],List.getElem?_eq_getElem g2⟩
  obtain⟨u2,hu2,ru⟩:=rv.get ha
  obtain⟨v2,hv2,rw'⟩:=rv2.get hb
  have st:ZtSt z TI TO i1 i2 l1 l2 i s.heap:=⟨q1,q2,q3,q4,q5⟩
  refine KP (I.ok.hd hc) D st il1 il2 (x:=u2) (y:=v2) (by simpa using hu2) (by simpa using hv2) λh' tk m1 m2 m3 m4 m5 kk=>?_
  generalize hTT:s.heap.objs.size=T at m1 m5
  have hT:s.heap.objs.size<=T:=Nat.le_of_eq hTT
  refine⟨_,rfl,?_⟩
  refine wpAny_letOwnedTupleGo_zip m1 λh2 z2 s2=>?_
  have hTn:H T=none:=I.hok.fresh hT
  have hap:T∉[z,TO,i1,i2]:=by
   have l1':=Heap.lt_size q1
   obtain⟨_,_,q3'⟩:=id q3
   have l2':=Heap.lt_size q3'
   obtain⟨_,q4',_⟩:=id q4
   have l3':=Heap.lt_size q4'
   obtain⟨_,q5',_⟩:=id q5
   have l4':=Heap.lt_size q5'
   simp only[List.mem_cons,List.not_mem_nil,or_false,not_or]
   rw[<-hTT]
   exact⟨Nat.ne_of_gt l1',Nat.ne_of_gt l2',Nat.ne_of_gt l3',Nat.ne_of_gt l4'⟩
  have kk2:∀c o,c∉[z,TO,i1,i2]->h'.get? c=some o->h2.get? c=some o:=λc o hc e=>s2.extBut _ _ (λq=>hc (by simp[q])) e
  have st2:ZtSt z TI TO i1 i2 l1 l2 (i+1) h2:=by
   refine⟨z2,s2.extBut _ _ D.TIz (kk _ _ (by simp[D.TIz,D.TITO,D.TIi1,D.TIi2]) q2),⟨_,_,s2.extBut _ _ D.TOz m2⟩,?_,?_⟩
   ·obtain⟨o,e,r⟩:=m3;exact⟨o,s2.extBut _ _ D.i1z e,r⟩
   ·obtain⟨o,e,r⟩:=m4;exact⟨o,s2.extBut _ _ D.i2z e,r⟩
  have ht:h'.IsTuple T #[u2,v2]:=⟨_,m5,rfl,_,rfl⟩
  have hb2:∀c,c∉[z,TO,i1,i2]->∀o,s.heap.get? c=some o->h2.get? c=some o:=λc hcn o q=>kk2 c o hcn (kk c o hcn q)
  have sub:∀c,c∈[z,TO,i1,i2]->c∈[z,TI,TO,i1,i2]:=λc hcn=>by
   simp at hcn ⊢
   rcases hcn with h|h|h|h<;>simp[h]
  have nb:∀c u,H c=some u->c∉[z,TO,i1,i2]:=λc u q hcn=>by rw[(hf c (sub c hcn)).1]at q;cases q
  have I1:Inv X pins σ (upd H T (.tup [a,b])) {s with heap:=h2,toks:=tk}:=by
   refine I.step (g':=s.gens) (d':=s.drawn) (ch:=[z,TO,i1,i2]) (λc hcn=>?_) (λc o _ _ hcn q _=>hb2 c hcn o q) (λc o _ _ hcn q _=>⟨o.slots,hb2 c hcn o q⟩)
    (λc o hcn q n=>?_) (λc o hcn q=>⟨o,hb2 c hcn o q⟩) (λc xs q=>?_) (λc o u q=>?_) (λc ps q=>?_) (λm hm=>?_) ?_ I.bare
   ·obtain⟨g0,g1,g2,g3,g4,g5⟩:=hf c (sub c hcn)
    exact⟨g3,g1,g4,g5⟩
   ·rw[Ze (Nat.ne_of_lt (Nat.lt_of_lt_of_le (Heap.lt_size q) hT))];exact n
   ·rw[Ze (Zf q hTn)];exact q
   ·rw[Ze (Zf q hTn)];exact q
   ·exact⟨#[],by rw[Ze (Zf q hTn),q];simp⟩
   ·obtain⟨o,es',ep,ho,r⟩:=hm
    refine⟨o,es',ep,hb2 _ ?_ o ho,r⟩
    intro hcn
    obtain⟨g0,g1,_⟩:=hf _ (sub _ hcn)
    exact g1 rfl
   ·intro c ob q
    by_cases hcT:c=T
    ·subst hcT
     rw[Zc]at q
     cases q
     obtain⟨o,h1,h2',h3⟩:=ht
     exact⟨by show 2<=sizeLine;decide,[u2,v2],.cons ru (.cons rw' .nil),⟨o,kk2 _ _ hap h1,h2',h3⟩⟩
    ·rw[Ze hcT]at q
     refine(I.hok c ob q).stay (λc' v hc' q'=>hb2 c' ?_ v q') (λc' q'=>by rw[Ze (Zf q' hTn)];exact q') λc' xs q'=>by rw[Ze (Zf q' hTn)];exact q'
     rcases hc' with rfl|hc'
     ·exact nb _ _ q
     ·exact nb _ _ hc'
  have hTI:T≠TI:=λzz=>by
   have:=Heap.lt_size q2
   exact absurd this (Nat.not_lt.mpr (zz▸hT))
  refine⟨.ref T,_,I1,rfl,⟨T,xs,a,b,hTn,hx,λzs hz=>by rw[I.tuple_inj hz hy];exact hb,ha,rfl,rfl⟩,st2,λc hcn=>?_⟩
  rw[Ze]
  ·exact(hf c hcn).1
  ·rintro rfl
   have:c∈[z,TO,i1,i2]:=by
    simp at hcn ⊢
    rcases hcn with h|h|h|h|h
    ·exact .inl h
    ·exact absurd h hTI
    ·exact .inr (.inl h)
    ·exact .inr (.inr (.inl h))
    ·exact .inr (.inr (.inr h))
   exact hap this
 done:=by
  intro X hP hw hK hc i pins s σ H E I hf st hg
  subst hP hw hK
  obtain⟨xs,ys,hx,hy,hi⟩:=hg
  obtain⟨_,its,n,rv,hl,e⟩:=I.lstM hx
  obtain⟨its2,rv2,il2,hl2⟩:=I.tuple hy
  have hl2':=rv2.length
  obtain⟨q1,q2,q3,q4,q5⟩:=st
  have il1:s.heap.IsList l1 its.toArray:=⟨_,e,rfl,_,rfl⟩
  have ei:i=min its.toArray.size its2.toArray.size:=by simp only[List.size_toArray];omega
  have sub:∀c,c∈[z,TO,i1,i2]->c∈[z,TI,TO,i1,i2]:=λc hcn=>by
   simp at hcn ⊢
   rcases hcn with h|h|h|h<;>simp[h]
  have st:ZtSt z TI TO i1 i2 l1 l2 i s.heap:=⟨q1,q2,q3,q4,q5⟩
  refine KO (I.ok.hd hc) D st il1 il2 ei λh' tk kk=>⟨rfl,?_⟩
  have nb:∀b u,H b=some u->b∉[z,TO,i1,i2]:=λb u q hb=>by rw[(hf b (sub b hb)).1]at q;cases q
  refine I.step (g':=s.gens) (d':=s.drawn) (ch:=[z,TO,i1,i2]) (λb hb=>?_) (λb o _ _ hb q _=>kk b o hb q) (λb o _ _ hb q _=>⟨o.slots,kk b o hb q⟩)
   (λb o hb q n=>n) (λb o hb q=>⟨o,kk b o hb q⟩) (λb xs q=>q) (λb o u q=>q) (λb ps q=>⟨#[],by rw[q];simp⟩) (λm hm=>?_) (λb u q=>?_) I.bare
  ·obtain⟨g0,g1,g2,g3,g4,g5⟩:=hf b (sub b hb)
   exact⟨g3,g1,g4,g5⟩
  ·obtain⟨o,es',ep,ho,r⟩:=hm
   refine⟨o,es',ep,kk _ o ?_ ho,r⟩
   intro hb
   obtain⟨g0,g1,_⟩:=hf _ (sub _ hb)
   exact g1 rfl
  ·refine(I.hok b u q).stay (λc' v hc' q'=>kk c' v ?_ q') (λ_ q'=>q') λ_ _ q'=>q'
   rcases hc' with rfl|hc'
   ·exact nb _ _ q
   ·exact nb _ _ hc'
 self:=λA i s Q E st h=>wpAny_pyIter_zip st.1 h
end L2
namespace L2
open PySem PySem.Spec PyProof.Rows
noncomputable def zq1(h:Heap)(l1:Addr):Heap:=h.push {cls:=.type "list_iterator",data:=.fields #[.ref l1,.int 0 0]}
noncomputable def zq2(h:Heap)(l1 l2:Addr):Heap:=(zq1 h l1).push {cls:=.type "tuple_iterator",data:=.fields #[.ref l2,.int 0 0]}
noncomputable def zq3(h:Heap)(l1 l2:Addr):Heap:=(zq2 h l1 l2).push {cls:=.type "tuple",data:=.seq #[.ref h.objs.size,.ref (zq1 h l1).objs.size]}
noncomputable def zq4(h:Heap)(l1 l2:Addr):Heap:=(zq3 h l1 l2).push {cls:=.type "tuple",data:=.seq #[.none,.none]}
noncomputable def zq5(h:Heap)(l1 l2:Addr):Heap:=(zq4 h l1 l2).push {cls:=.type "zip",data:=.fields #[.none,.bool false,.bool false,.ref (zq2 h l1 l2).objs.size,.ref (zq3 h l1 l2).objs.size]}
theorem TN(l1 l2:Addr)(xs ys:Array Value):Meets (Builtin.«zip.__new__» ⟨[.type "zip",.ref l1,.ref l2],[]⟩) (λ_ R s=>s.heap.IsList l1 xs/\s.heap.IsTuple l2 ys/\R (.ok (.ret (.ref (zq4 s.heap l1 l2).objs.size))) {s with heap:=zq5 s.heap l1 l2}):=.of_wp λprog w A R s h=>by
  obtain⟨hp,g,d,tk,os⟩:=s;obtain⟨a1,a2,h⟩:=h;have hsub:=sub_zip;have b1:Heap.IsList (Shared.heap ⟨hp,g,d,tk,os⟩) l1 xs:=a1;have b2:Heap.IsTuple (Shared.heap ⟨hp.push {cls:=.type "list_iterator",data:=.fields #[.ref l1,.int 0 0]},g,d,tk,os⟩) l2 ys:=by obtain⟨o,e,r⟩:=a2;exact⟨o,Heap.get?_push_of_some _ e,r⟩
  wp_walk using wpAny_pyIter_list b1,wpAny_pyIter_tuple b2;exact⟨_,rfl,h⟩
theorem TC{prog:Program}{w:World}{A:Around}{E:Value->Shared->Prop}{s:Shared}{l1 l2:Addr}{xs ys:Array Value}{Q:Value->Shared->Prop}(hl1:s.heap.IsList l1 xs)(hl2:s.heap.IsTuple l2 ys)(h:∀h',ZtSt (s.heap.objs.size+4) (s.heap.objs.size+2) (s.heap.objs.size+3) s.heap.objs.size (s.heap.objs.size+1) l1 l2 0 h'->(∀c o,s.heap.get? c=some o->h'.get? c=some o)->Q (.ref (s.heap.objs.size+4)) {s with heap:=h'}):wpAny (model prog w) A (call (.type "zip") [.ref l1,.ref l2]) Q E s:=by
 refine callType_new F.called_zip (by decide) (F.typeCall_zip_2 _ _) (F.newCall_zip_2 _ _) (λobj=>F.args_object_init_3 obj _ _) F.entry_zip_new (TN l1 l2 xs ys) ⟨hl1,hl2,?_⟩;have n1:(zq1 s.heap l1).objs.size=s.heap.objs.size+1:=Heap.size_push ..;have n2:(zq2 s.heap l1 l2).objs.size=s.heap.objs.size+2:=by show(Heap.push _ _).objs.size=_;rw[Heap.size_push,n1]
 have n3:(zq3 s.heap l1 l2).objs.size=s.heap.objs.size+3:=by show(Heap.push _ _).objs.size=_;rw[Heap.size_push,n2]
 have n4:(zq4 s.heap l1 l2).objs.size=s.heap.objs.size+4:=by show(Heap.push _ _).objs.size=_;rw[Heap.size_push,n3]
 have up:∀c o,s.heap.get? c=some o->(zq1 s.heap l1).get? c=some o:=λc o e=>Heap.get?_push_of_some _ e;have up1:∀c o,(zq1 s.heap l1).get? c=some o->(zq2 s.heap l1 l2).get? c=some o:=λc o e=>Heap.get?_push_of_some _ e;have up2:∀c o,(zq2 s.heap l1 l2).get? c=some o->(zq3 s.heap l1 l2).get? c=some o:=λc o e=>Heap.get?_push_of_some _ e;have up3:∀c o,(zq3 s.heap l1 l2).get? c=some o->(zq4 s.heap l1 l2).get? c=some o:=λc o e=>Heap.get?_push_of_some _ e;have up4:∀c o,(zq4 s.heap l1 l2).get? c=some o->(zq5 s.heap l1 l2).get? c=some o:=λc o e=>Heap.get?_push_of_some _ e;have g5:(zq5 s.heap l1 l2).get? (zq4 s.heap l1 l2).objs.size=some _:=Heap.get?_push_size _ rfl;have g4:=up4 _ _ (show(zq4 s.heap l1 l2).get? (zq3 s.heap l1 l2).objs.size=some _ from Heap.get?_push_size _ rfl);have g3:=up4 _ _ (up3 _ _ (show(zq3 s.heap l1 l2).get? (zq2 s.heap l1 l2).objs.size=some _ from Heap.get?_push_size _ rfl));have g2:=up4 _ _ (up3 _ _ (up2 _ _ (show(zq2 s.heap l1 l2).get? (zq1 s.heap l1).objs.size=some _ from Heap.get?_push_size _ rfl)));have g1:=up4 _ _ (up3 _ _ (up2 _ _ (up1 _ _ (show(zq1 s.heap l1).get? s.heap.objs.size=some _ from Heap.get?_push_size _ rfl))));rw[n2,n3,n4]at g5;rw[n1,n2]at g3;rw[n3]at g4;rw[n1]at g2;show _/\_;rw[n4];exact⟨⟨_,g5,rfl⟩,h _ ⟨g5,g3,⟨_,_,g4⟩,⟨_,g1,rfl,rfl⟩,⟨_,g2,rfl,rfl⟩⟩ λc o e=>up4 _ _ (up3 _ _ (up2 _ _ (up1 _ _ (up _ _ e))))⟩
section
variable {X:Cx}
noncomputable def E4(K:PySem.W.Frag)(ta:TA):TI:=λσ H R=>ta σ H λvs H1=>∃(l1 l2:Addr)(xs ys:List V),vs=[.ref l1,.ref l2]/\H1 l1=some (.lst xs)/\SqT K H1 l2 ys/\R (Itzt K l1 l2) H1
theorem Lh{a b:Expr}{ta:TA}{p pos pt:Pos}{es:List Expr}{k:Nat}(hg:Gl X "zip")(hm:X.mg "zip"=none)(ha:PA X [a,b] ta)(hs:starEach [a,b] X.env=[(false,eval a X.env),(false,eval b X.env)]:=by rfl)(hs2:starEach [b] X.env=[(false,eval b X.env)]:=by rfl):PI X (.Tuple es k pt) (.Call (.Name "zip" p) [a,b] [] pos) (E4 X.K ta):=by
 intro pins s σ H R I h;refine Call_ (Jl I hg hm boot_zip (PyProof.Rows.callWith_type1 (thn (ha pos pins s σ H _ I h) λus s1⟨vs,H1,I1,r1,q1⟩=>?_) (by rw[hs,hs2]) (by rw[hs2];rfl)));obtain⟨l1,l2,xs,ys,e,hx,hy,q⟩:=q1;subst e;obtain⟨u,u',rfl,ru,ru'⟩:=vals2 r1;cases ru;cases ru';obtain⟨_,its,n,rv,hl,e⟩:=I1.lstM hx;obtain⟨its2,rv2,il2,hl2⟩:=I1.tuple hy;refine TC (xs:=its.toArray) (ys:=its2.toArray) ⟨_,e,rfl,_,rfl⟩ il2 λh' st kk=>?_;have I2:Inv X pins σ H1 {s1 with heap:=h'}:=I1.kept (t':=s1.toks) kk;refine wpAny_pyIter_zip st.1 ?_;have lt1:=Heap.lt_size e;have lt2:l2<s1.heap.objs.size:=by obtain⟨_,e',_⟩:=il2;exact Heap.lt_size e'
 have D:ZipApart (s1.heap.objs.size+4) (s1.heap.objs.size+2) (s1.heap.objs.size+3) s1.heap.objs.size (s1.heap.objs.size+1) l1 l2:=by
  generalize s1.heap.objs.size=N at lt1 lt2;have g:∀(c:Nat)(k:Nat),c<N->c≠N+k:=λc k hc=>by omega
  have g2:∀i j:Nat,i≠j->N+i≠N+j:=λi j h e=>h (Nat.add_left_cancel e);exact⟨g2 2 4 (by decide),g2 3 4 (by decide),g2 0 4 (by decide),g2 1 4 (by decide),g2 2 3 (by decide),g2 2 0 (by decide),g2 2 1 (by decide),g2 3 0 (by decide),g2 3 1 (by decide),g2 0 1 (by decide),g _ 4 lt1,g _ 3 lt1,g _ 0 lt1,g _ 1 lt1,g _ 4 lt2,g _ 3 lt2,g _ 0 lt2,g _ 1 lt2⟩
 refine⟨s1.heap.objs.size+4,[s1.heap.objs.size+4,s1.heap.objs.size+2,s1.heap.objs.size+3,s1.heap.objs.size,s1.heap.objs.size+1],_,_,H1,rfl,I2,Se _ _ _ _ _ l1 l2 D,st,λb hb=>?_,q⟩;have hb':s1.heap.objs.size<=b:=by simp at hb;rcases hb with h|h|h|h|h<;>rw[h]<;>first|exact Nat.le_refl _|exact Nat.le_add_right _ _
 exact I1.fpOk hb' (I1.hok.fresh hb')
def KD(K:PySem.W.Frag)(w:World)(a:Addr):Prop:=∃es n,K.lookup a=some ⟨.type "dict",none,.dict es n,#[]⟩/\PySem.W.KeysLit w.params es.toList/\(a==sysModules)=false
def Dt(K:PySem.W.Frag)(w:World)(td ty:TE):TE:=λσ H Q=>td σ H λx H1=>∃a,x=.ref a/\KD K w a/\ty σ H1 λy H2=>∃z r v,y=.str z/\PySem.W.nsIn K a z=some r/\RelV v (r.getD .none)/\Q v H2
theorem WS{o e:Expr}{apos cpos:Pos}{td ty:TE}(ho:PE X o td)(he:PE X e ty)(m:M1 X o "get" apos e cpos):PE X (.Call (.Attribute o "get" apos) [e] [] cpos) (Dt X.K X.w td ty):=by
 intro pins s σ H Q I h;refine wpAny_Call_method m.base m.few m.line PySem.F.plainAttrs_dict PySem.F.slot_dict_get PySem.F.type_dict_get (thn (ho pins s σ H _ I h) λu s1⟨x,H1,I1,rx,a,ex,⟨es,n,hl,hk,hs⟩,q1⟩=>?_);subst ex;obtain rfl:u=Value.ref a:=rx;refine⟨(PySem.W.mapOf_K (prog:=X.prog) I1.kIn hl hk).typeIs,λb q=>?_,?_⟩
 ·cases q;exact⟨_,I1.kIn _ _ hl,rfl⟩
 rw[m.trees];refine Calls.callWith_builtin rfl (Calls.evalArgs_plain (Calls.spliced_cons (thn (he pins s1 σ H1 _ I1 q1) λiv s2⟨y,H2,I2,ry,z,r,v,ey,hn,rv,q2⟩=>Calls.spliced_nil ?_)));subst ey;obtain⟨t,rfl⟩:=(show ∃t,iv=Value.str z t from ry);have hm:=PySem.W.mapOf_K (prog:=X.prog) I2.kIn hl hk;refine call_meetsIn PySem.F.slot_dict_get hm.typeIs PySem.F.entry_dict_get (PySem.F.args_dict_get_2 _ _) (meets_dict_get (PySem.strKind X.prog X.w) a (strKind_is X.prog X.w z t) hs) ⟨_,hm,?_⟩;rw[PySem.W.find_K hl hn];exact⟨v,H2,I2.tok _,rv,q2⟩
theorem MD:∀{ys:List Str}{us:List (Str×Tok)},us.map (·.1)=ys->Vals (ys.map V.str) (strValues us)
|[],[],_=>.nil
|y::ys,(z,t)::us,h=>by rw[List.map_cons]at h;injection h with h1 h2;subst h1;exact .cons ⟨t,rfl⟩ (MD h2)
theorem Pw:MtR X "str.split" (λx vs H Q=>∃z y,x=.str z/\vs=[.str y]/\(y.length==0)=false/\z.length<=sizeLine/\(Txt.split z y).length<=sizeLine/\(Builtin.Str.partsBetween z (Builtin.Str.occurrences z y 0 z.length (z.length+1)) y.length).length<=sizeLine/\∀l,H l=none->Q (.ref l) (upd H l (.lst ((Txt.split z y).map V.str)))):=by
 intro pins s σ H x xs v us Q I rx rs h;obtain⟨x,y,rfl,rfl,hy,hsz,hl,hsz2,q⟩:=h;obtain⟨t,rfl⟩:=rx;obtain⟨u,rfl,u',rfl⟩:=vals1 rs;have fin:∀(l:List (Str×Tok))(tk:Nat),l.map (·.1)=Txt.split x y->EP X pins σ Q (.ref s.heap.objs.size) {s with heap:=s.heap.push {cls:=.type "list",data:=.seq (strValues l).toArray},toks:=tk}:=λl tk e=>⟨.ref s.heap.objs.size,_,I.laid (t':=tk) (λ_ _ z=>Heap.get?_push_of_some _ z) (Nat.le_refl _) (show ZJ X.prog X.w _ _ _ (.lst ((Txt.split x y).map V.str))from⟨by rw[List.length_map];exact hl,_,_,MD e,Heap.get?_push_size _ rfl⟩),rfl,q _ (I.hok.fresh (Nat.le_refl _))⟩;cases h1:(decide (x.length<y.length)||decide (Builtin.Str.strKind x<Builtin.Str.strKind y))
 ·cases hf:(Builtin.Str.occurrences x y 0 x.length (x.length+1)).isEmpty
  ·refine call_meets F.slot_str_split (typeIs_str _ _ _) F.entry_str_split (F.args_str_split_2 _ _) (meets_str_split_sep x y t u' h1 hy hf hsz hsz2) ?_;show wants _ _ _ {s with toks:=_,heap:=s.heap.push {cls:=.type "list",data:=.seq (strsFrom s.toks (Builtin.Str.partsBetween x (Builtin.Str.occurrences x y 0 x.length (x.length+1)) y.length)).toArray}};rw[strsFrom_eq];exact fin (numbered s.toks _) _ ((numbered_texts _ _).trans ((if_neg (ne_true_of_eq_false h1)).trans (if_neg (ne_true_of_eq_false hf))).symm)
  ·exact call_meets F.slot_str_split (typeIs_str _ _ _) F.entry_str_split (F.args_str_split_2 _ _) (meets_str_split_not_found x y t u' h1 hy hf) (fin [(x,t)] s.toks ((if_neg (ne_true_of_eq_false h1)).trans (if_pos hf)).symm)
 ·exact call_meets F.slot_str_split (typeIs_str _ _ _) F.entry_str_split (F.args_str_split_2 _ _) (meets_str_split_cannot_occur x y t u' h1) (fin [(x,t)] s.toks (if_pos h1).symm)
end
end L2
namespace TX
open PySem L2 PySem.Spec PyProof.Rows
noncomputable abbrev cd(z:Str):List Nat:=z.cps.toList
theorem NG{x y:Str}(h:cd x=cd y):x=y:=Str.ext' (Array.toList_inj.mp h)
theorem Jq(x y:Str):cd (x++y)=cd x++cd y:=Array.toList_append ..
noncomputable def glue(c:Nat):List (List Nat)->List Nat
|[]=>[]
|[x]=>x
|x::y::r=>x++c::glue c (y::r)
theorem Jp(c:Nat):∀ls:List Str,cd (Str.join ⟨#[c]⟩ ls)=glue c (ls.map cd)
|[]=>rfl
|[x]=>rfl
|x::y::r=>by have ih:=Jp c (y::r);show cd (x++⟨#[c]⟩++Str.join ⟨#[c]⟩ (y::r))=_;rw[Jq,Jq,ih,List.append_assoc];rfl
theorem Ki{c:Nat}:∀{a b A B:List Nat},c∉a->c∉b->a++c::A=b++c::B->a=b/\A=B
|[],[],A,B,_,_,h=>⟨rfl,(List.cons.inj h).2⟩
|[],y::b,A,B,_,hb,h=>absurd (List.cons.inj h).1 λe=>hb (by rw[e];exact List.mem_cons_self)
|x::a,[],A,B,ha,_,h=>absurd (List.cons.inj h).1 λe=>ha (by rw[<-e];exact List.mem_cons_self)
|x::a,y::b,A,B,ha,hb,h=>by have e:=List.cons.inj h;obtain⟨h1,h2⟩:=Ki (λq=>ha (List.mem_cons_of_mem _ q)) (λq=>hb (List.mem_cons_of_mem _ q)) e.2;exact⟨by rw[e.1,h1],h2⟩
theorem PQ{c:Nat}:∀{as bs:List (List Nat)},as≠[]->bs≠[]->(∀a∈as,c∉a)->(∀b∈bs,c∉b)->glue c as=glue c bs->as=bs
|[],_,h,_,_,_,_=>absurd rfl h
|_::_,[],_,h,_,_,_=>absurd rfl h
|[x],[y],_,_,_,_,h=>by rw[show x=y from h]
|[x],y::z::r,_,_,ha,_,h=>absurd (by rw[show x=y++c::glue c (z::r)from h];simp) (ha x List.mem_cons_self)
|x::z::r,[y],_,_,_,hb,h=>absurd (by rw[<-show x++c::glue c (z::r)=y from h];simp) (hb y List.mem_cons_self)
|x::x2::r,y::y2::t,_,_,ha,hb,h=>by obtain⟨e1,e2⟩:=Ki (ha x List.mem_cons_self) (hb y List.mem_cons_self) (show x++c::glue c (x2::r)=y++c::glue c (y2::t)from h);rw[e1,PQ (by simp) (by simp) (λa h=>ha a (List.mem_cons_of_mem _ h)) (λb h=>hb b (List.mem_cons_of_mem _ h)) e2]
theorem Wf(x y:Str):Txt.split x y≠[]:=λh=>by have:=PyProof.Rows.split_pos x y;rw[h]at this;exact absurd this (by decide)
theorem GW{c:Nat}{ls:List Str}(hn:ls≠[])(hf:∀l∈ls,c∉cd l):Txt.split (Txt.join ⟨#[c]⟩ ls) ⟨#[c]⟩=ls:=by
 have e:Str.join ⟨#[c]⟩ (Txt.split (Txt.join ⟨#[c]⟩ ls) ⟨#[c]⟩)=Str.join ⟨#[c]⟩ ls:=by rw[StrLaws.join_split];exact StrLaws.glued_eq_join _ _
 have h:=congrArg cd e;rw[Jp,Jp]at h;have q:=PQ (λz=>Wf _ _ (List.map_eq_nil_iff.mp z)) (λz=>hn (List.map_eq_nil_iff.mp z)) (λa ha=>by
  obtain⟨p,hp,rfl⟩:=List.mem_map.mp ha;exact StrLaws.split_free _ c p hp) (λb hb=>by
  obtain⟨p,hp,rfl⟩:=List.mem_map.mp hb;exact hf p hp) h;exact(List.map_inj_right (λ_ _=>NG)).mp q
theorem Po(x y:Str):(Builtin.Str.partsBetween x (Builtin.Str.occurrences x y 0 x.length (x.length+1)) y.length).length<=x.length+2:=by have e1:=StrLaws.occ_length_le x y 0 x.length (x.length+1);rw[length_partsBetween];omega
noncomputable abbrev SP:Str:=⟨#[32]⟩
noncomputable abbrev NL:Str:=⟨#[10]⟩
theorem EK:(" ":Str)=SP:=by decide +kernel
theorem RN:("\n":Str)=NL:=by decide +kernel
theorem PJ(c:Nat)(ls:List Str):(Txt.join ⟨#[c]⟩ ls).length<=(ls.map (·.length)).sum+ls.length:=by have h:=StrLaws.join_length_le ⟨#[c]⟩ ls;show(Builtin.Str.glued ⟨#[c]⟩ ls).length<=_;rw[StrLaws.glued_eq_join];have e:(⟨#[c]⟩:Str).length=1:=rfl;rw[e,Nat.mul_one]at h;exact h
end TX
namespace WD
open PySem L2 PySem.Spec PyProof.Rows TB
noncomputable def dF:V->PyData
|.int i=>.int i
|.str z=>.str z
|.bl c=>.bool c
|_=>.none
end WD
namespace L2
open PySem PySem.Spec PyProof.Rows
theorem P6{P:Program}{w:World}{H:Hp}{h:Heap}{a:Addr}(ok:HOk P w H h)(e:H a=some (.dK [])):Reads h (.ref a) (.dict []) [a]/\a≠sysModules:=by obtain⟨_,ns,vs,kv,o,es,ep,ho,ex,hd,hk,hp,_⟩:=P0 ok e;refine⟨?_,λq=>by simp[q]at ns⟩;cases kv;generalize hl:es.toList=l at hp;cases hp;have:=Reads.dict (h:=h) (a:=a) (o:=o) (es:=es) (n:=ep) (kvs:=[]) (as:=[]) (bs:=[]) ho ex.1 hd (by rw[hl];exact .nil) (by rw[hl];exact .nil);exact this
inductive IsX(H:Hp):V->PyData->Prop
|of {x:V}{d:PyData} (h:Is H x d):IsX H x d
|dk {a:Addr} (e:H a=some (.dK [])):IsX H (.ref a) (.dict [])
noncomputable def DF:List V->Hp->VK->Prop:=λxs H Q=>∃x d,xs=[x]/\IsX H x d/\d.showable=true/\d.depth<=64/\d.shown.length<=sizeLine/\Q (.str d.shown) H
theorem Mt{X:Cx}{k:Nat}(hr:Room k X.A):YM X (.builtin "repr") DF:=by
 intro pins s σ H xs us Q I r h;obtain⟨x,d,rfl,hd,hs,hdp,hz,q⟩:=h;cases hd with
|of h=>exact Q7 hr pins s σ H _ us Q I r ⟨x,d,rfl,h,hs,hdp,hz,q⟩
|@dk a e=>obtain⟨u,rfl,rx⟩:=vals1 r;cases rx;obtain⟨rd,ns⟩:=P6 I.hok e;exact repr_of_reads' rd hs (λ_ hm=>by simp at hm;exact ns hm.symm) hr.gd (by have:=hr.un;omega) (λ_ _ e=>e) (λh' u tk hk=>⟨.str _,H,I.kept hk,⟨u,rfl⟩,q⟩) hz
end L2
namespace WD
open PySem L2 PySem.Spec PyProof.Rows TB
def GS(z:Str):Prop:=z.length<=12/\∀c∈z.cps.toList,c<0x110000
noncomputable instance (z:Str):Decidable (GS z):=by unfold GS;infer_instance
inductive Atm:V->Prop
|non:Atm .non
|int {i:Int} (h:i.natAbs<=1000):Atm (.int i)
|str {z:Str} (h:GS z):Atm (.str z)
theorem Atm.is{H:Hp}{v:V}(h:Atm v):Is H v (dF v):=by
 cases h with
|non=>exact .non
|int h=>exact .int _
|str h=>exact .str _
theorem MO{H:Hp}:∀{ys:List V},(∀y∈ys,Atm y)->IsAll H ys (ys.map dF)
|[],_=>.nil
|y::ys,h=>.cons (h y List.mem_cons_self).is (MO λz hz=>h z (List.mem_cons_of_mem _ hz))
def RowG(ys:List V):Prop:=ys.length<=6/\∀y∈ys,Atm y
noncomputable def rowD(ys:List V):PyData:=.tuple (ys.map dF)
noncomputable def tabD(n:Int)(t1 t2 t3 t4:List (List V)):PyData:=.tuple [.int n,.tuple (t1.map rowD),.tuple (t2.map rowD),.tuple (t3.map rowD),.tuple (t4.map rowD)]
structure Sm(d:PyData)(k m:Nat):Prop where
 sh:d.showable=true
 lv:d.leavesShort 13=true
 dp:d.depth<=k
 wt:d.weight<=m
theorem lgk{i:Nat}(h:i<=1000):i.log2<=11:=by
 by_cases e:i=0
 ·subst e;decide
 ·exact Nat.lt_succ_iff.mp ((Nat.log2_lt e).mpr (by omega))
theorem shown_int{i:Int}(h:i.natAbs<=1000):((PyData.int i).shown).length<=13:=by
 have key:∀n:Nat,n<=1000->((PyData.int n).shown).length<=13/\((PyData.int (-(n:Int))).shown).length<=13:=by intro n hn;have:=(by decide +kernel:∀k∈List.range 1001,((PyData.int (k:Nat)).shown).length<=13/\((PyData.int (-((k:Nat):Int))).shown).length<=13);exact this n (List.mem_range.mpr (by omega))
 rcases Int.natAbs_eq i with e|e
 ·rw[e];exact(key _ h).1
 ·rw[e];exact(key _ h).2
theorem Atm.sm{v:V}(h:Atm v):Sm (dF v) 0 12:=by
 cases h with
|non=>exact⟨rfl,rfl,Nat.le_refl _,Nat.zero_le _⟩
|int h=>
  have:=lgk h;refine⟨?_,?_,Nat.le_refl _,?_⟩
  ·simp only[dF,PyData.showable,decide_eq_true_eq];omega
  ·simp only[dF,PyData.leavesShort,decide_eq_true_eq];exact shown_int h
  ·simp only[dF,PyData.weight];split<;>omega
|str h=>refine⟨by simp only[dF,PyData.showable],?_,Nat.le_refl _,h.1⟩;simp only[dF,PyData.leavesShort,List.all_eq_true,decide_eq_true_eq];exact λc hc=>Nat.lt_of_lt_of_le (h.2 c hc) (by decide)
structure SmAll(ds:List PyData)(k m:Nat):Prop where
 sh:PyData.showableAll ds=true
 lv:PyData.leavesShortAll 13 ds=true
 dp:PyData.depthAll ds<=k
 wt:PyData.weightAll ds<=ds.length*(m+1)
theorem SmAll.of{k m:Nat}:∀{ds:List PyData},(∀d∈ds,Sm d k m)->SmAll ds k m
|[],_=>⟨rfl,rfl,Nat.zero_le _,Nat.zero_le _⟩
|d::ds,h=>by
  have h1:=h d List.mem_cons_self;have h2:=SmAll.of (ds:=ds) λx hx=>h x (List.mem_cons_of_mem _ hx);refine⟨?_,?_,?_,?_⟩
  ·simp only[PyData.showableAll,h1.sh,h2.sh,Bool.and_self]
  ·simp only[PyData.leavesShortAll,h1.lv,h2.lv,Bool.and_self]
  ·simp only[PyData.depthAll];have:=h1.dp;have:=h2.dp;omega
  ·simp only[PyData.weightAll,List.length_cons,Nat.succ_mul];have:=h1.wt;have:=h2.wt;omega
theorem SmAll.tup{ds:List PyData}{k m n:Nat}(h:SmAll ds k m)(hl:ds.length<=n):Sm (.tuple ds) (k+1) (n*(m+1)):=by
 refine⟨?_,?_,?_,?_⟩
 ·simp only[PyData.showable,h.sh]
 ·simp only[PyData.leavesShort,h.lv]
 ·simp only[PyData.depth];have:=h.dp;omega
 ·simp only[PyData.weight];exact Nat.le_trans h.wt (Nat.mul_le_mul_right _ hl)
theorem Sm.mono{d:PyData}{k m k' m':Nat}(h:Sm d k m)(hk:k<=k')(hm:m<=m'):Sm d k' m':=⟨h.sh,h.lv,Nat.le_trans h.dp hk,Nat.le_trans h.wt hm⟩
theorem DE{ys:List V}(h:RowG ys):Sm (rowD ys) 1 78:=(SmAll.of (ds:=ys.map dF) (k:=0) (m:=12) λd hd=>by obtain⟨y,hy,rfl⟩:=List.mem_map.mp hd;exact(h.2 y hy).sm).tup (n:=6) (by rw[List.length_map];exact h.1)
theorem Gv{t:List (List V)}(hl:t.length<=300)(h:∀ys∈t,RowG ys):Sm (.tuple (t.map rowD)) 2 23700:=(SmAll.of (ds:=t.map rowD) (k:=1) (m:=78) λd hd=>by obtain⟨y,hy,rfl⟩:=List.mem_map.mp hd;exact DE (h y hy)).tup (n:=300) (by rw[List.length_map];exact hl)
theorem Sm.shown{d:PyData}{k:Nat}(h:Sm d k 200000):d.shown.length<=sizeLine:=by
 have h2:=PyData.shown_le 13 (by decide) d h.lv;have:=h.wt;exact Nat.le_trans h2 (by
  have:(15:Nat)*200000+13<=sizeLine:=by decide
  omega)
structure TabG(n:Int)(t1 t2 t3 t4:List (List V)):Prop where
 n0:1<=n/\n<=50
 l1:t1.length<=14
 l2:t2.length<=80
 l3:t3.length<=40
 l4:t4.length<=300
 g1:∀ys∈t1,RowG ys
 g2:∀ys∈t2,RowG ys
 g3:∀ys∈t3,RowG ys
 g4:∀ys∈t4,RowG ys
theorem TabG.sm{n:Int}{t1 t2 t3 t4:List (List V)}(h:TabG n t1 t2 t3 t4):Sm (tabD n t1 t2 t3 t4) 3 200000:=by
 refine(SmAll.tup (ds:=[.int n,.tuple (t1.map rowD),.tuple (t2.map rowD),.tuple (t3.map rowD),.tuple (t4.map rowD)]) (n:=5) (SmAll.of (k:=2) (m:=23700) λd hd=>?_) (Nat.le_refl 5)).mono (by decide) (by decide);simp only[List.mem_cons,List.not_mem_nil,or_false]at hd;rcases hd with rfl|rfl|rfl|rfl|rfl
 ·exact(Atm.int (i:=n) (by have:=h.n0;omega)).sm.mono (by decide) (by decide)
 ·exact Gv (by have:=h.l1;omega) h.g1
 ·exact Gv (by have:=h.l2;omega) h.g2
 ·exact Gv (by have:=h.l3;omega) h.g3
 ·exact Gv h.l4 h.g4
theorem VE{H:Hp}:∀{xs:List V}{t:List (List V)},Ym H xs (t.map some)->(∀ys∈t,RowG ys)->IsAll H xs (t.map rowD)
|[],[],_,_=>.nil
|[],_::_,h,_=>by cases h.1
|_::_,[],h,_=>by cases h.1
|x::xs,ys::t,h,g=>by obtain⟨p,rfl,hp,_⟩:=h.2 0 x (some ys) rfl rfl;exact .cons (.tup hp (MO (g ys List.mem_cons_self).2)) (VE (xs:=xs) (t:=t) ⟨by simpa using h.1,λi x r h1 h2=>h.2 (i+1) x r (by simpa using h1) (by simpa using h2)⟩ λz hz=>g z (List.mem_cons_of_mem _ hz))
theorem Qq{H:Hp}{q l1 l2 l3 l4:Addr}{n:Int}{x1 x2 x3 x4:List V}{t1 t2 t3 t4:List (List V)}(g:TabG n t1 t2 t3 t4)(h1:H l1=some (.tup x1))(h2:H l2=some (.tup x2))(h3:H l3=some (.tup x3))(h4:H l4=some (.tup x4))(r1:Ym H x1 (t1.map some))(r2:Ym H x2 (t2.map some))(r3:Ym H x3 (t3.map some))(r4:Ym H x4 (t4.map some))(hq:H q=some (.tup [.int n,.ref l1,.ref l2,.ref l3,.ref l4])):Is H (.ref q) (tabD n t1 t2 t3 t4):=.tup hq (.cons (.int n) (.cons (.tup h1 (VE r1 g.g1)) (.cons (.tup h2 (VE r2 g.g2)) (.cons (.tup h3 (VE r3 g.g3)) (.cons (.tup h4 (VE r4 g.g4)) .nil)))))
structure Shw(d:PyData):Prop where
 sh:d.showable=true
 dp:d.depth<=64
 len:d.shown.length<=sizeLine
theorem Sm.shw{d:PyData}{k m:Nat}(h:Sm d k m)(hk:k<=64)(hm:m<=200000):Shw d:=⟨h.sh,Nat.le_trans h.dp hk,(h.mono (Nat.le_refl k) hm).shown⟩
end WD
namespace TB
open PySem L2 PySem.Spec PyProof.Rows WD
theorem Xf.same{H H':Hp}(sm:Same H H'){v:V}{r:PR}(h:Xf H v r):Xf H' v r:=by
 cases r with
|none=>obtain⟨T,th,a⟩:=h;exact⟨T,th.same sm,a⟩
|some q=>
  obtain⟨xs,rs⟩:=q;obtain⟨⟨p,rfl,hp⟩,h1,h2⟩:=h;refine⟨⟨p,rfl,?_⟩,h1,λi y r e1 e2=>?_⟩
  ·rcases hp with hp|hp
   ·exact .inl (sm _ _ hp)
   ·exact .inr (sm _ _ hp)
  ·have:=h2 i y r e1 e2;cases r with
  |none=>obtain⟨T,th,a⟩:=this;exact⟨T,th.same sm,a⟩
  |some ys=>obtain⟨p,rfl,a,b⟩:=this;exact⟨p,rfl,sm _ _ a,λy hy=>let ⟨T,th⟩:=b y hy;⟨T,th.same sm⟩⟩
def R6(C Cb:Addr)(vT:V)(r1 r2 r3 r4:PR)(H:Hp)(Q:VK)(E:XK):Prop:=match Ge vT r1 r2 r3 r4 with
|.inl (z,a,y)=>∀H1,Same H H1->Bad Cb z a y H1 E
|.inr k=>∀H' x fs n,Same H H'->H x=none->vT=.int n->TabOf H' C x fs n r1 r2 r3 r4 k->Q (.ref x) H'
theorem Pz{C Cb:Addr}{H:Hp}{Q:VK}{E:XK}{vT v1 v2 v3 v4:V}{T:String}{r1 r2 r3 r4:PR}(thT:Th H vT T)(p1:Xf H v1 r1)(p2:Xf H v2 r2)(p3:Xf H v3 r3)(p4:Xf H v4 r4)(k:R6 C Cb vT r1 r2 r3 r4 H Q E):∀x dx,H x=none->H dx=none->dx≠x->Na C Cb [.ref x,vT,v1,v2,v3,v4] (upd (upd H dx (.own x)) x (.ins C dx [])) (λv H'=>v=.non/\Q (.ref x) H') E:=λx dx hx hdx hne=>by
 have sm:Same H (upd (upd H dx (.own x)) x (.ins C dx [])):=λc u e=>by rw[Ze (λz=>by rw[z,hx]at e;cases e),Ze (λz=>by rw[z,hdx]at e;cases e)];exact e
 refine⟨x,dx,vT,T,v1,v2,v3,v4,r1,r2,r3,r4,rfl,Zc,thT.same sm,p1.same sm,p2.same sm,p3.same sm,p4.same sm,?_⟩;unfold R6 at k;generalize Ge vT r1 r2 r3 r4=res at k ⊢;cases res with
|inl q=>exact λH1 s1=>k H1 (Gh hx hdx s1)
|inr q=>exact λH' fs n s1 e t=>⟨rfl,k H' x fs n (Gh hx hdx s1) hx e t⟩
structure TabP(H:Hp)(C t:Addr)(fs:List (Str×V))(n:Int)(r1 r2 r3 r4:PR)(k:Ks):Prop where
 tab:TabOf H C t fs n r1 r2 r3 r4 k
 rows:∀r,r=r1\/r=r2\/r=r3\/r=r4->∀xs rs,r=some (xs,rs)->Ym H xs rs
theorem Row.same{H H':Hp}(s:Same H H'){v:V}{r:Option (List V)}(h:Row H v r):Row H' v r:=by
 cases r with
|none=>obtain⟨T,t,n⟩:=h;exact⟨T,t.same s,n⟩
|some ys=>obtain⟨p,e,a,t⟩:=h;exact⟨p,e,s _ _ a,λy hy=>let ⟨T,u⟩:=t y hy;⟨T,u.same s⟩⟩
theorem Ym.same{H H':Hp}(s:Same H H'){xs:List V}{rs:List (Option (List V))}(h:Ym H xs rs):Ym H' xs rs:=⟨h.1,λi x r e1 e2=>(h.2 i x r e1 e2).same s⟩
theorem ZZ.same{H H':Hp}(s:Same H H'){fs:List (Str×V)}{f g:Str}{r:PR}{k:List (Key×V)}(h:ZZ H fs f g r k):ZZ H' fs f g r k:=by obtain⟨l,d,xs,rs,a1,a2,a3,a4,a5⟩:=h;exact⟨l,d,xs,rs,a1,a2,a3,s _ _ a4,s _ _ a5⟩
theorem TabP.same{H H':Hp}{C t:Addr}{fs:List (Str×V)}{n:Int}{r1 r2 r3 r4:PR}{k:Ks}(s:Same H H')(h:TabP H C t fs n r1 r2 r3 r4 k):TabP H' C t fs n r1 r2 r3 r4 k:=⟨⟨⟨let ⟨dx,e⟩:=h.tab.tab.at_;⟨dx,s _ _ e⟩,h.tab.tab.only⟩,h.tab.turns,h.tab.p.same s,h.tab.r.same s,h.tab.w.same s,h.tab.g.same s⟩,λr hr xs rs e=>(h.rows r hr xs rs e).same s⟩
end TB
namespace L2
open PySem PySem.Spec PyProof.Rows
theorem DN{P:Program}{w:World}{X:Cx}:Passes (CX1 P w) X E0:=λ_ _ _ _ _ _ _ h=>by obtain⟨x,c,dd,B,H',_,_,_,_,_,_,_,hE⟩:=h;exact hE.elim
end L2
namespace WD
open PySem L2 PySem.Spec PyProof.Rows TB
def isJ(j:Nat):Prop:=j=1\/j=2\/j=3\/j=4
theorem NF{H:Hp}{y:V}(h:Flat y):∃T,Th H y T:=by
 rcases h with rfl|⟨i,rfl⟩|⟨z,rfl,hz⟩
 ·exact⟨_,.non⟩
 ·exact⟨_,.int i⟩
 ·exact⟨_,.str z hz⟩
structure TbAt(b:Addr)(H:Hp)(p:Addr)(T:Tb)(l1 l2 l3 l4:Addr):Prop where
 ne:p≠b
 at_:H p=some (.lst [.int T.n,.ref l1,.ref l2,.ref l3,.ref l4])
 pl:ZH b H l1 T.t1
 rd:ZH b H l2 T.t2
 wy:ZH b H l3 T.t3
 gr:ZH b H l4 T.t4
theorem TbAt.same{b:Addr}{H H':Hp}{p:Addr}{T:Tb}{l1 l2 l3 l4:Addr}(s:Zj b H H')(h:TbAt b H p T l1 l2 l3 l4):TbAt b H' p T l1 l2 l3 l4:=⟨h.ne,s _ _ h.at_ h.ne,h.pl.same s,h.rd.same s,h.wy.same s,h.gr.same s⟩
theorem ZH.part{b:Addr}{H:Hp}{l:Addr}{rows:List (List V)}(h:ZH b H l rows)(hf:∀ys∈rows,∀y∈ys,Flat y):∃xs:List V,xs.length=rows.length/\H l=some (.lst xs)/\(∀x∈xs,∃a,x=.ref a/\a≠b)/\Ym H xs (rows.map some):=by
 obtain⟨n,as,e,hl,r⟩:=h;refine⟨as.map V.ref,by rw[List.length_map,hl],e,λx hx=>?_,by simp[hl],λi x r' e1 e2=>?_⟩
 ·obtain⟨a,ha,rfl⟩:=List.mem_map.mp hx;obtain⟨i,hi⟩:=List.mem_iff_getElem?.mp ha;have h1:i<rows.length:=by rw[<-hl];exact(List.getElem?_eq_some_iff.mp hi).1
  exact⟨a,rfl,(r i a _ hi (List.getElem?_eq_getElem h1)).1⟩
 ·rw[List.getElem?_map]at e1 e2;obtain⟨a,ha,rfl⟩:=Option.map_eq_some_iff.mp e1;obtain⟨q,hq,rfl⟩:=Option.map_eq_some_iff.mp e2;exact⟨a,rfl,(r i a q ha hq).2,λy hy=>NF (hf q (List.mem_of_getElem? hq) y hy)⟩
theorem OkTb.flat{T:Tb}(o:OkTb T){j:Nat}(hj:isJ j):∀ys∈T.part j,∀y∈ys,Flat y:=λys h=>((o.part j hj).2.row ys h).flat
def Tel(H:Hp)(C t:Addr)(T:Tb):Prop:=∃fs x1 x2 x3 x4 k,TabP H C t fs T.n (prs x1 T.t1) (prs x2 T.t2) (prs x3 T.t3) (prs x4 T.t4) k/\TbDict T x2 x3 x4 k
theorem Tel.same{H H':Hp}{C t:Addr}{T:Tb}(s:Same H H')(h:Tel H C t T):Tel H' C t T:=by obtain⟨fs,x1,x2,x3,x4,k,tp,d⟩:=h;exact⟨fs,x1,x2,x3,x4,k,tp.same s,d⟩
theorem PF{C Cb:Addr}{H:Hp}{Q:VK}{E:XK}{T:Tb}(o:OkTb T){x1 x2 x3 x4:List V}(r1:Ym H x1 (T.t1.map some))(r2:Ym H x2 (T.t2.map some))(r3:Ym H x3 (T.t3.map some))(r4:Ym H x4 (T.t4.map some))(k:∀H' x,Same H H'->H x=none->Tel H' C x T->Q (.ref x) H'):R6 C Cb (.int T.n) (prs x1 T.t1) (prs x2 T.t2) (prs x3 T.t3) (prs x4 T.t4) H Q E:=by
 obtain⟨kk,e,d⟩:=TZ o (by rw[r1.1,List.length_map]) (by rw[r2.1,List.length_map]) (by rw[r3.1,List.length_map]) (by rw[r4.1,List.length_map]);unfold R6;rw[e];refine λH' x fs n s hx en tb=>k H' x s hx ⟨fs,x1,x2,x3,x4,kk,⟨?_,λr hr xs rs er=>?_⟩,d⟩
 ·injection en with en;rw[en];exact tb
 ·rcases hr with rfl|rfl|rfl|rfl
  ·cases er;exact r1.same s
  ·cases er;exact r2.same s
  ·cases er;exact r3.same s
  ·cases er;exact r4.same s
theorem WG{k1:Kv}{n:Int}{s l g a m:V}(h:Gi k1 n s l g a m=.non):YC k1 s g=.non/\∃i,l=.int i/\K1.Zt (.int i) 0 (n-1)=true/\K1.Zt a (i+1) n=true/\K1.Zt m 0 1000=true:=by
 unfold Gi at h;by_cases e:YC k1 s g=.non
 ·rw[if_neg (λz=>z e)]at h;refine⟨e,?_⟩;cases l with
 |int i=>dsimp only at h;refine⟨i,rfl,?_⟩;cases h1:K1.Zt (.int i) 0 (n-1)<;>cases h2:K1.Zt a (i+1) n<;>cases h3:K1.Zt m 0 1000<;>simp_all
 |_=>cases h
 ·rw[if_pos e]at h;exact absurd h e
theorem MZ{k1:Kv}{s g l m:V}(h:wayV k1 s g l m=.non):YC k1 s g=.non/\K1.Zt l 1 50=true/\K1.Zt m 0 1000=true:=by
 unfold wayV at h;by_cases e:YC k1 s g=.non
 ·rw[if_neg (λz=>z e)]at h;refine⟨e,?_⟩;cases h1:K1.Zt l 1 50<;>cases h2:K1.Zt m 0 1000<;>simp_all
 ·rw[if_pos e]at h;exact absurd h e
theorem SO{k1:Kv}{n pp:Int}{p t m:V}(h:YJ k1 n pp p t m=.non):ZT p k1=true/\K1.Zt t 0 n=true:=by unfold YJ at h;cases h1:ZT p k1<;>cases h2:K1.Zt t 0 n<;>simp_all
theorem VU{k1:Kv}{s g:V}(h:YC k1 s g=.non):ZT s k1=true/\ZT g k1=true/\Mh s k1=false:=by unfold YC at h;cases h1:ZT s k1<;>cases h2:ZT g k1<;>cases h3:Mh s k1<;>simp_all
theorem NA{g:Bool}{z:Str}(h:ZL g (.str z)=true):z.length<=1000:=by
 have h12:K1.lenB 12 (codes z)=true\/K1.lenB 8 (codes z)=true:=by
  cases g
  ·right;have h':K1.Y1 8 (K1.codes K1.tNAME) (codes z)=true:=h;unfold K1.Y1 K1.Z6 at h';exact(Bool.and_eq_true_iff.mp (Bool.and_eq_true_iff.mp h').1).1
  ·left;have h':K1.Y1 12 (K1.codes K1.tGROUP) (codes z)=true:=h;unfold K1.Y1 K1.Z6 at h';exact(Bool.and_eq_true_iff.mp (Bool.and_eq_true_iff.mp h').1).1
 unfold K1.lenB at h12;rw[ZG]at h12;simp only[Bool.and_eq_true,decide_eq_true_eq]at h12;omega
theorem PY{ps:Pl}{s g:Str}(h:Ends ps s g){k1:Kv}(hk:Mw k1 (ps.map ZM)):YC k1 (.str s) (.str g)=.non:=by obtain⟨⟨i,hi⟩,⟨r,hr⟩,ne⟩:=h;have e1:valV k1 (.inr s)=some (.int i):=hk _ (List.mem_map.mpr ⟨_,hi,rfl⟩);have e2:valV k1 (.inr g)=some (YN r):=hk _ (List.mem_map.mpr ⟨_,hr,rfl⟩);unfold YC ZT Mh;simp only[e1,e2,Option.isSome_some,Bool.not_true,Bool.or_false,Bool.false_eq_true,if_false];rw[if_neg (by simp),if_neg (by intro z;injection z with z;exact ne z.symm)]
theorem Y2(i:Int):Flat (.int i):=.inr (.inl ⟨i,rfl⟩)
theorem YK{z:Str}(h:z.length<=1000):Flat (.str z):=.inr (.inr ⟨z,rfl,h⟩)
section
variable {n:Int}{ps:Pl}
theorem EX{p:Str×Option Int}{t1:List (List V)}(hn:ZL false (.str p.1)=true)(hr:∀i,p.2=some i->0<=i/\i<=1000):RowOk 1 n t1 (ZM p):=by
 refine⟨rfl,hn,λk1 _ pp _=>?_,λz=>(by cases z),λy hy=>?_⟩
 ·show Z5 (YN p.2)=.non;unfold Z5;rw[if_pos];cases e:p.2 with
 |none=>rfl
 |some i=>have:=hr i e;simp[YN,K1.Zt,this.1,this.2]
 ·simp only[ZM,List.mem_cons,List.not_mem_nil,or_false]at hy;rcases hy with rfl|rfl
  ·exact YK (NA hn)
  ·cases p.2 with
  |none=>exact .inl rfl
  |some i=>exact Y2 i
theorem EU(gp:∀p∈ps,p.1.length<=1000){r:Rd}(g:GoodRd n ps r)(hn:ZL false (.str r.nm)=true):RowOk 2 n (ps.map ZM) (JB r):=by
 refine⟨rfl,hn,λk1 hk pp _=>?_,λz=>(by cases z),λy hy=>?_⟩
 ·show Gi k1 n (.str r.st) (.int r.lv) (.str r.gl) (.int r.cm) (.int r.se)=.non;unfold Gi;rw[PY g.ends (hk (by decide)),if_neg (λz=>z rfl)];dsimp only;rw[YQ g.lv0 g.lv1,YQ g.cm0 g.cm1,YQ g.se0 g.se1];rfl
 ·obtain⟨⟨i,hi⟩,⟨x,hx⟩,_⟩:=g.ends;simp only[JB,List.mem_cons,List.not_mem_nil,or_false]at hy;rcases hy with rfl|rfl|rfl|rfl|rfl|rfl
  ·exact YK (NA hn)
  ·exact YK (gp _ hi)
  ·exact Y2 _
  ·exact YK (gp _ hx)
  ·exact Y2 _
  ·exact Y2 _
theorem Ey(gp:∀p∈ps,p.1.length<=1000){r:Wy}(g:GoodWy ps r)(hn:ZL false (.str r.nm)=true):RowOk 3 n (ps.map ZM) (Vy r):=by
 refine⟨rfl,hn,λk1 hk pp _=>?_,λz=>(by cases z),λy hy=>?_⟩
 ·show wayV k1 (.str r.st) (.str r.gl) (.int r.lo) (.int r.wi)=.non;unfold wayV;rw[PY g.ends (hk (by decide)),if_neg (λz=>z rfl),YQ g.lo0 g.lo1,YQ g.wi0 g.wi1];rfl
 ·obtain⟨⟨i,hi⟩,⟨x,hx⟩,_⟩:=g.ends;simp only[Vy,List.mem_cons,List.not_mem_nil,or_false]at hy;rcases hy with rfl|rfl|rfl|rfl|rfl
  ·exact YK (NA hn)
  ·exact YK (gp _ hi)
  ·exact YK (gp _ hx)
  ·exact Y2 _
  ·exact Y2 _
theorem E9{t1:List (List V)}{r:Gr}{v:V}(hp:∃p∈t1,nameOf p=r.pl)(pl:r.pl.length<=1000)(t0:0<=r.tu)(t1':r.tu<=n)(m0:0<=r.ma)(m1:r.ma<=300)(hn:ZL true (.str r.nm)=true):RowOk 4 n t1 (grRow r):=by
 refine⟨rfl,hn,λk1 hk pp hpp=>?_,λ_=>m0,λy hy=>?_⟩
 ·show YJ k1 n pp (.str r.pl) (.int r.tu) (.int r.ma)=.non;obtain⟨p,hp,e⟩:=hp;have e1:=hk (by decide) p hp;rw[e]at e1;unfold YJ;rw[show ZT (.str r.pl) k1=true from by show(valV k1 (.inr r.pl)).isSome=true;rw[e1];rfl,YQ t0 t1'];dsimp only;rw[YQ m0 m1];have:=hpp rfl;have em:Z9 (grRow r)=r.ma:=rfl;rw[em]at this;simp only[Bool.not_true,Bool.false_eq_true,if_false];rw[if_neg (by omega)]
 ·simp only[grRow,List.mem_cons,List.not_mem_nil,or_false]at hy;rcases hy with rfl|rfl|rfl|rfl
  ·exact YK (NA hn)
  ·exact YK pl
  ·exact Y2 _
  ·exact Y2 _
end
theorem SM{n:Int}{ps:Pl}{gs:List Gr}{bs:List Str}(sh:∀p∈ps,p.1.length<=1000)(nd:bs.Nodup)(nm:∀t∈bs,Nm t)(lb:bs.length<=12)(len:gs.length=bs.length)(g:∀(i:Nat)b r,bs[i]?=some b->gs[i]?=some r->GoodGr n ps b r):Rg 4 n (ps.map ZM) (gs.map grRow)/\((gs.map grRow).map Z9).sum<=60/\∀z∈(gs.map grRow).map nameOf,∃b∈bs,∃s∈sufs,z=b++s:=by
 have grAt:∀r∈gs,∃b,b∈bs/\GoodGr n ps b r:=λr hr=>by
  obtain⟨i,hi⟩:=List.mem_iff_getElem?.mp hr;have:i<bs.length:=by rw[<-len];exact(List.getElem?_eq_some_iff.mp hi).1
  exact⟨bs[i],List.getElem_mem this,g i _ r (List.getElem?_eq_getElem this) hi⟩
 have e4:(gs.map grRow).map nameOf=gs.map (·.nm):=by rw[List.map_map];rfl
 have sle:∀rs:List Gr,(∀r∈rs,r.ma<=5)->((rs.map grRow).map Z9).sum<=5*rs.length:=λrs h=>by
  induction rs with
 |nil=>simp
 |cons r rs ih=>have h1:=h r List.mem_cons_self;have h2:=ih λq hq=>h q (List.mem_cons_of_mem _ hq);have em:Z9 (grRow r)=r.ma:=rfl;rw[List.map_cons,List.map_cons,List.sum_cons,em,List.length_cons];omega
 have sm:((gs.map grRow).map Z9).sum<=60:=by
  have:=sle gs λr hr=>let ⟨b,_,q⟩:=grAt r hr;q.ma1
  omega
 refine⟨⟨by rw[List.length_map];show gs.length<=300;omega,?_,λys hy=>?_,λ_=>by omega⟩,sm,λz hz=>?_⟩
 ·rw[e4];have:∀(i:Nat)r b,gs[i]?=some r->bs[i]?=some b->(codes r.nm).takeWhile (λc=>decide (c∈LET))=codes b:=λi r b h1 h2=>by obtain⟨s,hs,e⟩:=(g i b r h2 h1).nm;rw[e];exact Sh (nm b (List.mem_of_getElem? h2)) hs
  rw[List.nodup_iff_pairwise_ne,List.pairwise_iff_getElem];intro i j hi hj hij e;simp only[List.length_map]at hi hj;simp only[List.getElem_map]at e;have b1:=this i _ _ (List.getElem?_eq_getElem hi) (List.getElem?_eq_getElem (by rw[<-len];exact hi));have b2:=this j _ _ (List.getElem?_eq_getElem hj) (List.getElem?_eq_getElem (by rw[<-len];exact hj));rw[e]at b1;have:=Tc (b1.symm.trans b2);exact absurd ((List.getElem_inj nd).mp this) (Nat.ne_of_lt hij)
 ·obtain⟨r,hr,rfl⟩:=List.mem_map.mp hy;obtain⟨b,hb,q⟩:=grAt r hr;obtain⟨s,hs,e⟩:=q.nm;obtain⟨x,hx⟩:=q.pl;exact E9 (v:=.non) ⟨_,List.mem_map.mpr ⟨_,hx,rfl⟩,rfl⟩ (sh _ hx) q.tu0 q.tu1 q.ma0 (by have:=q.ma1;omega) (by rw[e];exact Em (nm b hb) hs)
 ·rw[e4]at hz;obtain⟨r,hr,rfl⟩:=List.mem_map.mp hz;obtain⟨b,hb,q⟩:=grAt r hr;obtain⟨s,hs,e⟩:=q.nm;exact⟨b,hb,s,hs,e⟩
structure LInv(T:Tb)(ps:Pl)(s:Str):Prop where
 ok:OkTb T
 t1:T.t1=ps.map ZM
 pl:GoodPl ps
 len:T.t2.length<=79
 nm:Nm s
 s:s∉T.t2.map nameOf
noncomputable def tbOf(W:Wd):Tb:=⟨W.n,W.ps.map ZM,W.rs.map JB,W.ws.map Vy,W.gs.map grRow⟩
theorem WorldAt.tb{b:Addr}{H:Hp}{p:Addr}{W:Wd}{l1 l2 l3 l4:Addr}(h:WorldAt b H p W l1 l2 l3 l4):TbAt b H p (tbOf W) l1 l2 l3 l4:=⟨h.ne,h.at_,h.pl,h.rd,h.wy,h.gr⟩
theorem Nm.short{t:Str}(h:Nm t):t.length<=1000:=by have:=h.2.1;rw[ZG]at this;omega
theorem drawn{W:Wd}{bs:List Str}{s0 s1 s2 s3:Str}(g:GoodW W bs)(st:Strange W bs s0 s1 s2 s3):LInv (tbOf W) W.ps s1:=by
 have sh:∀p∈W.ps,p.1.length<=1000:=λp hp=>(g.pl.nm p hp).short;have c1:=g.pl.hi;have c2:=st.r.len;have c3:=st.w.len;rw[List.length_map]at c2 c3;have e2:(W.rs.map JB).map nameOf=W.rs.map (·.nm):=by rw[List.map_map];rfl
 have e3:(W.ws.map Vy).map nameOf=W.ws.map (·.nm):=by rw[List.map_map];rfl
 have e1:(W.ps.map ZM).map nameOf=W.ps.map (·.1):=by rw[List.map_map];rfl
 refine⟨⟨g.n0,g.n1,λj hj=>?_⟩,rfl,g.pl,by show(W.rs.map JB).length<=79;rw[List.length_map];omega,st.r.snm,by show _∉(W.rs.map JB).map nameOf;rw[e2];exact st.r.s⟩;rcases hj with rfl|rfl|rfl|rfl
 ·refine⟨by show(W.ps.map ZM).length<=14;rw[List.length_map];omega,by show((W.ps.map ZM).map nameOf).Nodup;rw[e1];exact g.pl.nd,λys hy=>?_,λz=>by cases z⟩;obtain⟨p,hp,rfl⟩:=List.mem_map.mp hy;exact EX (W2 (g.pl.nm p hp)) (g.pl.room p hp)
 ·refine⟨by show(W.rs.map JB).length<=80;rw[List.length_map];omega,by show((W.rs.map JB).map nameOf).Nodup;rw[e2];exact st.r.nd,λys hy=>?_,λz=>by cases z⟩;obtain⟨r,hr,rfl⟩:=List.mem_map.mp hy;exact EU sh (g.rd r hr) (W2 (st.r.nm _ (List.mem_map.mpr ⟨r,hr,rfl⟩)))
 ·refine⟨by show(W.ws.map Vy).length<=40;rw[List.length_map];omega,by show((W.ws.map Vy).map nameOf).Nodup;rw[e3];exact st.w.nd,λys hy=>?_,λz=>by cases z⟩;obtain⟨r,hr,rfl⟩:=List.mem_map.mp hy;exact Ey sh (g.wy r hr) (W2 (st.w.nm _ (List.mem_map.mpr ⟨r,hr,rfl⟩)))
 ·exact(SM sh st.g.nd st.g.nm st.g.len g.len g.gr).1
theorem VM{T:Tb}(o:OkTb T):∃k1,PlDict k1 T.t1:=by obtain⟨k1,_,d,_⟩:=X9 (j:=1) (k1:=[]) (n:=T.n) (t1:=T.t1) (.inl rfl) (λh=>absurd rfl h) (o.part 1 (.inl rfl)) (xs:=T.t1.map λ_=>V.non) (by rw[List.length_map];rfl);exact⟨k1,d rfl⟩
theorem GY:(∀c∈K1.codes K1.tNAME,c<0x110000)/\∀c∈K1.codes K1.tGROUP,c<0x110000:=by decide +kernel
theorem Lr{g:Bool}{z:Str}(h:ZL g (.str z)=true):GS z:=by
 cases g
 ·have h':K1.Y1 8 (K1.codes K1.tNAME) (codes z)=true:=h;unfold K1.Y1 K1.Z6 K1.lenB at h';simp only[Bool.and_eq_true,decide_eq_true_eq,List.all_eq_true]at h';exact⟨by rw[<-ZG];omega,λc hc=>GY.1 c (h'.1.2 c hc)⟩
 ·have h':K1.Y1 12 (K1.codes K1.tGROUP) (codes z)=true:=h;unfold K1.Y1 K1.Z6 K1.lenB at h';simp only[Bool.and_eq_true,decide_eq_true_eq,List.all_eq_true]at h';exact⟨by rw[<-ZG];omega,λc hc=>GY.2 c (h'.1.2 c hc)⟩
theorem within_int{v:V}{lo hi:Int}(h:K1.Zt v lo hi=true):∃i,v=.int i/\lo<=i/\i<=hi:=by
 cases v with
|int i=>have h':(decide (lo<=i)&&decide (i<=hi))=true:=h;simp only[Bool.and_eq_true,decide_eq_true_eq]at h';exact⟨i,rfl,h'.1,h'.2⟩
|_=>cases h
theorem J2{v:V}{lo hi:Int}(h:K1.Zt v lo hi=true)(h0:0<=lo)(h1:hi<=1000):Atm v:=by obtain⟨i,rfl,a,b⟩:=within_int h;exact .int (by omega)
theorem JF{k1:Kv}{n pp:Int}{p t m:V}(h:YJ k1 n pp p t m=.non):ZT p k1=true/\K1.Zt t 0 n=true/\∃i,m=.int i/\0<=i/\i<=300:=by
 obtain⟨h1,h2⟩:=SO h;refine⟨h1,h2,?_⟩;unfold YJ at h;rw[h1,h2]at h;cases m with
|int i=>
  cases hw:K1.Zt (.int i) 0 300 with
 |true=>exact within_int hw
 |false=>dsimp only at h;rw[hw]at h;cases h
|_=>cases h
theorem Me{k1:Kv}{t1:List (List V)}(hk:PlDict k1 t1){x:V}(h:ZT x k1=true):∃p∈t1,x=.str (nameOf p):=by
 obtain⟨z,v,rfl,hv⟩:=JQ h;by_cases hz:z∈t1.map nameOf
 ·obtain⟨p,hp,e⟩:=List.mem_map.mp hz;exact⟨p,hp,by rw[e]⟩
 ·rw[hk.no z hz]at hv;cases hv
section
variable {T:Tb}(o:OkTb T)
include o
theorem XU{j:Nat}(hj:isJ j){ys:List V}(h:ys∈T.part j):RowOk j T.n T.t1 ys:=(o.part j hj).2.row ys h
theorem Mb{j:Nat}(hj:isJ j){ys:List V}(h:ys∈T.part j):at_ ys 0=.str (nameOf ys)/\GS (nameOf ys):=by have r:=XU o hj h;refine⟨r.name,?_⟩;have:=r.nm;rw[show at_ ys 0=.str (nameOf ys)from r.name]at this;exact Lr this
theorem UQ{k1:Kv}(hk:PlDict k1 T.t1){x:V}(h:ZT x k1=true):Atm x:=by obtain⟨p,hp,rfl⟩:=Me hk h;exact .str (Mb o (j:=1) (.inl rfl) hp).2
theorem Gy{ys:List V}(h:ys∈T.t1):∃p:Str×Option Int,ys=ZM p/\GS p.1/\∀i,p.2=some i->0<=i/\i<=1000:=by
 have r:=XU o (j:=1) (.inl rfl) h;obtain⟨e0,g⟩:=Mb o (j:=1) (.inl rfl) h;have hw:Z5 (at_ ys 1)=.non:=r.why [] (λz=>absurd rfl z) 0 (λz=>by cases z);obtain⟨a,c,rfl⟩:=len2 r.len;have ea:a=.str (nameOf [a,c]):=e0;have hw:Z5 c=.non:=hw;unfold Z5 at hw;by_cases e:c=.non
 ·exact⟨(nameOf [a,c],none),by rw[e];rw[e]at ea;rw[<-ea.symm];rfl,g,λi q=>by cases q⟩
 ·have hb:K1.Zt c 0 1000=true:=by
   cases hb:K1.Zt c 0 1000 with
  |true=>rfl
  |false=>rw[hb,decide_eq_false e,Bool.or_false,if_neg (by decide)]at hw;cases hw
  obtain⟨i,rfl,h0,h1⟩:=within_int hb;exact⟨(nameOf [a,.int i],some i),by rw[<-ea.symm];rfl,g,λj q=>by cases q;exact⟨h0,h1⟩⟩
theorem UI{ys:List V}(h:ys∈T.t2){k1:Kv}(hk:Mw k1 T.t1):∃z s lv g cm se,ys=[.str z,s,.int lv,g,.int cm,.int se]/\nameOf ys=z/\YC k1 s g=.non/\0<=lv/\lv<=T.n-1/\lv+1<=cm/\cm<=T.n/\0<=se/\se<=1000:=by have r:=XU o (j:=2) (.inr (.inl rfl)) h;have hw:JA k1 T.n ys=.non:=r.why k1 (λ_=>hk) 0 (λz=>by cases z);obtain⟨a,b,c,d,e,f,rfl⟩:=len6 r.len;have ea:a=.str (nameOf [a,b,c,d,e,f]):=r.name;have hw:Gi k1 T.n b c d e f=.non:=hw;obtain⟨he,i,rfl,h1,h2,h3⟩:=WG hw;obtain⟨i',q,a1,a2⟩:=within_int h1;cases q;obtain⟨cm,rfl,b1,b2⟩:=within_int h2;obtain⟨se,rfl,c1,c2⟩:=within_int h3;exact⟨_,b,i,d,cm,se,congrArg (λq=>q::[b,.int i,d,.int cm,.int se]) ea,rfl,he,a1,a2,b1,b2,c1,c2⟩
theorem PZ{k1:Kv}(hk:PlDict k1 T.t1){s g:V}(h:YC k1 s g=.non):Atm s/\Atm g:=⟨UQ o hk (VU h).1,UQ o hk (VU h).2.1⟩
theorem Jz{j:Nat}(hj:isJ j){ys:List V}(h:ys∈T.part j):RowG ys:=by
 obtain⟨k1,hk⟩:=VM o;have n1:=o.n1;have r:=XU o hj h;obtain⟨e0,g⟩:=Mb o hj h;have at0:Atm (at_ ys 0):=by rw[e0];exact .str g
 have hw:=r.why k1 (λ_=>hk.has);rcases hj with rfl|rfl|rfl|rfl
 ·obtain⟨p,rfl,g,rm⟩:=Gy o h;refine⟨by show 2<=6;decide,λy hy=>?_⟩;simp only[ZM,List.mem_cons,List.not_mem_nil,or_false]at hy;rcases hy with rfl|rfl
  ·exact .str g
  ·cases e:p.2 with
  |none=>exact .non
  |some i=>have:=rm i e;exact .int (by omega)
 ·obtain⟨z,s,lv,g',cm,se,rfl,_,he,a1,a2,b1,b2,c1,c2⟩:=UI o h hk.has;obtain⟨q1,q2⟩:=PZ o hk he;refine⟨by show 6<=6;decide,λy hy=>?_⟩;simp only[List.mem_cons,List.not_mem_nil,or_false]at hy;rcases hy with rfl|rfl|rfl|rfl|rfl|rfl
  ·exact at0
  ·exact q1
  ·exact .int (by omega)
  ·exact q2
  ·exact .int (by omega)
  ·exact .int (by omega)
 ·obtain⟨a,b,c,d,e,rfl⟩:=len5 r.len;have hw':wayV k1 b c d e=.non:=hw 0 (λz=>by cases z);obtain⟨he,h1,h2⟩:=MZ hw';obtain⟨q1,q2⟩:=PZ o hk he;refine⟨by show 5<=6;decide,λy hy=>?_⟩;simp only[List.mem_cons,List.not_mem_nil,or_false]at hy;rcases hy with rfl|rfl|rfl|rfl|rfl
  ·exact at0
  ·exact q1
  ·exact q2
  ·exact J2 h1 (by decide) (by decide)
  ·exact J2 h2 (by decide) (by decide)
 ·obtain⟨a,b,c,d,rfl⟩:=len4 r.len;obtain⟨h1,h2,i,rfl,h0,h3⟩:=JF (hw (300-Z9 [a,b,c,d]) (λ_=>by omega):YJ k1 T.n _ b c d=.non);refine⟨by show 4<=6;decide,λy hy=>?_⟩;simp only[List.mem_cons,List.not_mem_nil,or_false]at hy;rcases hy with rfl|rfl|rfl|rfl
  ·exact at0
  ·exact UQ o hk h1
  ·exact J2 h2 (by decide) (by omega)
  ·exact .int (by omega)
theorem GB:TabG T.n T.t1 T.t2 T.t3 T.t4:=⟨⟨o.n0,o.n1⟩,(o.part 1 (.inl rfl)).1,(o.part 2 (.inr (.inl rfl))).1,(o.part 3 (.inr (.inr (.inl rfl)))).1,(o.part 4 (.inr (.inr (.inr rfl)))).1,λ_ h=>Jz o (.inl rfl) h,λ_ h=>Jz o (.inr (.inl rfl)) h,λ_ h=>Jz o (.inr (.inr (.inl rfl))) h,λ_ h=>Jz o (.inr (.inr (.inr rfl))) h⟩
end
end WD
namespace TX
open PySem L2 PySem.Spec PyProof.Rows TB WD
noncomputable def txt:V->Str
|.str z=>z
|.int i=>(toString i:String)
|_=>""
noncomputable def hJ(j:Nat):Str:=if j=2 then"ride" else if j=3 then"way" else"group"
noncomputable def wJ(j:Nat)(ys:List V):List Str:=if j=1 then(if at_ ys 1=.non then["home",txt (at_ ys 0)]else["place",txt (at_ ys 0),txt (at_ ys 1)])else hJ j::ys.map txt
noncomputable def wT(n:Int):List Str:=["turns",(toString n:String)]
noncomputable def formOf(z:Str):Option (List Str):=if z="turns" then some ["number"]else if z="place" then some ["name","number"]else if z="home" then some ["name"]else if z="ride" then some ["name","name","number","name","number","number"]else if z="way" then some ["name","name","name","number","number"]else if z="group" then some ["group name","name","number","number"]else none
noncomputable def Vz(w f:Str):V:=if f="number" then K1.numV (.str w)else if ZL (!decide (f="name")) (.str w)=true then .str w else .non
noncomputable def things(r f:List Str):List V:=(r.zip f).map λp=>Vz p.1 p.2
def Parse(ws:List Str)(ys:List V):Prop:=∃z r f,ws=z::r/\formOf z=some f/\r.length=f.length/\(∀v∈things r f,v≠.non)/\ys=things r f++(if z="home" then[.non]else[])
def Wd1(z:Str):Prop:=32∉cd z/\10∉cd z/\z.length<=12
noncomputable instance (z:Str):Decidable (Wd1 z):=by unfold Wd1;infer_instance
theorem RL:∀n:Nat,n<1001->K1.numB (K1.codes (toString (n:Int):String))=some (n:Int)/\Wd1 (toString (n:Int):String):=by decide +kernel
theorem heads_wd:∀z∈(["turns","place","home","ride","way","group"]:List Str),Wd1 z:=by decide +kernel
theorem VC:(32∉K1.codes K1.tNAME/\10∉K1.codes K1.tNAME)/\32∉K1.codes K1.tGROUP/\10∉K1.codes K1.tGROUP:=by decide +kernel
theorem Jk{g:Bool}{z:Str}(h:ZL g (.str z)=true):Wd1 z:=by
 cases g
 ·have h':K1.Y1 8 (K1.codes K1.tNAME) (codes z)=true:=h;unfold K1.Y1 K1.Z6 K1.lenB at h';simp only[Bool.and_eq_true,decide_eq_true_eq,List.all_eq_true]at h';exact⟨λq=>VC.1.1 (h'.1.2 _ q),λq=>VC.1.2 (h'.1.2 _ q),by rw[<-ZG];omega⟩
 ·have h':K1.Y1 12 (K1.codes K1.tGROUP) (codes z)=true:=h;unfold K1.Y1 K1.Z6 K1.lenB at h';simp only[Bool.and_eq_true,decide_eq_true_eq,List.all_eq_true]at h';exact⟨λq=>VC.2.1 (h'.1.2 _ q),λq=>VC.2.2 (h'.1.2 _ q),by rw[<-ZG];omega⟩
inductive Fld:Str->V->Prop where
|name {z:Str} (h:ZL false (.str z)=true):Fld "name" (.str z)
|group {z:Str} (h:ZL true (.str z)=true):Fld "group name" (.str z)
|num {i:Int} (h0:0<=i) (h1:i<=1000):Fld "number" (.int i)
theorem Fld.num_at{i:Int}(h0:0<=i)(h1:i<=1000):K1.numV (.str (toString i:String))=.int i/\Wd1 (toString i:String):=by obtain⟨n,rfl⟩:=Int.eq_ofNat_of_zero_le h0;obtain⟨a,b⟩:=RL n (by omega);refine⟨?_,b⟩;show K1.optV (K1.numB (K1.codes _))=_;rw[a];rfl
theorem Fld.back{f:Str}{v:V}(h:Fld f v):Vz (txt v) f=v/\v≠.non/\Wd1 (txt v):=by
 cases h with
|@name z h=>refine⟨?_,λe=>(by cases e),Jk h⟩;unfold Vz;rw[if_neg (by decide +kernel),decide_eq_true rfl];exact if_pos h
|@group z h=>refine⟨?_,λe=>(by cases e),Jk h⟩;unfold Vz;rw[if_neg (by decide +kernel),decide_eq_false (by decide +kernel)];exact if_pos h
|@num i h0 h1=>refine⟨?_,λe=>(by cases e),(Fld.num_at h0 h1).2⟩;unfold Vz;rw[if_pos rfl];exact(Fld.num_at h0 h1).1
inductive Flds:List Str->List V->Prop where
|nil:Flds [] []
|cons {f:Str}{v:V}{fs:List Str}{vs:List V} (h:Fld f v) (t:Flds fs vs):Flds (f::fs) (v::vs)
theorem Flds.len{fs:List Str}{vs:List V}(h:Flds fs vs):(vs.map txt).length=fs.length:=by
 induction h with
|nil=>rfl
|cons _ _ ih=>simpa using ih
theorem Flds.back{fs:List Str}{vs:List V}(h:Flds fs vs):things (vs.map txt) fs=vs:=by
 induction h with
|nil=>rfl
|cons h _ ih=>unfold things at ih ⊢;rw[List.map_cons,List.zip_cons_cons,List.map_cons,ih,h.back.1]
theorem Flds.ne{fs:List Str}{vs:List V}(h:Flds fs vs):∀v∈vs,v≠.non/\Wd1 (txt v):=by
 induction h with
|nil=>intro v hv;cases hv
|cons h _ ih=>
  intro v hv;rcases List.mem_cons.mp hv with rfl|hv
  ·exact h.back.2
  ·exact ih v hv
theorem Flds.parse{z:Str}{fs:List Str}{vs:List V}(h:Flds fs vs)(hf:formOf z=some fs):Parse (z::vs.map txt) (vs++if z="home" then[.non]else[]):=⟨z,vs.map txt,fs,rfl,hf,h.len,λv hv=>by rw[h.back]at hv;exact(h.ne v hv).1,by rw[h.back]⟩
theorem J1{v:V}{lo hi:Int}(h:K1.Zt v lo hi=true)(h0:0<=lo)(h1:hi<=1000):Fld "number" v:=by obtain⟨i,rfl,a,b⟩:=within_int h;exact .num (by omega) (by omega)
section
variable {T:Tb}(o:OkTb T)
include o
theorem JR{k1:Kv}(hk:PlDict k1 T.t1){x:V}(h:ZT x k1=true):Fld "name" x:=by obtain⟨p,hp,rfl⟩:=Me hk h;have r:=XU o (j:=1) (.inl rfl) hp;have e:=r.name;have n:=r.nm;rw[show at_ p 0=.str (nameOf p)from e]at n;exact .name n
theorem VW{k1:Kv}(hk:PlDict k1 T.t1){s g:V}(h:YC k1 s g=.non):Fld "name" s/\Fld "name" g:=⟨JR o hk (VU h).1,JR o hk (VU h).2.1⟩
theorem Pf{j:Nat}(hj:isJ j){ys:List V}(h:ys∈T.part j):Parse (wJ j ys) ys/\∀w∈wJ j ys,Wd1 w:=by
 obtain⟨k1,hk⟩:=VM o;have n1:=o.n1;have r:=XU o hj h;have e0:at_ ys 0=.str (nameOf ys):=r.name;have nm:=r.nm;rw[e0]at nm;have hw:=r.why k1 (λ_=>hk.has);have gen:∀{z:Str}{fs:List Str}{vs:List V},Flds fs vs->formOf z=some fs->z∈(["turns","place","home","ride","way","group"]:List Str)->Parse (z::vs.map txt) (vs++if z="home" then[.non]else[])/\∀w∈z::vs.map txt,Wd1 w:=λ{z fs vs}hf hz hm=>⟨hf.parse hz,λw hw=>by
  rcases List.mem_cons.mp hw with rfl|hw
  ·exact heads_wd w hm
  ·obtain⟨v,hv,rfl⟩:=List.mem_map.mp hw;exact(hf.ne v hv).2⟩
 rcases hj with rfl|rfl|rfl|rfl
 ·obtain⟨p,rfl,g,rm⟩:=Gy o h;have hn:Fld "name" (.str p.1):=.name nm;cases e:p.2 with
 |none=>
   have q:=gen (z:="home") (.cons hn .nil) (by decide +kernel) (by decide +kernel);have ew:wJ 1 (ZM p)=("home":Str)::[V.str p.1].map txt:=by unfold wJ ZM;rw[e,if_pos rfl];exact if_pos rfl
   rw[ew];refine⟨?_,q.2⟩;have:=q.1;rw[if_pos rfl]at this;unfold ZM;rw[e];exact this
 |some i=>
   have hi:=rm i e;have q:=gen (z:="place") (.cons hn (.cons (.num hi.1 hi.2) .nil)) (by decide +kernel) (by decide +kernel);have ew:wJ 1 (ZM p)=("place":Str)::[V.str p.1,.int i].map txt:=by unfold wJ ZM;rw[e,if_pos rfl];exact if_neg (λz=>by cases z)
   rw[ew];refine⟨?_,q.2⟩;have:=q.1;rw[if_neg (by decide +kernel),List.append_nil]at this;unfold ZM;rw[e];exact this
 ·obtain⟨z,s,lv,g',cm,se,rfl,_,he,a1,a2,b1,b2,c1,c2⟩:=UI o h hk.has;obtain⟨q1,q2⟩:=VW o hk he;have q:=gen (z:="ride") (.cons (.name (z:=z) nm) (.cons q1 (.cons (.num (i:=lv) a1 (by omega)) (.cons q2 (.cons (.num (i:=cm) (by omega) (by omega)) (.cons (.num (i:=se) c1 c2) .nil)))))) (by decide +kernel) (by decide +kernel);rw[if_neg (by decide +kernel),List.append_nil]at q;exact q
 ·obtain⟨a,b,c,d,e,rfl⟩:=len5 r.len;have hw':wayV k1 b c d e=.non:=hw 0 (λz=>by cases z);obtain⟨he,h1,h2⟩:=MZ hw';obtain⟨q1,q2⟩:=VW o hk he;have ea:a=.str (nameOf [a,b,c,d,e]):=e0;have q:=gen (z:="way") (.cons (ea▸.name nm:Fld "name" a) (.cons q1 (.cons q2 (.cons (J1 h1 (by decide) (by decide)) (.cons (J1 h2 (by decide) (by decide)) .nil))))) (by decide +kernel) (by decide +kernel);rw[if_neg (by decide +kernel),List.append_nil]at q;exact q
 ·obtain⟨a,b,c,d,rfl⟩:=len4 r.len;obtain⟨h1,h2,i,rfl,h0,h3⟩:=JF (hw (300-Z9 [a,b,c,d]) (λ_=>by omega):YJ k1 T.n _ b c d=.non);have ea:a=.str (nameOf [a,b,c,.int i]):=e0;have q:=gen (z:="group") (.cons (ea▸.group nm:Fld "group name" a) (.cons (JR o hk h1) (.cons (J1 h2 (by decide) (by omega)) (.cons (.num h0 (by omega)) .nil)))) (by decide +kernel) (by decide +kernel);rw[if_neg (by decide +kernel),List.append_nil]at q;exact q
theorem Qk:Parse (wT T.n) [.int T.n]/\∀w∈wT T.n,Wd1 w:=by
 have h0:=o.n0;have h1:=o.n1;have f:Flds ["number"] [.int T.n]:=.cons (.num (by omega) (by omega)) .nil;have q:=f.parse (z:="turns") (by decide +kernel);rw[if_neg (by decide +kernel),List.append_nil]at q;refine⟨q,λw hw=>?_⟩;rcases List.mem_cons.mp hw with rfl|hw
 ·exact heads_wd _ (by decide +kernel)
 ·rw[List.mem_singleton.mp hw];exact(Fld.num_at (by omega) (by omega)).2
end
def Wg:Sp:=λvs H Q _=>∃w f,vs=[.str w,.str f]/\w.length<=1000/\∀H',Same H H'->Q (Vz w f) H'
section
variable {P:Program}{w:World}{K:PySem.W.Frag}{mg:Str->Option Value}{base:Heap}
theorem VD:FnScope ["word","form","fits"] ["word","form"] (Zg T.f_read_word):=scO (by decide +kernel)
theorem Kj(CN:Can P w K mg base 2 "number_of" ["thing"] K1.N8)(C1:Can P w K mg base 2 "is_name" ["thing"] (K1.UE 8 K1.tNAME))(C2:Can P w K mg base 2 "is_group_name" ["thing"] (K1.UE 12 K1.tGROUP))(D:Df K mg "read_word" T.f_read_word ["word","form"]):Can P w K mg base 3 "read_word" ["word","form"] Wg:=by
 refine D.can VD (λvs H Q E h=>by obtain⟨z,f,rfl,_⟩:=h;rfl) λf cdv A outer s H vs Q E hr h=>?_;obtain⟨z,f,rfl,hz,k⟩:=h;refine⟨_,(Zd (ZP (ZC Xl (pv 1) Zn (ZD _)) (Zk (Zq (cn CN hr (Za (pv 0) Zb)))) Zx) (Zd (st 2 VD.nd (JC (ZC Xl (pv 1) Zn (ZD _)) (cn C1 hr (Za (pv 0) Zb)) (cn C2 hr (Za (pv 0) Zb)))) (Zk (Zq (JC (Z0 (pv 2)) (pv 0) ZR))))),?_⟩;refine⟨_,rfl,rfl,_,rfl,?_⟩;unfold Vz at k;refine Jc (λe=>?_) (λe=>?_)
 ·have e:f="number":=by have:=of_decide_eq_true e;injection this
  rw[if_pos e]at k;exact⟨_,rfl,_,_,rfl,.str z hz,k⟩
 ·have e:¬f="number":=λq=>of_decide_eq_false e (by rw[q]);rw[if_neg e]at k;refine⟨_,rfl,rfl,_,rfl,?_⟩;refine Jc (λe2=>?_) (λe2=>?_)
  ·have e2:f="name":=by have:=of_decide_eq_true e2;injection this
   rw[decide_eq_true e2]at k;refine⟨_,rfl,_,_,rfl,.str z hz,λH1 S1=>?_⟩;refine⟨_,rfl,_,rfl,Jc (λe3=>?_) (λe3=>?_)⟩
   ·refine⟨_,rfl,?_⟩;have:=k H1 S1;rw[if_pos (show ZL (!true) (.str z)=true from e3)]at this;exact this
   ·have:=k H1 S1;rw[if_neg (λq=>by rw[show ZL (!true) (.str z)=false from e3]at q;cases q)]at this;exact this
  ·have e2:¬f="name":=λq=>of_decide_eq_false e2 (by rw[q]);rw[decide_eq_false e2]at k;refine⟨_,rfl,_,_,rfl,.str z hz,λH1 S1=>?_⟩;refine⟨_,rfl,_,rfl,Jc (λe3=>?_) (λe3=>?_)⟩
   ·refine⟨_,rfl,?_⟩;have:=k H1 S1;rw[if_pos (show ZL (!false) (.str z)=true from e3)]at this;exact this
   ·have:=k H1 S1;rw[if_neg (λq=>by rw[show ZL (!false) (.str z)=false from e3]at q;cases q)]at this;exact this
end
end TX
namespace K1
open PySem L2 PySem.Spec PyProof.Rows
noncomputable abbrev RE:Stmt:=T.f_number_of
structure TxtN(K:PySem.W.Frag)(mg:Str->Option Value):Prop where
 int:mg "int"=none
 mf:∃t,mg "MOST_FIGURES"=some (.int 4 t)
 figs:∃t,mg "FIGURES"=some (.str tFIG t)
section
variable {P:Program}{w:World}{K:PySem.W.Frag}{mg:Str->Option Value}{base:Heap}
theorem KY(c:Nat):decide (V.str ⟨#[c]⟩=V.str "0")=decide (c=48):=by
 rw[Bool.eq_iff_iff,decide_eq_true_iff,decide_eq_true_iff];constructor
 ·intro h;injection h with h;have h2:=congrArg (λz:Str=>z.cps.toList) h;have h3:[c]=[48]:=h2;injection h3
 ·intro h;subst h;rfl
theorem We(y:Str):decide (V.str y=V.str "0")=decide (codes y=[48]):=by
 rw[Bool.eq_iff_iff,decide_eq_true_iff,decide_eq_true_iff];constructor
 ·intro h;injection h with h;subst h;rfl
 ·intro h;have h2:y=("0":Str):=by obtain⟨⟨l⟩⟩:=y;have h3:l=[48]:=h;subst h3;rfl
  rw[h2]
theorem Sg{y:Str}{n:Int}(h:GQ (.str y) n tFIG=true):∀c∈codes y,c∈FIG:=by have h':Z6 n (codes tFIG) (codes y)=true:=h;unfold Z6 at h';rw[Bool.and_eq_true,List.all_eq_true,cFIG]at h';exact λc hc=>of_decide_eq_true (h'.2 c hc)
theorem W8{y:Str}(h:∀c∈codes y,c∈FIG)(h0:codes y≠[])(hl:y.length<=1000):PySem.intText? y=some ((figV (codes y):Nat):Int):=PySem.intText_digits (x:=y) (λc hc=>LD (h c hc)) h0 (by omega)
theorem Wz:FnScope ["thing"] ["thing"] (Zg RE):=⟨rfl,rfl,rfl,by decide +kernel,rfl,by decide +kernel,by decide +kernel⟩
theorem Q4(T:TxtN K mg)(D:Df K mg "number_of" RE ["thing"])(CT:Can P w K mg base 1 "is_text_of" ["thing","longest","signs"] VB):Can P w K mg base 2 "number_of" ["thing"] N8:=by
 refine D.can Wz (λvs H Q E h=>?_) (λf cdv A outer s H vs Q E hr h=>?_)
 ·obtain⟨x,T',rfl,_⟩:=h;rfl
 ·obtain⟨x,T',rfl,th,k⟩:=h;obtain⟨t1,h1⟩:=T.mf;obtain⟨t2,h2⟩:=T.figs;refine⟨_,Zd (ZP (Ye (Z0 (ZS CT hr rfl (Zh (pv 0) (Zh (ZW (v:=V.int 4) rfl h1 ⟨t1,rfl⟩) (Zh (ZW (v:=V.str tFIG) rfl h2 ⟨t2,rfl⟩) Zb)))))) (Zk (Zq ZR)) Zx) (Zd (ZP (PW.pt (QE (ZC Xl (Z2 UT (pv 0) Zi (λ_ _=>rfl)) Zn (ZD _)) (Nq (ZC Ma (pv 0) Zn (ZD _))))) (Zk (Zq ZR)) Zx) (Zk (Zq (ZE TK rfl T.int Mv (Zh (pv 0) Zb))))),?_⟩;refine⟨_,rfl,x,T',4,tFIG,rfl,th,λH' sm=>⟨_,rfl,?_⟩⟩;have fin:∀v,v=numV x->Q v H':=λb e=>e▸k H' sm;refine ite2 (λe=>fin _ ?_) (λe=>?_)
  ·have e1:GQ x 4 tFIG=false:=by simpa using e
   cases x with
  |str y=>have e2:Z6 4 (codes tFIG) (codes y)=false:=e1;show V.non=optV (numB (codes y));unfold numB;rw[<-cFIG,e2];rfl
  |_=>rfl
  ·have e1:GQ x 4 tFIG=true:=by simpa using e
   obtain⟨y,c,r,rfl,ey⟩:=UD e1;have e2:Z6 4 (codes tFIG) (codes y)=true:=e1;have e3:numB (codes y)=if(codes y).getD 0 0=48/\codes y≠[48]then none else some (figV (codes y):Int):=by unfold numB;rw[<-cFIG,e2,if_pos rfl]
   have ec:(codes y).getD 0 0=c:=by rw[ey];rfl
   refine⟨_,rfl,y,0,c,rfl,rfl,slen th.strLen,NK ey,rfl,_,rfl,?_⟩;rw[KY];have last:¬((codes y).getD 0 0=48/\codes y≠[48])->tRet (tCB (λxs H Q=>∃z n,xs=[V.str z]/\PySem.intText? z=some n/\z.length<=640/\Q (.int n) H) (MH (tVar 0) tNil)) {nx:=λ_ H'=>Q .non H',rt:=Q} (L2.start ["thing"] [V.str y]) H':=λhn=>by
    refine⟨_,rfl,y,_,rfl,W8 (Sg e1) (by rw[ey];simp) th.strLen,?_,fin _ ?_⟩
    ·have hl:Z6 4 (codes tFIG) (codes y)=true:=e1;unfold Z6 lenB at hl;rw[Bool.and_eq_true,Bool.and_eq_true,clen]at hl;have:=of_decide_eq_true hl.1.2;omega
    ·show _=optV (numB (codes y));rw[e3,if_neg hn];rfl
   refine ite2 (λe4=>?_) (λe4=>iteF ?_)
   ·refine⟨_,rfl,rfl,_,rfl,?_⟩;rw[We];refine ite2 (λe5=>fin _ ?_) (λe5=>last ?_)
    ·show V.non=optV (numB (codes y));rw[e3,if_pos ⟨ec.trans (of_decide_eq_true e4),by simpa using e5⟩];rfl
    ·rintro ⟨_,h⟩;exact e5 (by simpa using h)
   ·refine last ?_;rintro ⟨h,_⟩;exact e4 (decide_eq_true (ec.symm.trans h))
end
end K1
namespace TX
open PySem L2 PySem.Spec PyProof.Rows TB WD
structure FormsP(K:PySem.W.Frag)(w:World)(mg:Str->Option Value)(aF:Addr):Prop where
 mg:mg "FORMS"=some (.ref aF)
 kd:KD K w aF
 at_:∀z f,formOf z=some f->∃a,PySem.W.nsIn K aF z=some (some (.ref a))/\∀H,SqT K H a (f.map V.str)
def Wl:Sp:=λvs H Q _=>∃(l:Addr)(ws:List Str)(ys:List V),vs=[.ref l]/\H l=some (.lst (ws.map V.str))/\Parse ws ys/\(∀w∈ws,w.length<=1000)/\ws.length<=1000/\∀H' q,Same H H'->H' q=some (.tup ys)->Q (.ref q) H'
theorem Sa(w f:Str):Jt (Vz w f)=true:=by
 unfold Vz;split
 ·show Jt (K1.optV _)=true;cases K1.numB (K1.codes w)<;>rfl
 ·split<;>rfl
theorem W0:∀{l:List V},(∀v∈l,v≠.non)->(∀v∈l,Jt v=true)->inV .non l=false
|[],_,_=>rfl
|v::l,h,g=>by
  have ih:=W0 (λx hx=>h x (List.mem_cons_of_mem _ hx)) λx hx=>g x (List.mem_cons_of_mem _ hx);unfold inV at ih ⊢;rw[List.any_cons,ih,Bool.or_false];have hv:=h v List.mem_cons_self;cases v with
 |non=>exact absurd rfl hv
 |_=>rfl
section
variable {P:Program}{w:World}{K:PySem.W.Frag}{mg:Str->Option Value}{base:Heap}{aF:Addr}
theorem Jy:FnScope ["words","form","things"] ["words"] (Zg T.f_read_row):=scO (by decide +kernel)
noncomputable def X4:Scope:={kind:=.function,names:=[(Str.ofString ".0",.local),(Str.ofString "word",.local),(Str.ofString "wanted",.local),(Str.ofString "read_word",.globalImplicit)],isGenerator:=false,isCoroutine:=false,more:=[]}
theorem UY:CompScope X4 (Zg T.f_read_row):=⟨rfl,by decide +kernel,by decide +kernel,by decide +kernel⟩
theorem Jd:(["word","wanted"]:List Str).Nodup:=by decide +kernel
theorem UZ:CompNames ["words","form","things"] X4 ["word","wanted"] [none,none]:=.mk' (by decide +kernel)
theorem Kr(B:∀x∈Blts,mg x=none)(FF:FormsP K w mg aF)(CW:Can P w K mg base 3 "read_word" ["word","form"] Wg)(D:Df K mg "read_row" T.f_read_row ["words"]):Can P w K mg base 4 "read_row" ["words"] Wl:=by
 refine D.can Jy (λvs H Q E h=>by obtain⟨l,ws,ys,rfl,_⟩:=h;rfl) λf cdv A outer s H vs Q E hr h=>?_;obtain⟨l,ws,ys,rfl,hl,⟨z,r,f,rfl,hf,hrf,hne,rfl⟩,hw,hlen,k⟩:=h;refine⟨_,(Zd (st 1 Jy.nd (WS (ZW (v:=.ref aF) rfl FF.mg rfl) (il K (pv 0) Zi) ⟨rfl,rfl,rfl,rfl⟩)) (Zd (ZP (PW.pt (JY (ZC UN (pv 1) ZR (ZD _)) (XW (ZC Ma (ZI (r:=rLen K) Yg rfl (B _ (by decide +kernel)) PySem.boot_len (Za (pv 0) Zb)) (Zv Yp (ZI (r:=rLen K) Yg rfl (B _ (by decide +kernel)) PySem.boot_len (Za (pv 1) Zb)) Zi) (ZD _))))) (Zk (Zq ZR)) Zx) (Zd (Yy (i:=2) Jy.nd rfl (Or.inl rfl) (scope:=X4) (N:=["word","wanted"]) (cp:=[none,none]) rfl UY UZ (Lh rfl (B _ (by decide +kernel)) (Za (Yv (r:=rSlL K) Jg (pv 0) (YG Zi) YH) (Za (pv 1) Zb))) (λC s H ex pn=>(Jj (K:=K) (n:=2) rfl rfl (Zp (Zo (i:=0) Jd rfl (Or.inl rfl)) (Zp (Zo (i:=1) Jd rfl (Or.inl rfl)) ZV)))) (λC s H ex pn=>ZO) (λC s H ex pn=>(cn CW hr (Za (pv 0) (Za (pv 1) Zb))))) (Zd (ZP (ZC Sy ZR (pv 2) (by with_unfolding_all rfl)) (Zk (Zq ZR)) Zx) (Zk (Zq (JC (ZC Xl (il K (pv 0) Zi) Zn (ZD _)) (ZE Yk rfl (B _ (by decide +kernel)) YL (Za (Zv Nz (pv 2) (ZQ (Za ZR Zb))) Zb)) (ZE Yk rfl (B _ (by decide +kernel)) YL (Za (pv 2) Zb))))))))),?_⟩;obtain⟨a,hns,hsq⟩:=FF.at_ z f hf;rw[List.map_cons]at hl;refine⟨_,rfl,FF.kd,_,rfl,l,_,0,_,rfl,rfl,SqL.of hl,Zr (j:=0) rfl,z,_,.ref a,rfl,hns,rfl,?_⟩;refine⟨_,rfl,rfl,_,rfl,iteF ?_⟩;refine⟨_,rfl,l,_,rfl,.inl (SqL.of hl),_,rfl,a,_,rfl,.inr (hsq _),_,_,rfl,rfl,rfl,_,rfl,?_⟩;have el:decide (V.int ((V.str z::r.map V.str).length:Int)=V.int (((f.map V.str).length:Int)+1))=true:=by rw[List.length_cons,List.length_map,List.length_map,hrf];exact decide_eq_true rfl
 rw[el];refine iteF ?_;refine⟨_,rfl,_,rfl,l,_,rfl,SqL.of hl,λl1 hl1=>?_⟩;have ec:cutV (V.str z::r.map V.str) (some 1) none=r.map V.str:=by
  have h1:HT.sIx (V.str z::r.map V.str).length 0 (some 1)=1:=by unfold HT.sIx;rw[List.length_cons,List.length_map];simp;try omega
  unfold cutV;rw[h1];show((V.str z::r.map V.str).drop 1).take (_-1)=_;rw[List.drop_one,List.tail_cons];refine List.take_of_length_le ?_;show _<=HT.sIx _ _ none-1;unfold HT.sIx;rw[List.length_map,List.length_cons,List.length_map];simp
 rw[ec];dsimp only;refine nl2 hl1 λH1 S1 e1=>?_;refine⟨_,rfl,l1,a,_,_,rfl,e1,hsq _,?_⟩;have hrl:r.length<=1000:=by rw[List.length_cons]at hlen;omega
 refine ZF (J:=Itzt K l1 a) r.length (Nat.le_trans hrl (by decide)) (λn zs τ H'=>Same H1 H'/\zs=(things r f).take n/\n<=r.length/\∃v1 v2,τ=[v1,v2]) ⟨Same.refl _,rfl,Nat.zero_le _,none,none,rfl⟩ (λn zs τ H' p=>by rw[p.2.1,List.length_take];omega) (λn zs τ H' hn p=>⟨_,_,p.1 _ _ e1,hsq _,by rw[List.length_map];exact hn,by rw[List.length_map,<-hrf];exact hn⟩) (λzs τ H' p=>⟨_,_,p.1 _ _ e1,hsq _,by rw[List.length_map,List.length_map,<-hrf];omega⟩) (λn zs τ H' x H2 hn p yl=>?_) (λzs τ H2 p l2 hl2=>?_)
 ·obtain⟨S2,rfl,_,v1,v2,rfl⟩:=p;obtain⟨Tt,xs,b1,b2,hT,hx,hy,g1,rfl,rfl⟩:=yl;have g2:=hy _ (hsq _);rw[S2 _ _ e1]at hx;cases hx;rw[List.getElem?_map,List.getElem?_eq_getElem hn]at g1;cases g1;have hn2:n<f.length:=by omega
  rw[List.getElem?_map,List.getElem?_eq_getElem hn2]at g2;cases g2;have S3:=sameNew (o:=.tup [.str r[n],.str f[n]]) S2 hT;refine⟨Tt,_,rfl,SqT.of Zc,rfl,_,_,rfl,_,_,rfl,rfl,?_⟩;refine⟨_,rfl,_,rfl,_,_,rfl,hw _ (List.mem_cons_of_mem _ (List.getElem_mem hn)),λH4 S4=>⟨S3.trans S4,?_,hn,_,_,rfl⟩⟩;have hz:n<(r.zip f).length:=by rw[List.length_zip];omega
  unfold things;rw[List.take_succ,List.getElem?_map,List.getElem?_eq_getElem hz,List.getElem_zip];rfl
 obtain⟨S2,rfl,_,v1,v2,rfl⟩:=p;have et:(things r f).take r.length=things r f:=List.take_of_length_le (by unfold things;rw[List.length_map,List.length_zip];omega);rw[et];have hfl:∀v∈things r f,Jt v=true:=λv hv=>by unfold things at hv;obtain⟨p,_,rfl⟩:=List.mem_map.mp hv;exact Sa _ _
 have tl:(things r f).length<=1000:=by unfold things;rw[List.length_map,List.length_zip];omega
 refine nl2 hl2 λH3 S3 e3=>?_;refine⟨_,rfl,l2,_,rfl,.inl (SqL.of e3),rfl,by rw[List.all_eq_true];exact hfl,_,rfl,?_⟩;rw[if_neg (by decide),W0 hne hfl];refine iteF ?_;have SS:=(S1.trans S2).trans S3;refine⟨_,rfl,l,_,0,_,rfl,rfl,SqL.of (SS _ _ hl),Zr (j:=0) rfl,rfl,_,rfl,?_⟩;by_cases e:z="home"
 ·rw[if_pos e]at k;rw[decide_eq_true (by rw[e])];refine iteT ?_;refine⟨_,rfl,zl,λl4 hl4=>?_⟩;dsimp only;refine nl2 hl4 λH4 S4 e4=>?_;refine⟨l2,l4,_,_,rfl,rfl,S4 _ _ e3,e4,Nat.le_trans (show(things r f).length+1<=1001 by omega) (by decide),λl5 hl5=>?_⟩;dsimp only;refine nl2 hl5 λH5 S5 e5=>?_;exact⟨l5,_,rfl,.inl ⟨SqL.of e5,λl6 hl6=>k _ l6 (sameNew ((SS.trans S4).trans S5) hl6) Zc⟩⟩
 ·rw[if_neg e,List.append_nil]at k;rw[decide_eq_false (λq=>e (by injection q))];refine iteF ?_;exact⟨_,rfl,l2,_,rfl,.inl ⟨SqL.of e3,λl6 hl6=>k _ l6 (sameNew SS hl6) Zc⟩⟩
end
noncomputable abbrev Ent:=Nat×List V
noncomputable def wE(e:Ent):List Str:=if e.1=0 then["turns",txt (at_ e.2 0)]else wJ e.1 e.2
noncomputable def line(e:Ent):Str:=Txt.join SP (wE e)
noncomputable def pn(j:Nat):Str:=if j=0 then"turns" else Ez j
noncomputable def headsOf(j:Nat):List Str:=if j=0 then["turns"]else if j=1 then["place","home"]else if j=2 then["ride"]else if j=3 then["way"]else["group"]
structure EOk(e:Ent):Prop where
 j:e.1<=4
 pa:Parse (wE e) e.2
 wd:∀w∈wE e,Wd1 w
 hd:∃z r,wE e=z::r/\z∈headsOf e.1
 sh:(wE e).length<=10
noncomputable def sel(j:Nat)(L:List Ent):List (List V):=(L.filter λe=>decide (e.1=j)).map (·.2)
theorem JL(j:Nat)(L M:List Ent):sel j (L++M)=sel j L++sel j M:=by unfold sel;rw[List.filter_append,List.map_append]
theorem Ni(j:Nat)(e:Ent):sel j [e]=if e.1=j then[e.2]else[]:=by unfold sel;by_cases h:e.1=j<;>simp[h]
theorem Gw{T:Tb}(o:OkTb T){j:Nat}(hj:isJ j){ys:List V}(h:ys∈T.part j):EOk (j,ys):=by
 obtain⟨a,b⟩:=Pf o hj h;have r:=XU o hj h;have hj0:j≠0:=by rcases hj with rfl|rfl|rfl|rfl<;>decide
 have ew:wE (j,ys)=wJ j ys:=if_neg hj0;refine⟨by rcases hj with rfl|rfl|rfl|rfl<;>exact Nat.le_of_ble_eq_true rfl,by rw[ew];exact a,by rw[ew];exact b,?_,?_⟩
 ·rw[ew];rcases hj with rfl|rfl|rfl|rfl
  ·unfold wJ;rw[if_pos rfl];split
   ·exact⟨_,_,rfl,show("home":Str)∈headsOf 1 by decide +kernel⟩
   ·exact⟨_,_,rfl,show("place":Str)∈headsOf 1 by decide +kernel⟩
  ·exact⟨_,_,rfl,show hJ 2∈headsOf 2 by decide +kernel⟩
  ·exact⟨_,_,rfl,show hJ 3∈headsOf 3 by decide +kernel⟩
  ·exact⟨_,_,rfl,show hJ 4∈headsOf 4 by decide +kernel⟩
 ·rw[ew];have hl:=r.len;unfold wJ;split
  ·split<;>exact Nat.le_of_ble_eq_true rfl
  ·rw[List.length_cons,List.length_map,hl];rcases hj with rfl|rfl|rfl|rfl<;>(show _<=10;decide)
theorem Sb{T:Tb}(o:OkTb T):EOk (0,[.int T.n]):=by obtain⟨a,b⟩:=Qk o;exact⟨by show 0<=4;decide,a,b,⟨_,_,rfl,show("turns":Str)∈headsOf 0 by decide +kernel⟩,by show 2<=10;decide⟩
theorem EOk.split{e:Ent}(h:EOk e):Txt.split (line e) SP=wE e:=by obtain⟨z,r,ez,_⟩:=h.hd;exact GW (by rw[ez];simp) λw hw=>(h.wd w hw).1
theorem GR{l:List Nat}{m:Nat}(h:∀x∈l,x<=m):l.sum<=l.length*m:=by
 induction l with
|nil=>simp
|cons x l ih=>have h1:=h x List.mem_cons_self;have h2:=ih λy hy=>h y (List.mem_cons_of_mem _ hy);rw[List.sum_cons,List.length_cons,Nat.succ_mul];omega
theorem EOk.len{e:Ent}(h:EOk e):(line e).length<=130:=by
 have h1:=PJ 32 (wE e);have h2:=h.sh;have h3:((wE e).map (·.length)).sum<=((wE e).map (·.length)).length*12:=GR λx hx=>by obtain⟨w,hw,rfl⟩:=List.mem_map.mp hx;exact(h.wd w hw).2.2
 rw[List.length_map]at h3;show(Txt.join ⟨#[32]⟩ (wE e)).length<=130;omega
theorem RR{c d:Nat}(hc:c≠d):∀{l:List (List Nat)},(∀x∈l,d∉x)->d∉glue c l
|[],_=>by simp[glue]
|[x],h=>h x List.mem_cons_self
|x::y::r,h=>by show d∉x++c::glue c (y::r);rw[List.mem_append,List.mem_cons,not_or,not_or];exact⟨h x List.mem_cons_self,Ne.symm hc,RR hc λz hz=>h z (List.mem_cons_of_mem _ hz)⟩
theorem YF{α β:Type}{R:α->β->Prop}:∀{a b:List α}{c d:List β},Paired R a c->Paired R b d->Paired R (a++b) (c++d)
|_,_,_,_,.nil,h=>h
|_,_,_,_,.cons h t,g=>.cons h (YF t g)
theorem EOk.nl{e:Ent}(h:EOk e):10∉cd (line e):=by
 have:cd (line e)=glue 32 ((wE e).map cd):=by show cd (Builtin.Str.glued SP (wE e))=_;rw[StrLaws.glued_eq_join];exact Jp 32 (wE e)
 rw[this];exact RR (by decide) λx hx=>by obtain⟨w,hw,rfl⟩:=List.mem_map.mp hx;exact(h.wd w hw).2.1
def Gn(H:Hp)(x:V)(ys:List V):Prop:=∃(t r:Addr)(k:V),x=.ref t/\H t=some (.tup [k,.ref r])/\H r=some (.tup ys)
def Rws(H:Hp)(q:Nat->Addr)(L:List Ent):Prop:=∀j,j<=4->∃xs,H (q j)=some (.lst xs)/\Paired (Gn H) xs (sel j L)
theorem Gn.keep{H H':Hp}{a:Addr}{xs:List V}(ha:H a=some (.lst xs))(hs:∀c o,H c=some o->c≠a->H' c=some o){x:V}{ys:List V}(h:Gn H x ys):Gn H' x ys:=by obtain⟨t,r,k,rfl,h1,h2⟩:=h;exact⟨t,r,k,rfl,hs _ _ h1 (λz=>by rw[z,ha]at h1;cases h1),hs _ _ h2 (λz=>by rw[z,ha]at h2;cases h2)⟩
theorem Gn.same{H H':Hp}(s:Same H H'){x:V}{ys:List V}(h:Gn H x ys):Gn H' x ys:=by obtain⟨t,r,k,rfl,h1,h2⟩:=h;exact⟨t,r,k,rfl,s _ _ h1,s _ _ h2⟩
theorem Rws.same{H H':Hp}{q:Nat->Addr}{L:List Ent}(s:Same H H')(h:Rws H q L):Rws H' q L:=λj hj=>by obtain⟨xs,e,p⟩:=h j hj;exact⟨xs,s _ _ e,Paired.mapP p λ_ _ z=>z.same s⟩
theorem Rws.app{H:Hp}{q:Nat->Addr}{L:List Ent}(h:Rws H q L)(inj:∀i j,i<=4->j<=4->q i=q j->i=j){e:Ent}(hj:e.1<=4){t r:Addr}{k:V}{xs:List V}(h1:H t=some (.tup [k,.ref r]))(h2:H r=some (.tup e.2))(hx:H (q e.1)=some (.lst xs)):Rws (upd H (q e.1) (.lst (xs++[.ref t]))) q (L++[e]):=λj hj'=>by
 obtain⟨ys,ey,p⟩:=h j hj';have keep:∀c o,H c=some o->c≠q e.1->upd H (q e.1) (.lst (xs++[.ref t])) c=some o:=λc o z hc=>by rw[Ze hc];exact z
 rw[JL,Ni];by_cases ej:e.1=j
 ·subst ej;rw[if_pos rfl];rw[hx]at ey;cases ey;refine⟨_,Zc,YF (Paired.mapP p λ_ _ z=>z.keep hx keep) (.cons ?_ .nil)⟩;exact Gn.keep hx keep ⟨t,r,k,rfl,h1,h2⟩
 ·rw[if_neg ej,List.append_nil];refine⟨ys,?_,Paired.mapP p λ_ _ z=>z.keep hx keep⟩;rw[Ze (λz=>ej (inj _ _ hj hj' z.symm)),ey]
end TX
namespace L2
open PySem PySem.Spec PyProof.Rows
noncomputable def KL(l:Addr):It:=⟨λi H=>∃xs,H l=some (.lst xs)/\i<xs.length,λi H x H'=>∃(T:Addr)(xs:List V)(y:V),H T=none/\H l=some (.lst xs)/\xs[i]?=some y/\x=.ref T/\H'=upd H T (.tup [.int i,y]),λi H=>∃xs,H l=some (.lst xs)/\i=xs.length⟩
theorem Qn{P:Program}{w:World}{K:PySem.W.Frag}{es:List Expr}{k:Nat}{pt:Pos}(l e it:Addr)(hei:e≠it)(hle:l≠e)(hli:l≠it):
  Turn P w K (.Tuple es k pt) (KL l) [e,it] e (λi h=>(∃old,IsEnum h e it i old)/\h.IsListIter it l i) where
 mem:=by simp
 obj:=λi h st b hb=>by
  obtain⟨⟨old,he⟩,o,ho,c,d⟩:=st
  have hb':b=e\/b=it:=by simpa using hb
  rcases hb' with rfl|rfl
  ·exact⟨_,he,λv z=>by cases z⟩
  ·exact⟨o,ho,λv z=>by rw[d]at z;cases z⟩
 keep:=λi h h' st kk=>by
  obtain⟨⟨old,he⟩,o,ho,r⟩:=st
  exact⟨⟨old,kk e (by simp) _ he⟩,o,kk it (by simp) o ho,r⟩
 item:=by
  intro X hP hw hK hc i pins s σ H E I hf st hg
  subst hP hw hK
  obtain⟨xs,hx,hi⟩:=hg
  obtain⟨⟨old,he⟩,hs⟩:=st
  obtain⟨its,rv,pl,_⟩:=I.list (SqL.of hx)
  have hlen:=rv.length
  have D:=Draws.list (prog:=X.prog) (w:=X.w) (A:=X.A.in1) (I.ok.hd hc) it l hli its.toArray
  have W:=WalksT.enumerateD D e hei (by simp[hei,Ne.symm hle]) (by simp)
  refine W.item i s _ _ (by simp only[List.size_toArray];omega) ⟨⟨old,he⟩,hs,pl.isList⟩ λT vals h' tk hv hT ht hm kk=>?_
  obtain⟨tk',u,hu,rfl⟩:=hv
  obtain⟨y,hy⟩:∃y,xs[i]?=some y:=⟨xs[i],List.getElem?_eq_getElem hi⟩
  obtain⟨u2,hu2,ru⟩:=rv.get hy
  have hu':its[i]?=some u:=by simpa using hu
  rw[hu']at hu2;cases hu2
  refine⟨_,rfl,?_⟩
  refine W.go es k pt i T {s with heap:=h',toks:=tk} _ _ hm λh2 st2 kk2=>?_
  have hTn:H T=none:=I.hok.fresh hT
  have hap:=W.apart i T h' hm
  have hb2:∀b,b∉[e,it]->∀o,s.heap.get? b=some o->h2.get? b=some o:=λb hb o q=>kk2 b o hb (kk b o hb q)
  have nb:∀b u,H b=some u->b∉[e,it]:=λb u q hb=>by rw[(hf b hb).1]at q;cases q
  have I1:Inv X pins σ (upd H T (.tup [.int i,y])) {s with heap:=h2,toks:=tk}:=by
   refine I.step (g':=s.gens) (d':=s.drawn) (ch:=[e,it]) (λb hb=>?_) (λb o _ _ hb q _=>hb2 b hb o q) (λb o _ _ hb q _=>⟨o.slots,hb2 b hb o q⟩)
    (λb o hb q n=>?_) (λb o hb q=>⟨o,hb2 b hb o q⟩) (λb xs q=>?_) (λb o u q=>?_) (λb ps q=>?_) (λm hm=>?_) ?_ I.bare
   ·obtain⟨g0,g1,g2,g3,g4,g5⟩:=hf b hb
    exact⟨g3,g1,g4,g5⟩
   ·rw[Ze (Nat.ne_of_lt (Nat.lt_of_lt_of_le (Heap.lt_size q) hT))];exact n
   ·rw[Ze (Zf q hTn)];exact q
   ·rw[Ze (Zf q hTn)];exact q
   ·exact⟨#[],by rw[Ze (Zf q hTn),q];simp⟩
   ·obtain⟨o,es',ep,ho,r⟩:=hm
    refine⟨o,es',ep,hb2 _ ?_ o ho,r⟩
    intro hb
    obtain⟨g0,g1,_⟩:=hf _ hb
    exact g1 rfl
   ·intro b ob q
    by_cases hb:b=T
    ·subst hb
     rw[Zc]at q
     cases q
     obtain⟨o,h1,h2',h3⟩:=ht
     exact⟨by show 2<=sizeLine;decide,[.int i tk',u],.cons ⟨_,rfl⟩ (.cons ru .nil),⟨o,kk2 _ _ hap h1,h2',h3⟩⟩
    ·rw[Ze hb]at q
     refine(I.hok b ob q).stay (λc' v hc' q'=>hb2 c' ?_ v q') (λc' q'=>by rw[Ze (Zf q' hTn)];exact q') λc' xs q'=>by rw[Ze (Zf q' hTn)];exact q'
     rcases hc' with rfl|hc'
     ·exact nb _ _ q
     ·exact nb _ _ hc'
  refine⟨.ref T,_,I1,rfl,⟨T,xs,y,hTn,hx,hy,rfl,rfl⟩,⟨st2.1,st2.2.1⟩,λb hb=>?_⟩
  rw[Ze]
  ·exact(hf b hb).1
  ·rintro rfl
   exact hap hb
 done:=by
  intro X hP hw hK hc i pins s σ H E I hf st hg
  subst hP hw hK
  obtain⟨xs,hx,hi⟩:=hg
  obtain⟨⟨old,he⟩,hs⟩:=st
  obtain⟨its,rv,pl,_⟩:=I.list (SqL.of hx)
  have hlen:=rv.length
  have D:=Draws.list (prog:=X.prog) (w:=X.w) (A:=X.A.in1) (I.ok.hd hc) it l hli its.toArray
  have W:=WalksT.enumerateD D e hei (by simp[hei,Ne.symm hle]) (by simp)
  have ei:i=its.toArray.size:=by simp only[List.size_toArray];omega
  subst ei
  refine W.done s _ _ ⟨⟨old,he⟩,hs,pl.isList⟩ λh' tk kk=>⟨rfl,?_⟩
  have nb:∀b u,H b=some u->b∉[e,it]:=λb u q hb=>by rw[(hf b hb).1]at q;cases q
  refine I.step (g':=s.gens) (d':=s.drawn) (ch:=[e,it]) (λb hb=>?_) (λb o _ _ hb q _=>kk b o hb q) (λb o _ _ hb q _=>⟨o.slots,kk b o hb q⟩)
   (λb o hb q n=>n) (λb o hb q=>⟨o,kk b o hb q⟩) (λb xs q=>q) (λb o u q=>q) (λb ps q=>⟨#[],by rw[q];simp⟩) (λm hm=>?_) (λb u q=>?_) I.bare
  ·obtain⟨g0,g1,g2,g3,g4,g5⟩:=hf b hb
   exact⟨g3,g1,g4,g5⟩
  ·obtain⟨o,es',ep,ho,r⟩:=hm
   refine⟨o,es',ep,kk _ o ?_ ho,r⟩
   intro hb
   obtain⟨g0,g1,_⟩:=hf _ hb
   exact g1 rfl
  ·refine(I.hok b u q).stay (λc' v hc' q'=>kk c' v ?_ q') (λ_ q'=>q') λ_ _ q'=>q'
   rcases hc' with rfl|hc'
   ·exact nb _ _ q
   ·exact nb _ _ hc'
 self:=λA i s Q E st h=>by
  obtain⟨⟨old,he⟩,_⟩:=st
  exact wpAny_pyIter_enum he h
section
variable {X:Cx}
noncomputable def iEnL(ta:TA):TI:=λσ H R=>ta σ H λvs H1=>∃(l:Addr)(xs:List V),vs=[.ref l]/\H1 l=some (.lst xs)/\R (KL l) H1
theorem WM{a:Expr}{ta:TA}{p pos pt:Pos}{es:List Expr}{k:Nat}(hg:Gl X "enumerate")(hm:X.mg "enumerate"=none)(ha:PA X [a] ta)(hb:bootBuiltins "enumerate"=some (.type "enumerate"))(hs:starEach [a] X.env=[(false,eval a X.env)]:=by rfl):PI X (.Tuple es k pt) (.Call (.Name "enumerate" p) [a] [] pos) (iEnL ta):=by
 intro pins s σ H R I h;refine Call_ (Jl I hg hm hb (PyProof.Rows.callWith_type1 (thn (ha pos pins s σ H _ I h) λus s1⟨vs,H1,I1,r1,q1⟩=>?_) hs rfl));obtain⟨l,xs,e,hx,q⟩:=q1;subst e;cases r1 with
|cons r rr=>
  cases rr;cases r;obtain⟨its,rv,pl,_⟩:=I1.list (SqL.of hx);refine call_enumerate_list pl.isList λh' he hst _ kk=>?_;have I2:Inv X pins σ H1 {s1 with heap:=h'}:=I1.kept (t':=s1.toks) kk;refine wpAny_pyIter_enum he ?_;have lt:l<s1.heap.objs.size:=I1.hok.lt hx;refine⟨s1.heap.objs.size+1,[s1.heap.objs.size+1,s1.heap.objs.size],_,_,H1,rfl,I2,Qn l (s1.heap.objs.size+1) s1.heap.objs.size (Nat.succ_ne_self _) (Nat.ne_of_lt (Nat.lt_succ_of_lt lt)) (Nat.ne_of_lt lt),⟨⟨_,he⟩,hst⟩,λb hb=>?_,q⟩;have e:b=s1.heap.objs.size+1\/b=s1.heap.objs.size:=by simpa using hb
  rcases e with e|e<;>subst e
  ·exact I1.fpOk (Nat.le_succ _) (I1.hok.fresh (Nat.le_succ _))
  ·exact I1.fpOk (Nat.le_refl _) (I1.hok.fresh (Nat.le_refl _))
end
theorem Pj{X:Cx}{pos:Pos}{x:Str}{j:Nat}{p p2:Pos}{ks:List (Option Expr)}{vs:List Expr}{trs:List (TE×TE)}(hr:PPs X pos ks vs trs):PPs X pos (some (.Constant (.str x) j p)::ks) (.List [] p2::vs) ((tC (.str x),tLst tNil)::trs):=WJ Zn (ZQ Zb) hr
end L2
namespace TX
open PySem L2 PySem.Spec PyProof.Rows TB WD
structure PartsP(K:PySem.W.Frag)(w:World)(mg:Str->Option Value)(aP:Addr):Prop where
 mg:mg "PARTS"=some (.ref aP)
 at_:∀j,j<=4->∀z∈headsOf j,Xg K w aP z (.str (pn j))
noncomputable def q5(a b c d e:Addr):Nat->Addr
|0=>a
|1=>b
|2=>c
|3=>d
|_=>e
noncomputable def D5(q:Nat->Addr):List (Key×V):=[(.inr "turns",.ref (q 0)),(.inr "places",.ref (q 1)),(.inr "rides",.ref (q 2)),(.inr "ways",.ref (q 3)),(.inr "groups",.ref (q 4))]
theorem KN(q:Nat->Addr):∀j,j<=4->valV (D5 q) (.inr (pn j))=some (.ref (q j)):=λj hj=>by rcases(by omega:j=0\/j=1\/j=2\/j=3\/j=4)with rfl|rfl|rfl|rfl|rfl<;>rfl
def Rv:Sp:=λvs H Q _=>∃(l:Addr)(L:List Ent),vs=[.ref l]/\H l=some (.lst (L.map λe=>V.str (line e)))/\(∀e∈L,EOk e)/\L.length<=1000 /\∀H' p q,Same H H'->H' p=some (.dK (D5 q))->Rws H' q L->Q (.ref p) H'
theorem pairs_len{α β:Type}{R:α->β->Prop}:∀{a:List α}{c:List β},Paired R a c->a.length=c.length
|_,_,.nil=>rfl
|_,_,.cons _ t=>by rw[List.length_cons,List.length_cons,pairs_len t]
theorem QN{e:Ent}(h:EOk e):(SP.length==0)=false/\(line e).length<=sizeLine/\(Txt.split (line e) SP).length<=sizeLine/\(Builtin.Str.partsBetween (line e) (Builtin.Str.occurrences (line e) SP 0 (line e).length ((line e).length+1)) SP.length).length<=sizeLine:=by have h1:=h.len;have h2:=h.sh;have h3:=h.split;refine⟨by decide +kernel,Nat.le_trans h1 (by decide),by rw[h3];exact Nat.le_trans h2 (by decide),?_⟩;exact Nat.le_trans (Po _ _) (Nat.le_trans (Nat.add_le_add_right h1 2) (by decide))
theorem five{H:Hp}{p q1 q2 q3 q4 qq:Addr}(hp:H p=none)(h1:upd H p (.dK []) q1=none)(h2:upd (upd H p (.dK [])) q1 (.lst []) q2=none)(h3:upd (upd (upd H p (.dK [])) q1 (.lst [])) q2 (.lst []) q3=none)(h4:upd (upd (upd (upd H p (.dK [])) q1 (.lst [])) q2 (.lst [])) q3 (.lst []) q4=none)(h5:upd (upd (upd (upd (upd H p (.dK [])) q1 (.lst [])) q2 (.lst [])) q3 (.lst [])) q4 (.lst []) qq=none):upd (upd (upd (upd (upd (upd H p (.dK [])) q1 (.lst [])) q2 (.lst [])) q3 (.lst [])) q4 (.lst [])) qq (.lst []) p=some (.dK []) /\Same H (upd (upd (upd (upd (upd (upd (upd H p (.dK [])) q1 (.lst [])) q2 (.lst [])) q3 (.lst [])) q4 (.lst [])) qq (.lst [])) p (.dK (D5 (q5 q1 q2 q3 q4 qq)))) /\upd (upd (upd (upd (upd (upd (upd H p (.dK [])) q1 (.lst [])) q2 (.lst [])) q3 (.lst [])) q4 (.lst [])) qq (.lst [])) p (.dK (D5 (q5 q1 q2 q3 q4 qq))) p=some (.dK (D5 (q5 q1 q2 q3 q4 qq))) /\Rws (upd (upd (upd (upd (upd (upd (upd H p (.dK [])) q1 (.lst [])) q2 (.lst [])) q3 (.lst [])) q4 (.lst [])) qq (.lst [])) p (.dK (D5 (q5 q1 q2 q3 q4 qq)))) (q5 q1 q2 q3 q4 qq) [] /\(∀i j,i<=4->j<=4->q5 q1 q2 q3 q4 qq i=q5 q1 q2 q3 q4 qq j->i=j)/\∀j,j<=4->H (q5 q1 q2 q3 q4 qq j)=none:=by
 have n0:=sameNew (o:=.dK []) (Same.refl H) hp;have e0:upd H p (.dK []) p=some (.dK []):=Zc;generalize upd H p (.dK [])=A0 at *;have n1:=sameNew (o:=.lst []) (Same.refl A0) h1;have e1:upd A0 q1 (.lst []) q1=some (.lst []):=Zc;generalize upd A0 q1 (.lst [])=A1 at *;have n2:=sameNew (o:=.lst []) (Same.refl A1) h2;have e2:upd A1 q2 (.lst []) q2=some (.lst []):=Zc;generalize upd A1 q2 (.lst [])=A2 at *;have n3:=sameNew (o:=.lst []) (Same.refl A2) h3;have e3:upd A2 q3 (.lst []) q3=some (.lst []):=Zc;generalize upd A2 q3 (.lst [])=A3 at *;have n4:=sameNew (o:=.lst []) (Same.refl A3) h4;have e4:upd A3 q4 (.lst []) q4=some (.lst []):=Zc;generalize upd A3 q4 (.lst [])=A4 at *;have n5:=sameNew (o:=.lst []) (Same.refl A4) h5;have e5:upd A4 qq (.lst []) qq=some (.lst []):=Zc;generalize upd A4 qq (.lst [])=A5 at *;have b4:=n5 _ _ e4;have b3:=n4 _ _ e3;have c3:=n5 _ _ b3;have b2:=n3 _ _ e2;have c2:=n4 _ _ b2;have d2:=n5 _ _ c2;have b1:=n2 _ _ e1;have c1:=n3 _ _ b1;have d1:=n4 _ _ c1;have f1:=n5 _ _ d1;have b0:=n1 _ _ e0;have c0:=n2 _ _ b0;have d0:=n3 _ _ c0;have f0:=n4 _ _ d0;have g0:=n5 _ _ f0;have S1:=n0.trans n1;have S2:=S1.trans n2;have S3:=S2.trans n3;have S4:=S3.trans n4;have S5:=S4.trans n5;have no:∀{X:Hp}{a:Addr},Same H X->X a=none->H a=none:=λ{X a}s h=>by
  cases e:H a with
 |none=>rfl
 |some o=>rw[s _ _ e]at h;cases h
 have x12:=Zf e1 h2;have x13:=Zf b1 h3;have x14:=Zf c1 h4;have x15:=Zf d1 h5;have x23:=Zf e2 h3;have x24:=Zf b2 h4;have x25:=Zf c2 h5;have x34:=Zf e3 h4;have x35:=Zf b3 h5;have x45:=Zf e4 h5;have lp:∀{a:Addr},A5 a=some (.lst [])->a≠p:=λh z=>by rw[z,g0]at h;cases h
 have lk:∀{a:Addr}{d:HO},A5 a=some (.lst [])->upd A5 p d a=some (.lst []):=λh=>by rw[Ze (lp h)];exact h
 refine⟨g0,λc u e=>by rw[Ze (Zf e hp)];exact S5 c u e,Zc,?_,?_,?_⟩
 ·intro j hj;rcases(by omega:j=0\/j=1\/j=2\/j=3\/j=4)with rfl|rfl|rfl|rfl|rfl
  ·exact⟨[],lk f1,.nil⟩
  ·exact⟨[],lk d2,.nil⟩
  ·exact⟨[],lk c3,.nil⟩
  ·exact⟨[],lk b4,.nil⟩
  ·exact⟨[],lk e5,.nil⟩
 ·intro i j hi hj h;rcases(by omega:i=0\/i=1\/i=2\/i=3\/i=4)with rfl|rfl|rfl|rfl|rfl<;>rcases(by omega:j=0\/j=1\/j=2\/j=3\/j=4)with rfl|rfl|rfl|rfl|rfl<;>simp only[q5]at h <;> first
   |rfl
   |exact absurd h x12
   |exact absurd h x13
   |exact absurd h x14
   |exact absurd h x15
   |exact absurd h x23
   |exact absurd h x24
   |exact absurd h x25
   |exact absurd h x34
   |exact absurd h x35
   |exact absurd h x45
   |exact absurd h.symm x12
   |exact absurd h.symm x13
   |exact absurd h.symm x14
   |exact absurd h.symm x15
   |exact absurd h.symm x23
   |exact absurd h.symm x24
   |exact absurd h.symm x25
   |exact absurd h.symm x34
   |exact absurd h.symm x35
   |exact absurd h.symm x45
 ·intro j hj;rcases(by omega:j=0\/j=1\/j=2\/j=3\/j=4)with rfl|rfl|rfl|rfl|rfl
  ·exact no n0 h1
  ·exact no S1 h2
  ·exact no S2 h3
  ·exact no S3 h4
  ·exact no S4 h5
section
variable {P:Program}{w:World}{K:PySem.W.Frag}{mg:Str->Option Value}{base:Heap}{aP:Addr}
theorem Yx:FnScope ["lines","rows_by_part","number","line","words","row"] ["lines"] (Zg T.f_read_rows):=scO (by decide +kernel)
theorem Tq(B:∀x∈Blts,mg x=none)(PP:PartsP K w mg aP)(CR:Can P w K mg base 4 "read_row" ["words"] Wl)(D:Df K mg "read_rows" T.f_read_rows ["lines"]):Can P w K mg base 5 "read_rows" ["lines"] Rv:=by
 refine D.can Yx (λvs H Q E h=>by obtain⟨l,L,rfl,_⟩:=h;rfl) λf cdv A outer s H vs Q E hr h=>?_;obtain⟨l,L,rfl,hl,hL,hn,k⟩:=h;refine' ⟨_,@Zd _ _ _ _ _ (@Yn _ _ 1 _ _ _ _ Yx.nd rfl (Or.inl rfl) ?he ?hs (Or.inl rfl)) (@Zd _ _ _ _ _ ?h2 (@Zk _ _ _ (Zq (pv 1)))),?rd⟩;case' he=>refine' @Lm _ _ _ _ _ ?hp rfl rfl (by simp) (by decide)
 case' hp=>refine' @Pj _ _ _ _ _ _ _ _ _ (@Pj _ _ _ _ _ _ _ _ _ (@Pj _ _ _ _ _ _ _ _ _ (@Pj _ _ _ _ _ _ _ _ _ (@Pj _ _ _ _ _ _ _ _ _ (@Lg _ _)))))
 case' hs=>rfl
 case' h2=>refine' (Y3 PassesOwn.never rfl (WM rfl (B _ (by decide +kernel)) (Za (pv 0) Zb) (by decide +kernel)) (YS rfl (Zp (Zo (i:=2) Yx.nd rfl (Or.inl rfl)) (Zp (Zo (i:=3) Yx.nd rfl (Or.inl rfl)) ZV))) (Zd (st 4 Yx.nd (Yq PySem.F.plainAttrs_str PySem.F.slot_str_split PySem.F.type_str_split Pw (pv 3) (Za Zn Zb))) (Zd (st 5 Yx.nd (cn CR hr (Za (pv 4) Zb))) (Zd (ZP (ZC UN (pv 5) ZR (ZD _)) Su Zx) (Zk (ZU (Yq PySem.F.plainAttrs_list PySem.F.slot_list_append PySem.F.type_list_append YA (YI (YO hr) (pv 1) (Gz (ZW (v:=.ref aP) rfl PP.mg rfl) (il K (pv 4) Zi) (λ_ _=>rfl)) (λ_ _=>rfl)) (Za (Ys (Za (pv 2) (Za (pv 5) Zb))) Zb))))))))
 refine λp hp=>⟨zl,λq1 h1=>⟨zl,λq2 h2=>⟨zl,λq3 h3=>⟨zl,λq4 h4=>⟨zl,λqq h5=>?_⟩⟩⟩⟩⟩;obtain⟨np,SS,hD,hR,hinj,hno⟩:=five hp h1 h2 h3 h4 h5;refine⟨np,D5 (q5 q1 q2 q3 q4 qq),rfl,Nat.le_of_ble_eq_true rfl,?_⟩;generalize q5 q1 q2 q3 q4 qq=q at hD hR hinj hno SS ⊢;generalize upd (upd (upd (upd (upd (upd H p (.dK [])) q1 (.lst [])) q2 (.lst [])) q3 (.lst [])) q4 (.lst [])) qq (.lst [])=A5 at hD hR hno SS ⊢;have em:UP [] (D5 q)=D5 q:=rfl;rw[em];generalize upd A5 p (.dK (D5 q))=H1 at hD hR SS ⊢;clear em h1 h2 h3 h4 h5 np;refine⟨_,rfl,l,_,rfl,SS _ _ hl,?_⟩;refine XY (J:=KL l) L.length (λi σ H'=>i<=L.length/\Same H H'/\H' p=some (.dK (D5 q))/\Rws H' q (L.take i)/\∃a b c d,σ=[some (.ref l),some (.ref p),a,b,c,d]) ⟨Nat.zero_le _,SS,hD,hR,none,none,none,none,rfl⟩ (λi σ H' hi p=>⟨_,p.2.1 _ _ hl,by rw[List.length_map];exact hi⟩) (λσ H' p=>⟨_,p.2.1 _ _ hl,by rw[List.length_map]⟩) (λi σ H' x H2 hi pp yl=>?_) (λσ H' pp=>?_)
 ·obtain⟨_,S3,hD3,hR3,a,b,c,d,rfl⟩:=pp;obtain⟨Tt,ys,y,hT,hy,gy,rfl,rfl⟩:=yl;rw[S3 _ _ hl]at hy;cases hy;rw[List.getElem?_map,List.getElem?_eq_getElem hi]at gy;cases gy;have he:EOk L[i]:=hL _ (List.getElem_mem hi);generalize hLi:L[i]=e at he ⊢;have SN:=sameNew (o:=.tup [.int (i:Nat),.str (line e)]) (Same.refl H') hT;have eT:upd H' Tt (.tup [.int (i:Nat),.str (line e)]) Tt=some (.tup [.int (i:Nat),.str (line e)]):=Zc;generalize upd H' Tt (.tup [.int (i:Nat),.str (line e)])=H4 at SN eT ⊢;refine⟨Tt,_,rfl,SqT.of eT,rfl,_,_,rfl,_,_,rfl,rfl,?_⟩;obtain⟨c1,c2,c3,c4⟩:=QN he;refine⟨_,rfl,rfl,_,_,rfl,rfl,c1,c2,c3,c4,λw1 hw1=>?_⟩;have es:Txt.split (line e) (Str.ofString " ")=wE e:=he.split;dsimp only;rw[es];refine nl2 hw1 λH5 S5 e5=>?_;refine⟨_,rfl,w1,wE e,e.2,rfl,e5,he.pa,λz hz=>Nat.le_trans (he.wd z hz).2.2 (by decide),Nat.le_trans he.sh (by decide),λH6 rq S6 e6=>?_⟩;refine⟨_,rfl,rfl,_,rfl,iteF ?_⟩;have S36:=(SN.trans S5).trans S6;have hD6:=S36 _ _ hD3;obtain⟨z,r,ez,hz⟩:=he.hd;have e5':=S6 _ _ e5;rw[ez]at e5';refine⟨_,rfl,_,rfl,w1,_,0,_,rfl,rfl,SqL.of e5',Zr (j:=0) rfl,aP,z,.str (pn e.1),rfl,rfl,PP.at_ _ he.j z hz,p,.ref (q e.1),rfl,by rw[<-KN q _ he.j];exact DGet.k (k:=.inr (pn e.1)) (S36 _ _ hD3),?_⟩;obtain⟨xs,hxs,hpr⟩:=(hR3.same S36) e.1 he.j;refine⟨.inl ⟨rfl,xs,SqL.of hxs⟩,_,rfl,_,rfl,zl,λtp htp=>?_⟩;dsimp only;have S7:=sameNew (o:=.tup [.int (i:Nat),.ref rq]) (Same.refl H6) htp;have e7:upd H6 tp (.tup [.int (i:Nat),.ref rq]) tp=some (.tup [.int (i:Nat),.ref rq]):=Zc;generalize upd H6 tp (.tup [.int (i:Nat),.ref rq])=H7 at S7 e7 ⊢;have S37:=S36.trans S7;have hle:xs.length<sizeLine:=by rw[pairs_len hpr];refine Z4 (Nat.le_trans ?_ hn);unfold sel;rw[List.length_map];exact Nat.le_trans (List.length_filter_le _ _) (by rw[List.length_take];omega)
  refine⟨q e.1,xs,_,rfl,rfl,S7 _ _ hxs,hle,hi,?_,?_,?_,_,_,_,_,rfl⟩
  ·intro c u ec;rw[Ze (Zf ec (hno _ he.j))];exact S37 _ _ (S3 _ _ ec)
  ·rw[Ze (λz=>by rw[z,hxs]at hD6;cases hD6)];exact S37 _ _ hD3
  ·have:=(hR3.same S37).app hinj he.j e7 (S7 _ _ e6) (S7 _ _ hxs);rw[List.take_succ,List.getElem?_eq_getElem hi,hLi];exact this
 ·obtain⟨_,S3,hD3,hR3,a,b,c,d,rfl⟩:=pp;rw[List.take_length]at hR3;exact⟨_,rfl,k _ _ _ S3 hD3 hR3⟩
end
end TX
namespace L2
open PySem PySem.Spec PyProof.Rows
theorem Kc{X:Cx}{hs:List ExceptHandler}:Hd X hs hNil:=λ_ _ _ _ _ _ _ _ _ _ _ _ h=>False.elim h
end L2
namespace TX
open PySem L2 PySem.Spec PyProof.Rows TB WD
def Rl(H:Hp)(y:V)(r:List V):Prop:=∃p,y=.ref p/\H p=some (.tup r)
theorem Rl.same{H H':Hp}(s:Same H H'){y:V}{r:List V}(h:Rl H y r):Rl H' y r:=by obtain⟨p,e,h⟩:=h;exact⟨p,e,s _ _ h⟩
theorem pairs_get{α β:Type}{R:α->β->Prop}:∀{a:List α}{c:List β},Paired R a c->∀{i:Nat}{x:α}{y:β},a[i]?=some x->c[i]?=some y->R x y
|_,_,.nil,_,_,_,h,_=>by cases h
|_,_,.cons h t,0,_,_,e1,e2=>by cases e1;cases e2;exact h
|_,_,.cons h t,i+1,_,_,e1,e2=>pairs_get t (by simpa using e1) (by simpa using e2)
theorem Gx{H:Hp}{us:List V}{rows:List (List V)}(h:Paired (Rl H) us rows)(hf:∀ys∈rows,∀y∈ys,Flat y):Ym H us (rows.map some):=by
 refine⟨by rw[pairs_len h,List.length_map],λi x r e1 e2=>?_⟩;rw[List.getElem?_map]at e2;cases e:rows[i]? with
|none=>rw[e]at e2;cases e2
|some ys=>rw[e]at e2;cases e2;obtain⟨p,rfl,hp⟩:=pairs_get h e1 e;exact⟨p,rfl,hp,λy hy=>NF (hf ys (List.mem_of_getElem? e) y hy)⟩
theorem XN{H:Hp}{c:Addr}{us:List V}{rows:List (List V)}(e:H c=some (.lst us))(b:Ym H us (rows.map some)):Xf H (.ref c) (prs us rows):=⟨⟨c,rfl,.inl e⟩,b⟩
structure TbL(T:Tb)(L:List Ent):Prop where
 n:sel 0 L=[[.int T.n]]
 p:∀j,isJ j->sel j L=T.part j
def Wm(C:Addr):Sp:=λvs H Q _=>∃(p:Addr)(q:Nat->Addr)(L:List Ent)(T:Tb),vs=[.ref p]/\H p=some (.dK (D5 q))/\Rws H q L/\TbL T L/\OkTb T/\∀H' x,Same H H'->Tel H' C x T->Q (.ref x) H'
section
variable {P:Program}{w:World}{K:PySem.W.Frag}{mg:Str->Option Value}{base:Heap}{C Cb:Addr}
theorem Yr:FnScope ["rows_by_part","turns","places","rides","ways","groups","refused","at"] ["rows_by_part"] (Zg T.f_made_table):=scO (by decide +kernel)
noncomputable def Xd:Scope:={kind:=.function,names:=[(Str.ofString ".0",.local),(Str.ofString "number",.local),(Str.ofString "row",.local)],isGenerator:=false,isCoroutine:=false,more:=[]}
theorem Vt:CompScope Xd (Zg T.f_made_table):=⟨rfl,by decide +kernel,by decide +kernel,by decide +kernel⟩
theorem Xp:(["number","row"]:List Str).Nodup:=by decide +kernel
theorem Vu:CompNames ["rows_by_part","turns","places","rides","ways","groups","refused","at"] Xd ["number","row"] [none,none]:=.mk' (by decide +kernel)
noncomputable def Xb:Scope:={kind:=.function,names:=[(Str.ofString ".0",.local),(Str.ofString "number",.local),(Str.ofString "row",.local)],isGenerator:=false,isCoroutine:=false,more:=[]}
theorem Vr:CompScope Xb (Zg T.f_made_table):=⟨rfl,by decide +kernel,by decide +kernel,by decide +kernel⟩
theorem Xo:(["number","row"]:List Str).Nodup:=by decide +kernel
theorem Vs:CompNames ["rows_by_part","turns","places","rides","ways","groups","refused","at"] Xb ["number","row"] [none,none]:=.mk' (by decide +kernel)
noncomputable def Xa:Scope:={kind:=.function,names:=[(Str.ofString ".0",.local),(Str.ofString "number",.local),(Str.ofString "row",.local)],isGenerator:=false,isCoroutine:=false,more:=[]}
theorem Vp:CompScope Xa (Zg T.f_made_table):=⟨rfl,by decide +kernel,by decide +kernel,by decide +kernel⟩
theorem Xn:(["number","row"]:List Str).Nodup:=by decide +kernel
theorem Vq:CompNames ["rows_by_part","turns","places","rides","ways","groups","refused","at"] Xa ["number","row"] [none,none]:=.mk' (by decide +kernel)
noncomputable def Y9:Scope:={kind:=.function,names:=[(Str.ofString ".0",.local),(Str.ofString "number",.local),(Str.ofString "row",.local)],isGenerator:=false,isCoroutine:=false,more:=[]}
theorem Vn:CompScope Y9 (Zg T.f_made_table):=⟨rfl,by decide +kernel,by decide +kernel,by decide +kernel⟩
theorem Xm:(["number","row"]:List Str).Nodup:=by decide +kernel
theorem Vo:CompNames ["rows_by_part","turns","places","rides","ways","groups","refused","at"] Y9 ["number","row"] [none,none]:=.mk' (by decide +kernel)
theorem Kw(M:TMk P w K mg base C Cb)(D:Df K mg "made_table" T.f_made_table ["rows_by_part"]):Can P w K mg base 9 "made_table" ["rows_by_part"] (Wm C):=by
 obtain⟨fm,fdm,hM,FM,bM⟩:=M.made;refine D.can Yr (λvs H Q E h=>by obtain⟨p,q,L,T,rfl,_⟩:=h;rfl) λf cdv A outer s H vs Q E hr h=>?_;obtain⟨p,q,L,T,rfl,hp,hR,tl,ok,k⟩:=h;obtain⟨x0,h0,p0⟩:=hR 0 (by decide);obtain⟨x1,h1,p1⟩:=hR 1 (by decide);obtain⟨x2,h2,p2⟩:=hR 2 (by decide);obtain⟨x3,h3,p3⟩:=hR 3 (by decide);obtain⟨x4,h4,p4⟩:=hR 4 (by decide);rw[tl.n]at p0;rw[tl.p 1 (.inl rfl)]at p1;rw[tl.p 2 (.inr (.inl rfl))]at p2;rw[tl.p 3 (.inr (.inr (.inl rfl)))]at p3;rw[tl.p 4 (.inr (.inr (.inr rfl)))]at p4;have hl1:(T.part 1).length<=1000:=Nat.le_trans (ok.part 1 (.inl rfl)).1 (by decide);have hl2:(T.part 2).length<=1000:=Nat.le_trans (ok.part 2 (.inr (.inl rfl))).1 (by decide);have hl3:(T.part 3).length<=1000:=Nat.le_trans (ok.part 3 (.inr (.inr (.inl rfl)))).1 (by decide);have hl4:(T.part 4).length<=1000:=Nat.le_trans (ok.part 4 (.inr (.inr (.inr rfl)))).1 (by decide);have dg:∀{H':Hp},Same H H'->∀j,j<=4->DGet H' p (.str (pn j)) (some (.ref (q j))):=λs j hj=>by rw[<-KN q j hj];exact DGet.k (k:=.inr (pn j)) (s _ _ hp)
 refine⟨_,(Zd (st 1 Yr.nd (it K (it K (il K (YI (YO hr) (pv 0) Zn (λ_ _=>rfl)) Zi) Zi) Zi)) (Zd (Yy (i:=2) Yr.nd rfl (Or.inl rfl) (scope:=Xd) (N:=["number","row"]) (cp:=[none,none]) rfl Vt Vu (Yc (YI (YO hr) (pv 0) Zn (λ_ _=>rfl))) (λC s H ex pn=>(Jj (K:=K) (n:=2) rfl rfl (Zp (Zo (i:=0) Xp rfl (Or.inl rfl)) (Zp (Zo (i:=1) Xp rfl (Or.inl rfl)) ZV)))) (λC s H ex pn=>ZO) (λC s H ex pn=>(pv 1))) (Zd (Yy (i:=3) Yr.nd rfl (Or.inl rfl) (scope:=Xb) (N:=["number","row"]) (cp:=[none,none]) rfl Vr Vs (Yc (YI (YO hr) (pv 0) Zn (λ_ _=>rfl))) (λC s H ex pn=>(Jj (K:=K) (n:=2) rfl rfl (Zp (Zo (i:=0) Xo rfl (Or.inl rfl)) (Zp (Zo (i:=1) Xo rfl (Or.inl rfl)) ZV)))) (λC s H ex pn=>ZO) (λC s H ex pn=>(pv 1))) (Zd (Yy (i:=4) Yr.nd rfl (Or.inl rfl) (scope:=Xa) (N:=["number","row"]) (cp:=[none,none]) rfl Vp Vq (Yc (YI (YO hr) (pv 0) Zn (λ_ _=>rfl))) (λC s H ex pn=>(Jj (K:=K) (n:=2) rfl rfl (Zp (Zo (i:=0) Xn rfl (Or.inl rfl)) (Zp (Zo (i:=1) Xn rfl (Or.inl rfl)) ZV)))) (λC s H ex pn=>ZO) (λC s H ex pn=>(pv 1))) (Zd (Yy (i:=5) Yr.nd rfl (Or.inl rfl) (scope:=Y9) (N:=["number","row"]) (cp:=[none,none]) rfl Vn Vo (Yc (YI (YO hr) (pv 0) Zn (λ_ _=>rfl))) (λC s H ex pn=>(Jj (K:=K) (n:=2) rfl rfl (Zp (Zo (i:=0) Xm rfl (Or.inl rfl)) (Zp (Zo (i:=1) Xm rfl (Or.inl rfl)) ZV)))) (λC s H ex pn=>ZO) (λC s H ex pn=>(pv 1))) (Zk (DJ ⟨rfl,rfl⟩ (λE' pn' pp E hp=>Zk (Zq (QG hM FM hr rfl M.mg bM .nil hp (Za (pv 1) (Za (pv 2) (Za (pv 3) (Za (pv 4) (Za (pv 5) Zb)))))))) Kc))))))),?_⟩;cases p0 with
|cons r0 rt=>
 cases rt;obtain⟨t0,r0',k0,rfl,g1,g2⟩:=r0;refine⟨_,rfl,p,_,rfl,dg (Same.refl _) 0 (by decide),_,_,0,_,rfl,rfl,SqL.of h0,Zr (j:=0) rfl,t0,_,1,_,rfl,rfl,SqT.of g1,Zr (j:=1) rfl,r0',_,0,_,rfl,rfl,SqT.of g2,Zr (j:=0) rfl,?_⟩;have S0:Same H H:=Same.refl H;refine⟨_,rfl,p,_,rfl,dg S0 1 (by decide),_,rfl,⟨_,SqL.of (S0 _ _ h1)⟩,?_⟩;refine ZF (J:=Itl K (q 1)) (T.part 1).length (Nat.le_trans hl1 (by decide)) (λi us τ H'=>H'=H/\Paired (Rl H) us ((T.part 1).take i)/\∃v1 v2,τ=[v1,v2]) ⟨rfl,.nil,none,none,rfl⟩ (λi us τ H' p=>by rw[pairs_len p.2.1,List.length_take];omega) (λi us τ H' hi p=>?_) (λus τ H' p=>?_) (λi us τ H' x H2 hi p yl=>?_) (λus τ H' p c1 hc1=>?_)
 ·obtain⟨rfl,_⟩:=p;exact⟨_,x1[i]'(by rw[pairs_len p1];exact hi),SqL.of (S0 _ _ h1),List.getElem?_eq_getElem _⟩
 ·obtain⟨rfl,_⟩:=p;exact⟨_,SqL.of (S0 _ _ h1),by rw[pairs_len p1];exact Nat.le_refl _⟩
 ·obtain⟨rfl,pu,v1,v2,rfl⟩:=p;obtain⟨rfl,hy⟩:=yl;have hx:=hy _ (SqL.of (S0 _ _ h1));obtain⟨t,r,kk,rfl,a1,a2⟩:=pairs_get p1 hx (List.getElem?_eq_getElem hi);refine⟨t,_,rfl,SqT.of (S0 _ _ a1),rfl,_,_,rfl,_,_,rfl,rfl,_,rfl,rfl,?_,_,_,rfl⟩;rw[List.take_succ,List.getElem?_eq_getElem hi];exact YF pu (.cons ⟨r,rfl,S0 _ _ a2⟩ .nil)
 obtain⟨rfl,u1,v1,v2,rfl⟩:=p;rw[List.take_length]at u1;have N1:=sameNew (o:=.lst us) (Same.refl H') hc1;have e1:upd H' c1 (.lst us) c1=some (.lst us):=Zc;generalize upd H' c1 (.lst us)=H1 at N1 e1 ⊢;have S1:=S0.trans N1;refine⟨_,rfl,p,_,rfl,dg S1 2 (by decide),_,rfl,⟨_,SqL.of (S1 _ _ h2)⟩,?_⟩;refine ZF (J:=Itl K (q 2)) (T.part 2).length (Nat.le_trans hl2 (by decide)) (λi us τ H'=>H'=H1/\Paired (Rl H1) us ((T.part 2).take i)/\∃v1 v2,τ=[v1,v2]) ⟨rfl,.nil,none,none,rfl⟩ (λi us τ H' p=>by rw[pairs_len p.2.1,List.length_take];omega) (λi us τ H' hi p=>?_) (λus τ H' p=>?_) (λi us τ H' x H2 hi p yl=>?_) (λus τ H' p c2 hc2=>?_)
 ·obtain⟨rfl,_⟩:=p;exact⟨_,x2[i]'(by rw[pairs_len p2];exact hi),SqL.of (S1 _ _ h2),List.getElem?_eq_getElem _⟩
 ·obtain⟨rfl,_⟩:=p;exact⟨_,SqL.of (S1 _ _ h2),by rw[pairs_len p2];exact Nat.le_refl _⟩
 ·obtain⟨rfl,pu,v1,v2,rfl⟩:=p;obtain⟨rfl,hy⟩:=yl;have hx:=hy _ (SqL.of (S1 _ _ h2));obtain⟨t,r,kk,rfl,a1,a2⟩:=pairs_get p2 hx (List.getElem?_eq_getElem hi);refine⟨t,_,rfl,SqT.of (S1 _ _ a1),rfl,_,_,rfl,_,_,rfl,rfl,_,rfl,rfl,?_,_,_,rfl⟩;rw[List.take_succ,List.getElem?_eq_getElem hi];exact YF pu (.cons ⟨r,rfl,S1 _ _ a2⟩ .nil)
 obtain⟨rfl,u2,v1,v2,rfl⟩:=p;rw[List.take_length]at u2;have N2:=sameNew (o:=.lst us) (Same.refl H') hc2;have e2:upd H' c2 (.lst us) c2=some (.lst us):=Zc;generalize upd H' c2 (.lst us)=H2 at N2 e2 ⊢;have S2:=S1.trans N2;refine⟨_,rfl,p,_,rfl,dg S2 3 (by decide),_,rfl,⟨_,SqL.of (S2 _ _ h3)⟩,?_⟩;refine ZF (J:=Itl K (q 3)) (T.part 3).length (Nat.le_trans hl3 (by decide)) (λi us τ H'=>H'=H2/\Paired (Rl H2) us ((T.part 3).take i)/\∃v1 v2,τ=[v1,v2]) ⟨rfl,.nil,none,none,rfl⟩ (λi us τ H' p=>by rw[pairs_len p.2.1,List.length_take];omega) (λi us τ H' hi p=>?_) (λus τ H' p=>?_) (λi us τ H' x H2 hi p yl=>?_) (λus τ H' p c3 hc3=>?_)
 ·obtain⟨rfl,_⟩:=p;exact⟨_,x3[i]'(by rw[pairs_len p3];exact hi),SqL.of (S2 _ _ h3),List.getElem?_eq_getElem _⟩
 ·obtain⟨rfl,_⟩:=p;exact⟨_,SqL.of (S2 _ _ h3),by rw[pairs_len p3];exact Nat.le_refl _⟩
 ·obtain⟨rfl,pu,v1,v2,rfl⟩:=p;obtain⟨rfl,hy⟩:=yl;have hx:=hy _ (SqL.of (S2 _ _ h3));obtain⟨t,r,kk,rfl,a1,a2⟩:=pairs_get p3 hx (List.getElem?_eq_getElem hi);refine⟨t,_,rfl,SqT.of (S2 _ _ a1),rfl,_,_,rfl,_,_,rfl,rfl,_,rfl,rfl,?_,_,_,rfl⟩;rw[List.take_succ,List.getElem?_eq_getElem hi];exact YF pu (.cons ⟨r,rfl,S2 _ _ a2⟩ .nil)
 obtain⟨rfl,u3,v1,v2,rfl⟩:=p;rw[List.take_length]at u3;have N3:=sameNew (o:=.lst us) (Same.refl H') hc3;have e3:upd H' c3 (.lst us) c3=some (.lst us):=Zc;generalize upd H' c3 (.lst us)=H3 at N3 e3 ⊢;have S3:=S2.trans N3;refine⟨_,rfl,p,_,rfl,dg S3 4 (by decide),_,rfl,⟨_,SqL.of (S3 _ _ h4)⟩,?_⟩;refine ZF (J:=Itl K (q 4)) (T.part 4).length (Nat.le_trans hl4 (by decide)) (λi us τ H'=>H'=H3/\Paired (Rl H3) us ((T.part 4).take i)/\∃v1 v2,τ=[v1,v2]) ⟨rfl,.nil,none,none,rfl⟩ (λi us τ H' p=>by rw[pairs_len p.2.1,List.length_take];omega) (λi us τ H' hi p=>?_) (λus τ H' p=>?_) (λi us τ H' x H2 hi p yl=>?_) (λus τ H' p c4 hc4=>?_)
 ·obtain⟨rfl,_⟩:=p;exact⟨_,x4[i]'(by rw[pairs_len p4];exact hi),SqL.of (S3 _ _ h4),List.getElem?_eq_getElem _⟩
 ·obtain⟨rfl,_⟩:=p;exact⟨_,SqL.of (S3 _ _ h4),by rw[pairs_len p4];exact Nat.le_refl _⟩
 ·obtain⟨rfl,pu,v1,v2,rfl⟩:=p;obtain⟨rfl,hy⟩:=yl;have hx:=hy _ (SqL.of (S3 _ _ h4));obtain⟨t,r,kk,rfl,a1,a2⟩:=pairs_get p4 hx (List.getElem?_eq_getElem hi);refine⟨t,_,rfl,SqT.of (S3 _ _ a1),rfl,_,_,rfl,_,_,rfl,rfl,_,rfl,rfl,?_,_,_,rfl⟩;rw[List.take_succ,List.getElem?_eq_getElem hi];exact YF pu (.cons ⟨r,rfl,S3 _ _ a2⟩ .nil)
 obtain⟨rfl,u4,v1,v2,rfl⟩:=p;rw[List.take_length]at u4;have N4:=sameNew (o:=.lst us) (Same.refl H') hc4;have e4:upd H' c4 (.lst us) c4=some (.lst us):=Zc;generalize upd H' c4 (.lst us)=H4 at N4 e4 ⊢;have S4:=S3.trans N4;refine⟨λ_ _ _=>False,?_,λ_ _ _ z=>z.elim⟩;refine⟨rfl,_,rfl,_,rfl,_,rfl,_,rfl,_,rfl,?_⟩;have S14:=(N2.trans N3).trans N4;have S24:=N3.trans N4;have b1:=Gx (Paired.mapP u1 λ_ _ z=>(z.same N1).same S14) λys hy=>ok.flat (j:=1) (.inl rfl) ys hy;have b2:=Gx (Paired.mapP u2 λ_ _ z=>(z.same N2).same S24) λys hy=>ok.flat (j:=2) (.inr (.inl rfl)) ys hy;have b3:=Gx (Paired.mapP u3 λ_ _ z=>(z.same N3).same N4) λys hy=>ok.flat (j:=3) (.inr (.inr (.inl rfl))) ys hy;have b4:=Gx (Paired.mapP u4 λ_ _ z=>z.same N4) λys hy=>ok.flat (j:=4) (.inr (.inr (.inr rfl))) ys hy;refine Pz (T:="int") (.int _) (XN (S14 _ _ e1) b1) (XN (S24 _ _ e2) b2) (XN (N4 _ _ e3) b3) (XN e4 b4) ?_;exact PF ok b1 b2 b3 b4 λH' x s _ tel=>k H' x (S4.trans s) tel
noncomputable def text(L:List Ent):Str:=Txt.join NL (L.map line)
theorem Qo{L:List Ent}(h:∀e∈L,EOk e)(hn:L≠[]):Txt.split (text L) NL=L.map line:=GW (by simpa using hn) λz hz=>by obtain⟨e,he,rfl⟩:=List.mem_map.mp hz;exact(h e he).nl
theorem text_len{L:List Ent}(h:∀e∈L,EOk e)(hl:L.length<=1000):(text L).length<=131000:=by
 have h1:=PJ 10 (L.map line);have h3:((L.map line).map (·.length)).sum<=((L.map line).map (·.length)).length*130:=GR λx hx=>by obtain⟨w,hw,rfl⟩:=List.mem_map.mp hx;obtain⟨e,he,rfl⟩:=List.mem_map.mp hw;exact(h e he).len
 rw[List.length_map,List.length_map]at h3;rw[List.length_map]at h1;show(Txt.join ⟨#[10]⟩ (L.map line)).length<=131000;omega
def Wk(C:Addr):Sp:=λvs H Q _=>∃(L:List Ent)(T:Tb),vs=[.str (text L)]/\(∀e∈L,EOk e)/\L.length<=1000/\TbL T L/\OkTb T/\∀H' x,Same H H'->Tel H' C x T->Q (.ref x) H'
theorem YW:FnScope ["text","lines","rows_by_part","turns"] ["text"] (Zg T.f_read_table):=scO (by decide +kernel)
theorem Kp(B:∀x∈Blts,mg x=none)(CR:Can P w K mg base 5 "read_rows" ["lines"] Rv)(CM:Can P w K mg base 9 "made_table" ["rows_by_part"] (Wm C))(D:Df K mg "read_table" T.f_read_table ["text"]):Can P w K mg base 10 "read_table" ["text"] (Wk C):=by
 refine D.can YW (λvs H Q E h=>by obtain⟨L,T,rfl,_⟩:=h;rfl) λf cdv A outer s H vs Q E hr h=>?_;obtain⟨L,T,rfl,hL,hl,tl,ok,k⟩:=h;refine⟨_,(Zd (ZP (Ye (Z0 (UL (c:="str") (pv 0) rfl (B _ (by decide +kernel)) rfl (B _ (by decide +kernel)) YV))) (Zk G7) Zx) (Zd (st 1 YW.nd (Yq PySem.F.plainAttrs_str PySem.F.slot_str_split PySem.F.type_str_split Pw (pv 0) (Za Zn Zb))) (Zd (st 2 YW.nd (cn CR hr (Za (pv 1) Zb))) (Zd (st 3 YW.nd (YI (YO hr) (pv 2) Zn (λ_ _=>rfl))) (Zd (ZP (ZC Xl (ZI (r:=rLen K) Yg rfl (B _ (by decide +kernel)) PySem.boot_len (Za (pv 3) Zb)) Zi (ZD _)) (Zk G7) Zx) (Zd (ZP (ZC RK (ZI (r:=rLen K) Yg rfl (B _ (by decide +kernel)) PySem.boot_len (Za (pv 3) Zb)) Zi (ZD _)) (Zk G7) Zx) (Zk (Zq (cn CM hr (Za (pv 2) Zb)))))))))),?_⟩;have hne:L≠[]:=λe=>by have:=tl.n;rw[e]at this;cases this
 have es:=Qo hL hne;have h1:=text_len hL hl;refine⟨_,rfl,_,_,_,_,rfl,.str _,W6 K,_,rfl,iteF ?_⟩;refine⟨_,rfl,rfl,_,_,rfl,rfl,by decide +kernel,Nat.le_trans h1 (by decide),by rw[show(Str.ofString "\n":Str)=NL from RN,es,List.length_map];exact Nat.le_trans hl (by decide),Nat.le_trans (Po _ _) (Nat.le_trans (Nat.add_le_add_right h1 2) (by decide)),λl0 hl0=>?_⟩;dsimp only;rw[show(Str.ofString "\n":Str)=NL from RN,es];refine nl2 hl0 λH1 S1 e1=>?_;rw[List.map_map]at e1;refine⟨_,rfl,l0,L,rfl,e1,hL,hl,λH2 p q S2 hp hR=>?_⟩;obtain⟨x0,h0,p0⟩:=hR 0 (by decide);rw[tl.n]at p0;have lx:x0.length=1:=pairs_len p0;refine⟨_,rfl,p,_,rfl,by rw[<-KN q 0 (by decide)];exact DGet.k (k:=.inr (pn 0)) hp,?_⟩;refine⟨_,rfl,q 0,_,rfl,.inl (SqL.of h0),rfl,_,rfl,?_⟩;rw[lx];refine iteF ?_;refine⟨_,rfl,q 0,_,rfl,.inl (SqL.of h0),_,_,rfl,rfl,_,rfl,?_⟩;rw[lx];refine iteF ?_;exact⟨_,rfl,p,q,L,T,rfl,hp,hR,tl,ok,λH' x s tel=>k H' x ((S1.trans S2).trans s) tel⟩
end
end TX
namespace L2
open PySem PySem.Spec PyProof.Rows
section
variable {X:Cx}{tg:Expr}
noncomputable def E8(K:PySem.W.Frag)(tl:TE):TI:=λσ H R=>tl σ H λx H1=>∃a,x=.ref a/\(((∃xs,SqL K H1 a xs)/\R (Itl K a) H1)\/((∃xs,SqT K H1 a xs)/\R (Itt K a) H1))
theorem Lj{l:Expr}{tl:TE}(hl:PE X l tl):PI X tg l (E8 X.K tl):=by
 intro pins s σ H R I h;refine thn (hl pins s σ H _ I h) λv s1⟨x,H1,I1,r1,q1⟩=>?_;obtain⟨a,e,⟨⟨xs,hq⟩,q⟩|⟨⟨xs,hq⟩,q⟩⟩:=q1
 ·subst e;cases r1;obtain⟨its,rv,p,hz⟩:=I1.list hq;refine wpAny_pyIter_list p.isList ?_;refine⟨s1.heap.objs.size,[s1.heap.objs.size],_,_,H1,rfl,I1.kept (t':=s1.toks) λb o e=>Heap.get?_push_of_some _ e,MG a _,⟨_,Heap.get?_push_size _ rfl,rfl,rfl⟩,λb hb=>?_,q⟩;have e:b=s1.heap.objs.size:=by simpa using hb
  subst e;exact I1.fpOk (Nat.le_refl _) (I1.hok.fresh (Nat.le_refl _))
 ·subst e;cases r1;obtain⟨its,rv,p,hz⟩:=I1.tuple hq;refine wpAny_pyIter_tuple (show s1.heap.IsTuple a its.toArray from p) ?_;refine⟨s1.heap.objs.size,[s1.heap.objs.size],_,_,H1,rfl,I1.kept (t':=s1.toks) λb o e=>Heap.get?_push_of_some _ e,GP a _,⟨_,Heap.get?_push_size _ rfl,rfl,rfl⟩,λb hb=>?_,q⟩;have e:b=s1.heap.objs.size:=by simpa using hb
  subst e;exact I1.fpOk (Nat.le_refl _) (I1.hok.fresh (Nat.le_refl _))
theorem NH:YM X (.type "str") (λxs H Q=>(∃i,xs=[.int i]/\i.natAbs.log2<1920/\Q (.str (toString i)) H)\/∃z,xs=[.str z]/\Q (.str z) H):=by
 intro pins s σ H xs us Q I r h;rcases h with⟨i,rfl,hz,q⟩|⟨z,rfl,q⟩
 ·obtain⟨u,rfl,t,rfl⟩:=vals1 r;exact PySem.P.str_of_int hz ⟨.str _,H,I.tok _,⟨_,rfl⟩,q⟩
 ·obtain⟨u,rfl,t,rfl⟩:=vals1 r;exact PySem.P.str_of_str ⟨.str _,H,I,⟨_,rfl⟩,q⟩
end
end L2
namespace TX
open PySem L2 PySem.Spec PyProof.Rows TB WD
def Wv(v:V):Prop:=(∃z:Str,v=.str z/\z.length<=12)\/∃i:Int,v=.int i/\i.natAbs<=1000
theorem Lq:∀n:Nat,n<1000->((toString (Int.negSucc n):String):Str).length<=12:=by decide +kernel
theorem YZ{i:Int}(h:i.natAbs<=1000):((toString i:String):Str).length<=12:=by
 cases i with
|ofNat n=>exact(RL n (by have:n<=1000:=h;omega)).2.2.2
|negSucc n=>exact Lq n (by have:n+1<=1000:=h;omega)
theorem Wv.len{v:V}(h:Wv v):(txt v).length<=12:=by
 rcases h with⟨z,rfl,h⟩|⟨i,rfl,h⟩
 ·exact h
 ·exact YZ h
def Nc:Sp:=λvs H Q _=>∃(z:Str)(a:Addr)(ys:List V),vs=[.str z,.ref a]/\(H a=some (.lst ys)\/H a=some (.tup ys))/\z.length<=12/\ys.length<=10/\(∀y∈ys,Wv y)/\∀H',Same H H'->Q (.str (Txt.join SP (z::ys.map txt))) H'
section
variable {P:Program}{w:World}{K:PySem.W.Frag}{mg:Str->Option Value}{base:Heap}{C Cb:Addr}
theorem Pc:FnScope ["first","things"] ["first","things"] (Zg T.f_row_text):=scO (by decide +kernel)
noncomputable def X0:Scope:={kind:=.function,names:=[(Str.ofString ".0",.local),(Str.ofString "thing",.local),(Str.ofString "str",.globalImplicit)],isGenerator:=false,isCoroutine:=false,more:=[]}
theorem UU:CompScope X0 (Zg T.f_row_text):=⟨rfl,by decide +kernel,by decide +kernel,by decide +kernel⟩
theorem UX:(["thing"]:List Str).Nodup:=by decide +kernel
theorem UW:CompNames ["first","things"] X0 ["thing"] [none]:=.mk' (by decide +kernel)
theorem Tp(B:∀x∈Blts,mg x=none)(D:Df K mg "row_text" T.f_row_text ["first","things"]):Can P w K mg base 1 "row_text" ["first","things"] Nc:=by
 refine D.can Pc (λvs H Q E h=>by obtain⟨z,a,ys,rfl,_⟩:=h;rfl) λf cdv A outer s H vs Q E hr h=>?_;obtain⟨z,a,ys,rfl,ha,hz,hl,hy,k⟩:=h;refine⟨_,(Zk (Zq (Yq PySem.F.plainAttrs_str PySem.F.slot_str_join PySem.F.type_str_join XO Zn (Za (Zv Nz (ZQ (Za (pv 0) Zb)) (Yz (scope:=X0) (N:=["thing"]) (cp:=[none]) rfl UU UW (Lj (pv 1)) (λC s H ex pn=>(Zo (i:=0) UX rfl (Or.inl rfl))) (λC s H ex pn=>ZO) (λC s H ex pn=>(ZE NH rfl (B _ (by decide +kernel)) YV (Za (pv 0) Zb))))) Zb)))),?_⟩;refine⟨rfl,_,rfl,zl,λc1 hc1=>?_⟩;dsimp only;refine nl2 hc1 λH1 S1 e1=>?_;refine⟨_,rfl,a,rfl,?_⟩;have fin:∀c2,H1 c2=none->rCat (V.ref c1) (.ref c2) (upd H1 c2 (.lst ((ys.map txt).map V.str))) λx H3=>∃(zz:Str)(p:Addr)(us:List Str),V.str (Str.ofString " ")=V.str zz/\[x]=[V.ref p]/\SqL K H3 p (us.map V.str)/\(us.map (·.length)).sum+us.length*zz.length<=16777216/\Q (.str (Txt.join zz us)) H3:=λc2 hc2=>by
  refine nl2 (q:=λx H3=>∃(zz:Str)(p:Addr)(us:List Str),V.str (Str.ofString " ")=V.str zz/\[x]=[V.ref p]/\SqL K H3 p (us.map V.str)/\(us.map (·.length)).sum+us.length*zz.length<=16777216/\Q (.str (Txt.join zz us)) H3) (G:=λH q=>rCat (V.ref c1) (.ref c2) H q) hc2 λH2 S2 e2=>?_;refine⟨c1,c2,_,_,rfl,rfl,S2 _ _ e1,e2,?_,λc3 hc3=>?_⟩
  ·rw[List.length_map,List.length_map];exact Nat.le_trans (show 1+ys.length<=11 by omega) (by decide)
  ·refine⟨_,c3,z::ys.map txt,rfl,rfl,SqL.of Zc,?_,?_⟩
   ·have h3:((z::ys.map txt).map (·.length)).sum<=((z::ys.map txt).map (·.length)).length*12:=GR λx hx=>by
     obtain⟨u,hu,rfl⟩:=List.mem_map.mp hx;rcases List.mem_cons.mp hu with rfl|hu
     ·exact hz
     ·obtain⟨v,hv,rfl⟩:=List.mem_map.mp hu;exact(hy v hv).len
    have h4:(Str.ofString " ").length=1:=rfl;rw[h4];simp only[List.length_map,List.length_cons]at h3 ⊢;omega
   ·have:=k (upd H2 c3 (.lst ([V.str z]++(ys.map txt).map V.str))) (sameNew (S1.trans S2) hc3);rw[<-EK]at this;exact this
 have one:∀(y:V),Wv y->∀{H':Hp}{R:V->Hp->Prop},R (.str (txt y)) H'->(∃i,[y]=[V.int i]/\i.natAbs.log2<1920/\R (V.str (Str.ofString (toString i))) H')\/∃z,[y]=[V.str z]/\R (V.str z) H':=λy hy H' R h=>by
  rcases hy with⟨z,rfl,_⟩|⟨i,rfl,h0⟩
  ·exact .inr ⟨z,rfl,h⟩
  ·exact .inl ⟨i,rfl,Nat.lt_of_le_of_lt (lgk h0) (by decide),h⟩
 have emap:∀i(hi:i<ys.length),((ys.take i).map λy=>V.str (txt y))++[V.str (txt ys[i])]=(ys.take (i+1)).map λy=>V.str (txt y):=λi hi=>by rw[List.take_succ,List.getElem?_eq_getElem hi,List.map_append];rfl
 have ln:ys.length<=sizeLine:=Nat.le_trans hl (by decide);rcases ha with ha|ha
 ·have ha1:=S1 _ _ ha;refine .inl ⟨⟨_,SqL.of ha1⟩,?_⟩;refine ZF (J:=Itl K a) ys.length ln (λi us τ H'=>H'=H1/\us=(ys.take i).map (λy=>V.str (txt y))/\∃v,τ=[v]) ⟨rfl,rfl,none,rfl⟩ (λi us τ H' p=>by rw[p.2.1,List.length_map,List.length_take];omega) (λi us τ H' hi p=>?_) (λus τ H' p=>?_) (λi us τ H' x H2 hi p yl=>?_) (λus τ H' p c2 hc2=>?_)
  ·obtain⟨rfl,_⟩:=p;exact⟨_,ys[i],SqL.of ha1,List.getElem?_eq_getElem _⟩
  ·obtain⟨rfl,_⟩:=p;exact⟨_,SqL.of ha1,Nat.le_refl _⟩
  ·obtain⟨rfl,rfl,v,rfl⟩:=p;obtain⟨rfl,hy'⟩:=yl;have hx:=hy' _ (SqL.of ha1);rw[List.getElem?_eq_getElem hi]at hx;cases hx;refine⟨_,rfl,?_⟩;dsimp only[tNil];exact one _ (hy _ (List.getElem_mem hi)) (R:=λy H4=>H4=H2/\((ys.take i).map λy=>V.str (txt y))++[y]=(ys.take (i+1)).map (λy=>V.str (txt y))/\∃v_1,[v].set 0 (some ys[i])=[v_1]) ⟨rfl,emap i hi,_,rfl⟩
  ·obtain⟨rfl,rfl,v,rfl⟩:=p;rw[List.take_length];have:=fin c2 hc2;rw[List.map_map]at this;exact this
 ·have ha1:=S1 _ _ ha;refine .inr ⟨⟨_,SqT.of ha1⟩,?_⟩;refine ZF (J:=Itt K a) ys.length ln (λi us τ H'=>H'=H1/\us=(ys.take i).map (λy=>V.str (txt y))/\∃v,τ=[v]) ⟨rfl,rfl,none,rfl⟩ (λi us τ H' p=>by rw[p.2.1,List.length_map,List.length_take];omega) (λi us τ H' hi p=>?_) (λus τ H' p=>?_) (λi us τ H' x H2 hi p yl=>?_) (λus τ H' p c2 hc2=>?_)
  ·obtain⟨rfl,_⟩:=p;exact⟨_,ys[i],SqT.of ha1,List.getElem?_eq_getElem _⟩
  ·obtain⟨rfl,_⟩:=p;exact⟨_,SqT.of ha1,Nat.le_refl _⟩
  ·obtain⟨rfl,rfl,v,rfl⟩:=p;obtain⟨rfl,hy'⟩:=yl;have hx:=hy' _ (SqT.of ha1);rw[List.getElem?_eq_getElem hi]at hx;cases hx;refine⟨_,rfl,?_⟩;dsimp only[tNil];exact one _ (hy _ (List.getElem_mem hi)) (R:=λy H4=>H4=H2/\((ys.take i).map λy=>V.str (txt y))++[y]=(ys.take (i+1)).map (λy=>V.str (txt y))/\∃v_1,[v].set 0 (some ys[i])=[v_1]) ⟨rfl,emap i hi,_,rfl⟩
  ·obtain⟨rfl,rfl,v,rfl⟩:=p;rw[List.take_length];have:=fin c2 hc2;rw[List.map_map]at this;exact this
theorem Ux(a:List Str)(f:List V->Str)(t:List (List V)):a.map V.str++t.map (λy=>V.str (f y))=(a++t.map f).map V.str:=by rw[List.map_append,List.map_map];rfl
theorem WV{j:Nat}{ys:List V}(hg:RowG ys)(hp:Parse (hJ j::ys.map txt) ys):∀y∈ys,Wv y:=λy hy=>by
 obtain⟨z,r,f,e,hf,hl,hne,ey⟩:=hp;have hz:z≠"home":=by
  rw[<-(List.cons.inj e).1];unfold hJ;split
  ·decide +kernel
  ·split<;>decide +kernel
 rw[if_neg hz,List.append_nil]at ey;have hn:y≠.non:=hne y (by rw[<-ey];exact hy);cases hg.2 y hy with
|non=>exact absurd rfl hn
|int h=>exact .inr ⟨_,rfl,h⟩
|str h=>exact .inl ⟨_,rfl,h.1⟩
theorem QD{T:Tb}(o:OkTb T){j:Nat}(hj:isJ j)(h1:j≠1){ys:List V}(h:ys∈T.part j):ys.length<=10/\(∀y∈ys,Wv y)/\wJ j ys=hJ j::ys.map txt:=by have hg:=Jz o hj h;have e:wJ j ys=hJ j::ys.map txt:=if_neg h1;refine⟨Nat.le_trans hg.1 (by decide),?_,e⟩;have hp:=(Pf o hj h).1;rw[e]at hp;exact WV hg hp
def Rw:Sp:=λvs H Q _=>∃(a:Addr)(p:Str×Option Int),vs=[.ref a]/\H a=some (.tup (ZM p))/\p.1.length<=12/\(∀i,p.2=some i->0<=i/\i<=1000)/\∀H',Same H H'->Q (.str (Txt.join SP (wJ 1 (ZM p)))) H'
noncomputable def ents(T:Tb):List Ent:=(0,[.int T.n])::(T.t1.map (λy=>(1,y))++T.t2.map (λy=>(2,y))++T.t3.map (λy=>(3,y))++T.t4.map (λy=>(4,y)))
def Wi(C:Addr):Sp:=λvs H Q _=>∃(t:Addr)(T:Tb),vs=[.ref t]/\Tel H C t T/\OkTb T/\∀H',Same H H'->Q (.str (text (ents T))) H'
theorem VS{T:Tb}(o:OkTb T):∀e∈ents T,EOk e:=λe he=>by
 unfold ents at he;simp only[List.mem_cons,List.mem_append,List.mem_map]at he;rcases he with rfl|((⟨y,hy,rfl⟩|⟨y,hy,rfl⟩)|⟨y,hy,rfl⟩)|⟨y,hy,rfl⟩
 ·exact Sb o
 ·exact Gw o (j:=1) (.inl rfl) hy
 ·exact Gw o (j:=2) (.inr (.inl rfl)) hy
 ·exact Gw o (j:=3) (.inr (.inr (.inl rfl))) hy
 ·exact Gw o (j:=4) (.inr (.inr (.inr rfl))) hy
theorem VT{T:Tb}(o:OkTb T):(ents T).length<=435:=by have m1:T.t1.length<=14:=(o.part 1 (.inl rfl)).1;have m2:T.t2.length<=80:=(o.part 2 (.inr (.inl rfl))).1;have m3:T.t3.length<=40:=(o.part 3 (.inr (.inr (.inl rfl)))).1;have m4:T.t4.length<=300:=(o.part 4 (.inr (.inr (.inr rfl)))).1;unfold ents;simp only[List.length_cons,List.length_append,List.length_map];omega
theorem Mz:FnScope ["row"] ["row"] (Zg T.f_place_text):=scO (by decide +kernel)
theorem Tr(B:∀x∈Blts,mg x=none)(CT:Can P w K mg base 1 "row_text" ["first","things"] Nc)(D:Df K mg "place_text" T.f_place_text ["row"]):Can P w K mg base 2 "place_text" ["row"] Rw:=by
 refine D.can Mz (λvs H Q E h=>by obtain⟨a,p,rfl,_⟩:=h;rfl) λf cdv A outer s H vs Q E hr h=>?_;obtain⟨a,p,rfl,ha,hp,hr',k⟩:=h;refine⟨_,(Zd (ZP (ZC UN (it K (pv 0) Zi) ZR (ZD _)) (Zk (Zq (cn CT hr (Za Zn (Za (Yv (r:=rSlT K) Dw (pv 0) YH (YG Zi)) Zb))))) Zx) (Zk (Zq (cn CT hr (Za Zn (Za (pv 0) Zb)))))),?_⟩;refine⟨_,rfl,a,_,1,_,rfl,rfl,SqT.of ha,Zr (j:=1) rfl,rfl,_,rfl,?_⟩;obtain⟨z,r⟩:=p;cases r with
|none=>
  refine iteT ?_;refine⟨_,rfl,_,rfl,a,_,rfl,SqT.of ha,(show ¬(HT.sIx 2 0 none=0/\HT.sIx 2 2 (some 1)=2) by decide),λc hc=>?_⟩;refine⟨_,c,[.str z],rfl,.inr Zc,by decide +kernel,(show 1<=10 by decide),λy hy=>?_,λH' S'=>?_⟩
  ·rw[List.mem_singleton.mp hy];exact .inl ⟨z,rfl,hp⟩
  ·exact k H' ((sameNew (Same.refl H) hc).trans S')
|some i=>
  refine iteF ?_;refine⟨_,rfl,_,a,[.str z,.int i],rfl,.inr ha,by decide +kernel,by show 2<=10;decide,λy hy=>?_,λH' S'=>k H' S'⟩;rcases List.mem_cons.mp hy with rfl|hy
  ·exact .inl ⟨z,rfl,hp⟩
  ·rw[List.mem_singleton.mp hy];have:=hr' i rfl;exact .inr ⟨i,rfl,by omega⟩
theorem JX:FnScope ["table","rows"] ["table"] (Zg T.f_show_table):=scO (by decide +kernel)
noncomputable def Y8:Scope:={kind:=.function,names:=[(Str.ofString ".0",.local),(Str.ofString "row",.local),(Str.ofString "place_text",.globalImplicit)],isGenerator:=false,isCoroutine:=false,more:=[]}
theorem Vk:CompScope Y8 (Zg T.f_show_table):=⟨rfl,by decide +kernel,by decide +kernel,by decide +kernel⟩
theorem Vm:(["row"]:List Str).Nodup:=by decide +kernel
theorem Vl:CompNames ["table","rows"] Y8 ["row"] [none]:=.mk' (by decide +kernel)
noncomputable def Y7:Scope:={kind:=.function,names:=[(Str.ofString ".0",.local),(Str.ofString "row",.local),(Str.ofString "row_text",.globalImplicit)],isGenerator:=false,isCoroutine:=false,more:=[]}
theorem Vh:CompScope Y7 (Zg T.f_show_table):=⟨rfl,by decide +kernel,by decide +kernel,by decide +kernel⟩
theorem Vj:(["row"]:List Str).Nodup:=by decide +kernel
theorem Vi:CompNames ["table","rows"] Y7 ["row"] [none]:=.mk' (by decide +kernel)
noncomputable def Y6:Scope:={kind:=.function,names:=[(Str.ofString ".0",.local),(Str.ofString "row",.local),(Str.ofString "row_text",.globalImplicit)],isGenerator:=false,isCoroutine:=false,more:=[]}
theorem Ve:CompScope Y6 (Zg T.f_show_table):=⟨rfl,by decide +kernel,by decide +kernel,by decide +kernel⟩
theorem Vg:(["row"]:List Str).Nodup:=by decide +kernel
theorem Vf:CompNames ["table","rows"] Y6 ["row"] [none]:=.mk' (by decide +kernel)
noncomputable def Y5:Scope:={kind:=.function,names:=[(Str.ofString ".0",.local),(Str.ofString "row",.local),(Str.ofString "row_text",.globalImplicit)],isGenerator:=false,isCoroutine:=false,more:=[]}
theorem Vb:CompScope Y5 (Zg T.f_show_table):=⟨rfl,by decide +kernel,by decide +kernel,by decide +kernel⟩
theorem Vd:(["row"]:List Str).Nodup:=by decide +kernel
theorem Vc:CompNames ["table","rows"] Y5 ["row"] [none]:=.mk' (by decide +kernel)
theorem Ko(Z:TCl K C)(B:∀x∈Blts,mg x=none)(CT:Can P w K mg base 1 "row_text" ["first","things"] Nc)(CP:Can P w K mg base 2 "place_text" ["row"] Rw)(D:Df K mg "show_table" T.f_show_table ["table"]):Can P w K mg base 3 "show_table" ["table"] (Wi C):=by
 refine D.can JX (λvs H Q E h=>by obtain⟨t,T,rfl,_⟩:=h;rfl) λf cdv A outer s H vs Q E hr h=>?_;obtain⟨t,T,rfl,⟨fs,x1,x2,x3,x4,kk,tp,_⟩,ok,k⟩:=h;refine⟨_,(Zd (st 1 JX.nd (ZQ (Za (cn CT hr (Za Zn (Za (ZQ (Za (Z8 (pv 0) rfl) Zb)) Zb))) Zb))) (Zd (ZU (Yq PySem.F.plainAttrs_list PySem.F.slot_list_extend PySem.F.type_list_extend JP (pv 1) (Za (Yz (scope:=Y8) (N:=["row"]) (cp:=[none]) rfl Vk Vl (Nu (Z8 (pv 0) rfl)) (λC s H ex pn=>(Zo (i:=0) Vm rfl (Or.inl rfl))) (λC s H ex pn=>ZO) (λC s H ex pn=>(cn CP hr (Za (pv 0) Zb)))) Zb))) (Zd (ZU (Yq PySem.F.plainAttrs_list PySem.F.slot_list_extend PySem.F.type_list_extend JP (pv 1) (Za (Yz (scope:=Y7) (N:=["row"]) (cp:=[none]) rfl Vh Vi (Nu (Z8 (pv 0) rfl)) (λC s H ex pn=>(Zo (i:=0) Vj rfl (Or.inl rfl))) (λC s H ex pn=>ZO) (λC s H ex pn=>(cn CT hr (Za Zn (Za (pv 0) Zb))))) Zb))) (Zd (ZU (Yq PySem.F.plainAttrs_list PySem.F.slot_list_extend PySem.F.type_list_extend JP (pv 1) (Za (Yz (scope:=Y6) (N:=["row"]) (cp:=[none]) rfl Ve Vf (Nu (Z8 (pv 0) rfl)) (λC s H ex pn=>(Zo (i:=0) Vg rfl (Or.inl rfl))) (λC s H ex pn=>ZO) (λC s H ex pn=>(cn CT hr (Za Zn (Za (pv 0) Zb))))) Zb))) (Zd (ZU (Yq PySem.F.plainAttrs_list PySem.F.slot_list_extend PySem.F.type_list_extend JP (pv 1) (Za (Yz (scope:=Y5) (N:=["row"]) (cp:=[none]) rfl Vb Vc (Nu (Z8 (pv 0) rfl)) (λC s H ex pn=>(Zo (i:=0) Vd rfl (Or.inl rfl))) (λC s H ex pn=>ZO) (λC s H ex pn=>(cn CT hr (Za Zn (Za (pv 0) Zb))))) Zb))) (Zk (Zq (Yq PySem.F.plainAttrs_str PySem.F.slot_str_join PySem.F.type_str_join XO Zn (Za (pv 1) Zb))))))))),?_⟩;obtain⟨dx,ht⟩:=tp.tab.tab.at_;obtain⟨l1,_,y1,_,a1,_,e1,b1,_⟩:=tp.tab.p;obtain⟨l2,_,y2,_,a2,_,e2,b2,_⟩:=tp.tab.r;obtain⟨l3,_,y3,_,a3,_,e3,b3,_⟩:=tp.tab.w;obtain⟨l4,_,y4,_,a4,_,e4,b4,_⟩:=tp.tab.g;cases e1;cases e2;cases e3;cases e4;have r1:=tp.rows _ (.inl rfl) _ _ rfl;have r2:=tp.rows _ (.inr (.inl rfl)) _ _ rfl;have r3:=tp.rows _ (.inr (.inr (.inl rfl))) _ _ rfl;have r4:=tp.rows _ (.inr (.inr (.inr rfl))) _ _ rfl;have m1:T.t1.length<=14:=(ok.part 1 (.inl rfl)).1;have m2:T.t2.length<=80:=(ok.part 2 (.inr (.inl rfl))).1;have m3:T.t3.length<=40:=(ok.part 3 (.inr (.inr (.inl rfl)))).1;have m4:T.t4.length<=300:=(ok.part 4 (.inr (.inr (.inr rfl)))).1;have n0:=ok.n0;have n1:=ok.n1;have fld:∀{H':Hp},Same H H'->H' t=some (.ins C dx fs):=λs=>s _ _ ht;refine⟨_,rfl,t,C,dx,fs,_,rfl,ht,Z.cl,Z.na _ (by simp[fields]),tp.tab.turns,zl,λc0 hc0=>?_⟩;have Sc:=sameNew (o:=.lst [.int T.n]) (Same.refl H) hc0;have ec:upd H c0 (.lst [.int T.n]) c0=some (.lst [.int T.n]):=Zc;generalize upd H c0 (.lst [.int T.n])=Hc at Sc ec ⊢;refine⟨_,c0,[.int T.n],rfl,.inl ec,by decide +kernel,(show 1<=10 by decide),λy hy=>?_,λHd Sd=>⟨zl,λr0 hr0=>?_⟩⟩
 ·rw[List.mem_singleton.mp hy];exact .inr ⟨T.n,rfl,by omega⟩
 have hno:H r0=none:=by
  cases e:H r0 with
 |none=>rfl
 |some o=>rw[(Sc.trans Sd) _ _ e]at hr0;cases hr0
 have S0:Same H (upd Hd r0 (.lst [.str (Txt.join SP ["turns",txt (.int T.n)])])):=sameNew (Sc.trans Sd) hr0;have R0:upd Hd r0 (.lst [.str (Txt.join SP ["turns",txt (.int T.n)])]) r0=some (.lst ([line (0,[.int T.n])].map V.str)):=Zc;generalize hG0:upd Hd r0 (.lst [.str (Txt.join SP ["turns",txt (.int T.n)])])=G0 at S0 R0;rw[show(List.map txt [V.int T.n])=[txt (.int T.n)]from rfl];rw[show(Str.ofString "turns")=("turns":Str)from rfl];dsimp only;rw[hG0];clear hG0;refine⟨_,rfl,.inl ⟨rfl,_,SqL.of R0⟩,_,rfl,t,C,dx,fs,_,rfl,fld S0,Z.cl,Z.na _ (by simp[fields]),a1,l1,rfl,⟨_,SqT.of (S0 _ _ b1)⟩,?_⟩;refine ZF (J:=Itt K l1) T.t1.length (Nat.le_trans m1 (by decide)) (λi us τ H'=>Same G0 H'/\us=(T.t1.take i).map (λy=>V.str (line (1,y)))/\∃v,τ=[v]) ⟨Same.refl _,rfl,none,rfl⟩ (λi us τ H' p=>by rw[p.2.1,List.length_map,List.length_take];omega) (λi us τ H' hi p=>?_) (λus τ H' p=>?_) (λi us τ H' x H2 hi p yl=>?_) (λus τ H' p c1 hc1=>?_)
 ·exact⟨_,x1[i]'(by rw[r1.1,List.length_map];exact hi),SqT.of (p.1 _ _ (S0 _ _ b1)),List.getElem?_eq_getElem _⟩
 ·exact⟨_,SqT.of (p.1 _ _ (S0 _ _ b1)),by rw[r1.1,List.length_map];exact Nat.le_refl _⟩
 ·obtain⟨Si,rfl,v,rfl⟩:=p;obtain⟨rfl,hy⟩:=yl;have hx:=hy _ (SqT.of (Si _ _ (S0 _ _ b1)));obtain⟨a,rfl,ha,_⟩:=r1.2 i _ _ hx (show(T.t1.map some)[i]?=some (some T.t1[i]) by rw[List.getElem?_map,List.getElem?_eq_getElem hi];rfl);have ha':=Si _ _ (S0 _ _ ha);have hm:T.t1[i]∈T.part 1:=List.getElem_mem hi;have em:∀z,z=line (1,T.t1[i])->(T.t1.take i).map (λy=>V.str (line (1,y)))++[V.str z]=(T.t1.take (i+1)).map (λy=>V.str (line (1,y))):=λz ez=>by rw[ez,List.take_succ,List.getElem?_eq_getElem hi,List.map_append];rfl
  obtain⟨p,ep,hg,hrm⟩:=Gy ok hm;rw[show T.t1[i]=ZM p from ep]at ha';exact⟨_,rfl,a,p,rfl,ha',hg.1,hrm,λH3 S3=>⟨Si.trans S3,em _ (by rw[show T.t1[i]=ZM p from ep];rfl),_,rfl⟩⟩
 obtain⟨Si,rfl,v,rfl⟩:=p;rw[List.take_length];have N1:=sameNew (o:=.lst (T.t1.map λy=>V.str (line (1,y)))) (Same.refl H') hc1;have ez1:upd H' c1 (.lst (T.t1.map λy=>V.str (line (1,y)))) c1=some (.lst (T.t1.map λy=>V.str (line (1,y)))):=Zc;generalize upd H' c1 (.lst (T.t1.map λy=>V.str (line (1,y))))=F1 at N1 ez1 ⊢;have S1':Same H F1:=(S0.trans Si).trans N1;refine⟨r0,c1,_,_,rfl,rfl,N1 _ _ (Si _ _ R0),ez1,?_,?_⟩
 ·simp only[List.length_map,List.length_append,List.length_cons,List.length_nil];exact Nat.le_trans (show _<=1000 by omega) (by decide)
 have R1:upd F1 r0 (.lst (([line (0,[.int T.n])]).map V.str++T.t1.map λy=>V.str (line (1,y)))) r0=some (.lst (([line (0,[.int T.n])]++T.t1.map λy=>line (1,y)).map V.str)):=by rw[Zc];exact congrArg (λl=>some (HO.lst l)) (Ux _ _ _)
 have S1:Same H (upd F1 r0 (.lst (([line (0,[.int T.n])]).map V.str++T.t1.map λy=>V.str (line (1,y))))):=λc o e=>by rw[Ze (Zf e hno)];exact S1' c o e
 generalize upd F1 r0 (.lst (([line (0,[.int T.n])]).map V.str++T.t1.map λy=>V.str (line (1,y))))=G1 at R1 S1 ⊢;refine⟨_,rfl,.inl ⟨rfl,_,SqL.of R1⟩,_,rfl,t,C,dx,fs,_,rfl,fld S1,Z.cl,Z.na _ (by simp[fields]),a2,l2,rfl,⟨_,SqT.of (S1 _ _ b2)⟩,?_⟩;refine ZF (J:=Itt K l2) T.t2.length (Nat.le_trans m2 (by decide)) (λi us τ H'=>Same G1 H'/\us=(T.t2.take i).map (λy=>V.str (line (2,y)))/\∃v,τ=[v]) ⟨Same.refl _,rfl,none,rfl⟩ (λi us τ H' p=>by rw[p.2.1,List.length_map,List.length_take];omega) (λi us τ H' hi p=>?_) (λus τ H' p=>?_) (λi us τ H' x H2 hi p yl=>?_) (λus τ H' p c2 hc2=>?_)
 ·exact⟨_,x2[i]'(by rw[r2.1,List.length_map];exact hi),SqT.of (p.1 _ _ (S1 _ _ b2)),List.getElem?_eq_getElem _⟩
 ·exact⟨_,SqT.of (p.1 _ _ (S1 _ _ b2)),by rw[r2.1,List.length_map];exact Nat.le_refl _⟩
 ·obtain⟨Si,rfl,v,rfl⟩:=p;obtain⟨rfl,hy⟩:=yl;have hx:=hy _ (SqT.of (Si _ _ (S1 _ _ b2)));obtain⟨a,rfl,ha,_⟩:=r2.2 i _ _ hx (show(T.t2.map some)[i]?=some (some T.t2[i]) by rw[List.getElem?_map,List.getElem?_eq_getElem hi];rfl);have ha':=Si _ _ (S1 _ _ ha);have hm:T.t2[i]∈T.part 2:=List.getElem_mem hi;have em:∀z,z=line (2,T.t2[i])->(T.t2.take i).map (λy=>V.str (line (2,y)))++[V.str z]=(T.t2.take (i+1)).map (λy=>V.str (line (2,y))):=λz ez=>by rw[ez,List.take_succ,List.getElem?_eq_getElem hi,List.map_append];rfl
  obtain⟨w1,w2,w3⟩:=QD ok (j:=2) (.inr (.inl rfl)) (by decide) hm;refine⟨_,rfl,_,a,_,rfl,.inr ha',by decide +kernel,w1,w2,λH3 S3=>⟨Si.trans S3,em _ ?_,_,rfl⟩⟩;show _=Txt.join SP (wJ 2 T.t2[i]);rw[w3];rfl
 obtain⟨Si,rfl,v,rfl⟩:=p;rw[List.take_length];have N2:=sameNew (o:=.lst (T.t2.map λy=>V.str (line (2,y)))) (Same.refl H') hc2;have ez2:upd H' c2 (.lst (T.t2.map λy=>V.str (line (2,y)))) c2=some (.lst (T.t2.map λy=>V.str (line (2,y)))):=Zc;generalize upd H' c2 (.lst (T.t2.map λy=>V.str (line (2,y))))=F2 at N2 ez2 ⊢;have S2':Same H F2:=(S1.trans Si).trans N2;refine⟨r0,c2,_,_,rfl,rfl,N2 _ _ (Si _ _ R1),ez2,?_,?_⟩
 ·simp only[List.length_map,List.length_append,List.length_cons,List.length_nil];exact Nat.le_trans (show _<=1000 by omega) (by decide)
 have R2:upd F2 r0 (.lst ((([line (0,[.int T.n])]++T.t1.map λy=>line (1,y))).map V.str++T.t2.map λy=>V.str (line (2,y)))) r0=some (.lst ((([line (0,[.int T.n])]++T.t1.map λy=>line (1,y))++T.t2.map λy=>line (2,y)).map V.str)):=by rw[Zc];exact congrArg (λl=>some (HO.lst l)) (Ux _ _ _)
 have S2:Same H (upd F2 r0 (.lst ((([line (0,[.int T.n])]++T.t1.map λy=>line (1,y))).map V.str++T.t2.map λy=>V.str (line (2,y))))):=λc o e=>by rw[Ze (Zf e hno)];exact S2' c o e
 generalize upd F2 r0 (.lst ((([line (0,[.int T.n])]++T.t1.map λy=>line (1,y))).map V.str++T.t2.map λy=>V.str (line (2,y))))=G2 at R2 S2 ⊢;refine⟨_,rfl,.inl ⟨rfl,_,SqL.of R2⟩,_,rfl,t,C,dx,fs,_,rfl,fld S2,Z.cl,Z.na _ (by simp[fields]),a3,l3,rfl,⟨_,SqT.of (S2 _ _ b3)⟩,?_⟩;refine ZF (J:=Itt K l3) T.t3.length (Nat.le_trans m3 (by decide)) (λi us τ H'=>Same G2 H'/\us=(T.t3.take i).map (λy=>V.str (line (3,y)))/\∃v,τ=[v]) ⟨Same.refl _,rfl,none,rfl⟩ (λi us τ H' p=>by rw[p.2.1,List.length_map,List.length_take];omega) (λi us τ H' hi p=>?_) (λus τ H' p=>?_) (λi us τ H' x H2 hi p yl=>?_) (λus τ H' p c3 hc3=>?_)
 ·exact⟨_,x3[i]'(by rw[r3.1,List.length_map];exact hi),SqT.of (p.1 _ _ (S2 _ _ b3)),List.getElem?_eq_getElem _⟩
 ·exact⟨_,SqT.of (p.1 _ _ (S2 _ _ b3)),by rw[r3.1,List.length_map];exact Nat.le_refl _⟩
 ·obtain⟨Si,rfl,v,rfl⟩:=p;obtain⟨rfl,hy⟩:=yl;have hx:=hy _ (SqT.of (Si _ _ (S2 _ _ b3)));obtain⟨a,rfl,ha,_⟩:=r3.2 i _ _ hx (show(T.t3.map some)[i]?=some (some T.t3[i]) by rw[List.getElem?_map,List.getElem?_eq_getElem hi];rfl);have ha':=Si _ _ (S2 _ _ ha);have hm:T.t3[i]∈T.part 3:=List.getElem_mem hi;have em:∀z,z=line (3,T.t3[i])->(T.t3.take i).map (λy=>V.str (line (3,y)))++[V.str z]=(T.t3.take (i+1)).map (λy=>V.str (line (3,y))):=λz ez=>by rw[ez,List.take_succ,List.getElem?_eq_getElem hi,List.map_append];rfl
  obtain⟨w1,w2,w3⟩:=QD ok (j:=3) (.inr (.inr (.inl rfl))) (by decide) hm;refine⟨_,rfl,_,a,_,rfl,.inr ha',by decide +kernel,w1,w2,λH3 S3=>⟨Si.trans S3,em _ ?_,_,rfl⟩⟩;show _=Txt.join SP (wJ 3 T.t3[i]);rw[w3];rfl
 obtain⟨Si,rfl,v,rfl⟩:=p;rw[List.take_length];have N3:=sameNew (o:=.lst (T.t3.map λy=>V.str (line (3,y)))) (Same.refl H') hc3;have ez3:upd H' c3 (.lst (T.t3.map λy=>V.str (line (3,y)))) c3=some (.lst (T.t3.map λy=>V.str (line (3,y)))):=Zc;generalize upd H' c3 (.lst (T.t3.map λy=>V.str (line (3,y))))=F3 at N3 ez3 ⊢;have S3':Same H F3:=(S2.trans Si).trans N3;refine⟨r0,c3,_,_,rfl,rfl,N3 _ _ (Si _ _ R2),ez3,?_,?_⟩
 ·simp only[List.length_map,List.length_append,List.length_cons,List.length_nil];exact Nat.le_trans (show _<=1000 by omega) (by decide)
 have R3:upd F3 r0 (.lst (((([line (0,[.int T.n])]++T.t1.map λy=>line (1,y))++T.t2.map λy=>line (2,y))).map V.str++T.t3.map λy=>V.str (line (3,y)))) r0=some (.lst (((([line (0,[.int T.n])]++T.t1.map λy=>line (1,y))++T.t2.map λy=>line (2,y))++T.t3.map λy=>line (3,y)).map V.str)):=by rw[Zc];exact congrArg (λl=>some (HO.lst l)) (Ux _ _ _)
 have S3:Same H (upd F3 r0 (.lst (((([line (0,[.int T.n])]++T.t1.map λy=>line (1,y))++T.t2.map λy=>line (2,y))).map V.str++T.t3.map λy=>V.str (line (3,y))))):=λc o e=>by rw[Ze (Zf e hno)];exact S3' c o e
 generalize upd F3 r0 (.lst (((([line (0,[.int T.n])]++T.t1.map λy=>line (1,y))++T.t2.map λy=>line (2,y))).map V.str++T.t3.map λy=>V.str (line (3,y))))=G3 at R3 S3 ⊢;refine⟨_,rfl,.inl ⟨rfl,_,SqL.of R3⟩,_,rfl,t,C,dx,fs,_,rfl,fld S3,Z.cl,Z.na _ (by simp[fields]),a4,l4,rfl,⟨_,SqT.of (S3 _ _ b4)⟩,?_⟩;refine ZF (J:=Itt K l4) T.t4.length (Nat.le_trans m4 (by decide)) (λi us τ H'=>Same G3 H'/\us=(T.t4.take i).map (λy=>V.str (line (4,y)))/\∃v,τ=[v]) ⟨Same.refl _,rfl,none,rfl⟩ (λi us τ H' p=>by rw[p.2.1,List.length_map,List.length_take];omega) (λi us τ H' hi p=>?_) (λus τ H' p=>?_) (λi us τ H' x H2 hi p yl=>?_) (λus τ H' p c4 hc4=>?_)
 ·exact⟨_,x4[i]'(by rw[r4.1,List.length_map];exact hi),SqT.of (p.1 _ _ (S3 _ _ b4)),List.getElem?_eq_getElem _⟩
 ·exact⟨_,SqT.of (p.1 _ _ (S3 _ _ b4)),by rw[r4.1,List.length_map];exact Nat.le_refl _⟩
 ·obtain⟨Si,rfl,v,rfl⟩:=p;obtain⟨rfl,hy⟩:=yl;have hx:=hy _ (SqT.of (Si _ _ (S3 _ _ b4)));obtain⟨a,rfl,ha,_⟩:=r4.2 i _ _ hx (show(T.t4.map some)[i]?=some (some T.t4[i]) by rw[List.getElem?_map,List.getElem?_eq_getElem hi];rfl);have ha':=Si _ _ (S3 _ _ ha);have hm:T.t4[i]∈T.part 4:=List.getElem_mem hi;have em:∀z,z=line (4,T.t4[i])->(T.t4.take i).map (λy=>V.str (line (4,y)))++[V.str z]=(T.t4.take (i+1)).map (λy=>V.str (line (4,y))):=λz ez=>by rw[ez,List.take_succ,List.getElem?_eq_getElem hi,List.map_append];rfl
  obtain⟨w1,w2,w3⟩:=QD ok (j:=4) (.inr (.inr (.inr rfl))) (by decide) hm;refine⟨_,rfl,_,a,_,rfl,.inr ha',by decide +kernel,w1,w2,λH3 S3=>⟨Si.trans S3,em _ ?_,_,rfl⟩⟩;show _=Txt.join SP (wJ 4 T.t4[i]);rw[w3];rfl
 obtain⟨Si,rfl,v,rfl⟩:=p;rw[List.take_length];have N4:=sameNew (o:=.lst (T.t4.map λy=>V.str (line (4,y)))) (Same.refl H') hc4;have ez4:upd H' c4 (.lst (T.t4.map λy=>V.str (line (4,y)))) c4=some (.lst (T.t4.map λy=>V.str (line (4,y)))):=Zc;generalize upd H' c4 (.lst (T.t4.map λy=>V.str (line (4,y))))=F4 at N4 ez4 ⊢;have S4':Same H F4:=(S3.trans Si).trans N4;refine⟨r0,c4,_,_,rfl,rfl,N4 _ _ (Si _ _ R3),ez4,?_,?_⟩
 ·simp only[List.length_map,List.length_append,List.length_cons,List.length_nil];exact Nat.le_trans (show _<=1000 by omega) (by decide)
 have R4:upd F4 r0 (.lst ((((([line (0,[.int T.n])]++T.t1.map λy=>line (1,y))++T.t2.map λy=>line (2,y))++T.t3.map λy=>line (3,y))).map V.str++T.t4.map λy=>V.str (line (4,y)))) r0=some (.lst ((((([line (0,[.int T.n])]++T.t1.map λy=>line (1,y))++T.t2.map λy=>line (2,y))++T.t3.map λy=>line (3,y))++T.t4.map λy=>line (4,y)).map V.str)):=by rw[Zc];exact congrArg (λl=>some (HO.lst l)) (Ux _ _ _)
 have S4:Same H (upd F4 r0 (.lst ((((([line (0,[.int T.n])]++T.t1.map λy=>line (1,y))++T.t2.map λy=>line (2,y))++T.t3.map λy=>line (3,y))).map V.str++T.t4.map λy=>V.str (line (4,y))))):=λc o e=>by rw[Ze (Zf e hno)];exact S4' c o e
 generalize upd F4 r0 (.lst ((((([line (0,[.int T.n])]++T.t1.map λy=>line (1,y))++T.t2.map λy=>line (2,y))++T.t3.map λy=>line (3,y))).map V.str++T.t4.map λy=>V.str (line (4,y))))=G4 at R4 S4 ⊢;have ea:(((([line (0,[.int T.n])]++T.t1.map λy=>line (1,y))++T.t2.map λy=>line (2,y))++T.t3.map λy=>line (3,y))++T.t4.map λy=>line (4,y))=(ents T).map line:=by unfold ents;simp only[List.map_cons,List.map_append,List.map_map,List.append_assoc,List.cons_append,List.nil_append];rfl
 rw[ea]at R4;have ho:=VS ok;have hl:=VT ok;have h3:(((ents T).map line).map (·.length)).sum<=(((ents T).map line).map (·.length)).length*130:=GR λx hx=>by obtain⟨u,hu,rfl⟩:=List.mem_map.mp hx;obtain⟨e,he,rfl⟩:=List.mem_map.mp hu;exact(ho e he).len
 rw[List.length_map,List.length_map]at h3;refine⟨rfl,_,rfl,_,r0,_,rfl,rfl,SqL.of R4,?_,?_⟩
 ·rw[show(Str.ofString "\n").length=1 from rfl,List.length_map];omega
 ·rw[show(Str.ofString "\n":Str)=NL from RN];exact k _ S4
end
theorem Fld.nm{f:Str}{v:V}(h:Fld f v)(e:f="name"\/f="group name"):∃z,v=.str z/\z.length<=12:=by
 cases h with
|name h=>exact⟨_,rfl,(Jk h).2.2⟩
|group h=>exact⟨_,rfl,(Jk h).2.2⟩
|num h0 h1=>exfalso;rcases e with e|e<;>exact absurd e (by decide +kernel)
section
variable {T:Tb}(o:OkTb T)
include o
theorem Eo{ys:List V}(h:ys∈T.t2):∃(a b d:Str)(c e f:Int),ys=[.str a,.str b,.int c,.str d,.int e,.int f]/\a.length<=12/\b.length<=12/\d.length<=12/\c.natAbs<=1000/\e.natAbs<=1000/\f.natAbs<=1000:=by obtain⟨k1,hk⟩:=VM o;have n1:=o.n1;have r:=XU o (j:=2) (.inr (.inl rfl)) h;have nm:=r.nm;rw[show at_ ys 0=.str (nameOf ys)from r.name]at nm;obtain⟨z,s,lv,g',cm,se,rfl,_,he,a1,a2,b1,b2,c1,c2⟩:=UI o h hk.has;obtain⟨q1,q2⟩:=VW o hk he;obtain⟨x,rfl,hx⟩:=q1.nm (.inl rfl);obtain⟨y,rfl,hy⟩:=q2.nm (.inl rfl);exact⟨z,x,y,lv,cm,se,rfl,(Jk (z:=z) nm).2.2,hx,hy,by omega,by omega,by omega⟩
theorem Fc{ys:List V}(h:ys∈T.t3):∃(a b c:Str)(d e:Int),ys=[.str a,.str b,.str c,.int d,.int e]/\a.length<=12/\b.length<=12/\c.length<=12/\d.natAbs<=1000/\e.natAbs<=1000:=by obtain⟨k1,hk⟩:=VM o;have r:=XU o (j:=3) (.inr (.inr (.inl rfl))) h;have e0:at_ ys 0=.str (nameOf ys):=r.name;have nm:=r.nm;rw[e0]at nm;have hw:=r.why k1 (λ_=>hk.has);obtain⟨a,b,c,d,e,rfl⟩:=len5 r.len;have hw':wayV k1 b c d e=.non:=hw 0 (λz=>by cases z);obtain⟨he,h1,h2⟩:=MZ hw';obtain⟨q1,q2⟩:=VW o hk he;obtain⟨x,rfl,hx⟩:=q1.nm (.inl rfl);obtain⟨y,rfl,hy⟩:=q2.nm (.inl rfl);obtain⟨i,rfl,i0,i1⟩:=within_int h1;obtain⟨j,rfl,j0,j1⟩:=within_int h2;have ea:a=.str (nameOf [a,.str x,.str y,.int i,.int j]):=e0;exact⟨_,x,y,i,j,congrArg (λq=>[q,.str x,.str y,.int i,.int j]) ea,(Jk nm).2.2,hx,hy,by omega,by omega⟩
theorem LF{ys:List V}(h:ys∈T.t4):∃(a b:Str)(c d:Int),ys=[.str a,.str b,.int c,.int d]/\a.length<=12/\b.length<=12/\c.natAbs<=1000/\d.natAbs<=1000:=by obtain⟨k1,hk⟩:=VM o;have n1:=o.n1;have r:=XU o (j:=4) (.inr (.inr (.inr rfl))) h;have e0:at_ ys 0=.str (nameOf ys):=r.name;have nm:=r.nm;rw[e0]at nm;have hw:=r.why k1 (λ_=>hk.has);obtain⟨a,b,c,d,rfl⟩:=len4 r.len;obtain⟨h1,h2,i,rfl,h0,h3⟩:=JF (hw (300-Z9 [a,b,c,d]) (λ_=>by omega):YJ k1 T.n _ b c d=.non);obtain⟨x,rfl,hx⟩:=(JR o hk h1).nm (.inl rfl);obtain⟨j,rfl,j0,j1⟩:=within_int h2;have ea:a=.str (nameOf [a,.str x,.int j,.int i]):=e0;exact⟨_,x,j,i,congrArg (λq=>[q,.str x,.int j,.int i]) ea,(Jk nm).2.2,hx,by omega,by omega⟩
end
theorem PK(a:Str):Txt.join SP [a]=a:=by apply NG;show cd (Builtin.Str.glued SP [a])=_;rw[StrLaws.glued_eq_join];exact Jp 32 [a]
theorem YU(a b:Str)(r:List Str):Txt.join SP (a::b::r)=a++SP++Txt.join SP (b::r):=by apply NG;show cd (Builtin.Str.glued SP (a::b::r))=cd (a++SP++Builtin.Str.glued SP (b::r));rw[StrLaws.glued_eq_join,StrLaws.glued_eq_join,Jp,Jq,Jq,Jp];show cd a++32::glue 32 (cd b::r.map cd)=cd a++[32]++glue 32 (cd b::r.map cd);rw[List.append_assoc];rfl
theorem Nn(a b c:Str):a++b++c=a++(b++c):=by apply NG;rw[Jq,Jq,Jq,Jq,List.append_assoc]
theorem YE(a b:Str):(a++b).length=a.length+b.length:=by show(a++b).cps.size=a.cps.size+b.cps.size;rw[<-Array.length_toList,<-Array.length_toList,<-Array.length_toList];have:=congrArg List.length (Jq a b);rw[List.length_append]at this;exact this
theorem h_sp:("home ":Str)="home"++SP/\("place ":Str)="place"++SP/\("turns ":Str)="turns"++SP/\("way ":Str)="way"++SP/\("group ":Str)="group"++SP:=by decide +kernel
def PRow(H:Hp)(x:V)(e:Ent):Prop:=∃a,x=.ref a/\H a=some (.tup [.str (pn e.1),.str (line e)])
theorem PRow.same{H H':Hp}(s:Same H H'){x:V}{e:Ent}(h:PRow H x e):PRow H' x e:=by obtain⟨a,ex,h⟩:=h;exact⟨a,ex,s _ _ h⟩
theorem JJ{H H':Hp}{r q:Addr}{xs:List V}{L:List Ent}(e:Ent){n u:Str}{R:V->Hp->Prop}(hno:H r=none)(S:Same H H')(hR:H' r=some (.lst xs))(pr:Paired (PRow H') xs L)(hl:L.length<=1000)(en:n=pn e.1)(eu:u=line e)(hq:H' q=none)(k:∀H2 xs2,Same H H2->H2 r=some (.lst xs2)->Paired (PRow H2) xs2 (L++[e])->R .non H2):RF (.ref r) [.ref q] (upd H' q (.tup [.str n,.str u])) R:=by
 subst en;subst eu;have S1:=sameNew (o:=.tup [.str (pn e.1),.str (line e)]) (Same.refl H') hq;have e1:upd H' q (.tup [.str (pn e.1),.str (line e)]) q=some (.tup [.str (pn e.1),.str (line e)]):=Zc;generalize upd H' q (.tup [.str (pn e.1),.str (line e)])=H1 at S1 e1 ⊢;have hR1:=S1 _ _ hR;refine⟨r,xs,_,rfl,rfl,hR1,Z4 (by rw[pairs_len pr];exact hl),k _ _ ?_ Zc ?_⟩
 ·intro c o ec;rw[Ze (Zf ec hno)];exact S1 _ _ (S _ _ ec)
 ·have keep:∀{x:V}{e:Ent},PRow H1 x e->PRow (upd H1 r (.lst (xs++[.ref q]))) x e:=λh=>by obtain⟨a,ex,h⟩:=h;exact⟨a,ex,by rw[Ze (λz=>by rw[z,hR1]at h;cases h)];exact h⟩
  exact YF (Paired.mapP pr λ_ _ z=>keep (z.same S1)) (.cons (keep ⟨q,rfl,e1⟩) .nil)
theorem tk{t:List (List V)}{i:Nat}(hi:i<t.length)(acc:List Ent)(f:List V->Ent):acc++(t.take (i+1)).map f=acc++(t.take i).map f++[f t[i]]:=by rw[List.take_succ,List.getElem?_eq_getElem hi,List.map_append,List.append_assoc];rfl
theorem lits:(Str.ofString "home ").length=5/\(Str.ofString "place ").length=6/\(Str.ofString "turns ").length=6/\(Str.ofString "way ").length=4/\(Str.ofString "group ").length=6/\(Str.ofString " ").length=1:=by decide +kernel
def Nf:Sp:=λvs H Q _=>∃(b p l1 l2 l3 l4:Addr)(T:Tb),vs=[.ref p]/\TbAt b H p T l1 l2 l3 l4/\OkTb T/\∀H' r xs,Same H H'->H r=none->H' r=some (.lst xs)->Paired (PRow H') xs (ents T)->Q (.ref r) H'
theorem Ds(n:Int):("turns ":Str)++((toString n:String):Str)=line (0,[.int n]):=by show _=Txt.join SP ["turns",((toString n:String):Str)];rw[YU,PK,h_sp.2.2.1]
theorem DO(p:Str×Option Int):line (1,ZM p)=(match p.2 with|none=>("home ":Str)++p.1|some i=>("place ":Str)++p.1++SP++((toString i:String):Str)):=by
 obtain⟨z,r⟩:=p;cases r with
|none=>show Txt.join SP ["home",z]=_;rw[YU,PK];show _=("home ":Str)++z;rw[h_sp.1]
|some i=>show Txt.join SP ["place",z,((toString i:String):Str)]=("place ":Str)++z++SP++((toString i:String):Str);rw[YU,YU,PK,h_sp.2.1];simp only[Nn]
theorem Dn(a b c:Str)(d e:Int):line (3,[.str a,.str b,.str c,.int d,.int e])=("way ":Str)++a++SP++b++SP++c++SP++((toString d:String):Str)++SP++((toString e:String):Str):=by show Txt.join SP ["way",a,b,c,((toString d:String):Str),((toString e:String):Str)]=_;rw[YU,YU,YU,YU,YU,PK,h_sp.2.2.2.1];simp only[Nn]
theorem En(a b:Str)(c d:Int):line (4,[.str a,.str b,.int c,.int d])=("group ":Str)++a++SP++b++SP++((toString c:String):Str)++SP++((toString d:String):Str):=by show Txt.join SP ["group",a,b,((toString c:String):Str),((toString d:String):Str)]=_;rw[YU,YU,YU,YU,PK,h_sp.2.2.2.2];simp only[Nn]
section
variable {P:Program}{w:World}{K:PySem.W.Frag}{mg:Str->Option Value}{base:Heap}{C Cb:Addr}
theorem ZA:FnScope ["_law_world_here","_law_rows_here","_law_name","_law_room","_law_start","_law_leave","_law_goal","_law_come","_law_seats","_law_words","_law_long","_law_wide","_law_place","_law_turn","_law_many"] ["_law_world_here"] (Zg T.f__law_rows):=scO (by decide +kernel)
theorem Tv(B:∀x∈Blts,mg x=none)(D:Df K mg "_law_rows" T.f__law_rows ["_law_world_here"]):Can P w K mg base 1 "_law_rows" ["_law_world_here"] Nf:=by
 refine D.can ZA (λvs H Q E h=>?_) (λf cdv A outer s H vs Q E hr h=>?_)
 ·obtain⟨b,p,l1,l2,l3,l4,T,rfl,_⟩:=h;rfl
 ·obtain⟨b,p,l1,l2,l3,l4,T,rfl,tb,ok,k⟩:=h;refine' ⟨_,(@Zd _ _ _ _ _ ?h18 (@Zd _ _ _ _ _ ?h19 (@Zd _ _ _ _ _ ?h20 (@Zd _ _ _ _ _ ?h21 (@Zd _ _ _ _ _ ?h22 (@Zk _ _ _ ?h23)))))),?rd⟩;case' h23=>refine' (Zq (pv 1))
  case' h22=>refine' (Y3 PassesOwn.never rfl (Yc ?h15) (YS rfl (Zp (Zo (i:=2) ZA.nd rfl (Or.inl rfl)) (Zp (Zo (i:=12) ZA.nd rfl (Or.inl rfl)) (Zp (Zo (i:=13) ZA.nd rfl (Or.inl rfl)) (Zp (Zo (i:=14) ZA.nd rfl (Or.inl rfl)) ZV))))) (@Zk _ _ _ ?h17))
  case' h21=>refine' (Y3 PassesOwn.never rfl (Yc ?h12) (YS rfl (Zp (Zo (i:=2) ZA.nd rfl (Or.inl rfl)) (Zp (Zo (i:=4) ZA.nd rfl (Or.inl rfl)) (Zp (Zo (i:=6) ZA.nd rfl (Or.inl rfl)) (Zp (Zo (i:=10) ZA.nd rfl (Or.inl rfl)) (Zp (Zo (i:=11) ZA.nd rfl (Or.inl rfl)) ZV)))))) (@Zk _ _ _ ?h14))
  case' h20=>refine' (Y3 PassesOwn.never rfl (Yc ?h7) (YS rfl (Zp (Zo (i:=2) ZA.nd rfl (Or.inl rfl)) (Zp (Zo (i:=4) ZA.nd rfl (Or.inl rfl)) (Zp (Zo (i:=5) ZA.nd rfl (Or.inl rfl)) (Zp (Zo (i:=6) ZA.nd rfl (Or.inl rfl)) (Zp (Zo (i:=7) ZA.nd rfl (Or.inl rfl)) (Zp (Zo (i:=8) ZA.nd rfl (Or.inl rfl)) ZV))))))) (@Zd _ _ _ _ _ ?h10 (@Zk _ _ _ ?h11)))
  case' h19=>refine' (Y3 PassesOwn.never rfl (Yc ?h4) (YS rfl (Zp (Zo (i:=2) ZA.nd rfl (Or.inl rfl)) (Zp (Zo (i:=3) ZA.nd rfl (Or.inl rfl)) ZV))) (@Zk _ _ _ ?h6))
  case' h18=>refine' (@st _ _ _ _ 1 _ _ ZA.nd ?h3 (by rfl) (by exact Or.inl rfl) (by rfl) (by exact .inl rfl))
  case' h17=>refine' (ZU (Yq PySem.F.plainAttrs_list PySem.F.slot_list_append PySem.F.type_list_append YA (pv 1) (@Za _ _ _ _ _ ?h16 Zb (by rfl))))
  case' h16=>refine' (@Ys _ _ _ _ _ (@Za _ _ _ _ _ Zn (@Za _ _ _ _ _ (Zv Zy (Zv Zy (Zv Zy (Zv Zy (Zv Zy (Zv Zy (Zv Zy Zn (pv 2)) Zn) (pv 12)) Zn) (ZE Z1 rfl (B _ (by decide +kernel)) YV (@Za _ _ _ _ _ (pv 13) Zb (by rfl)))) Zn) (ZE Z1 rfl (B _ (by decide +kernel)) YV (@Za _ _ _ _ _ (pv 14) Zb (by rfl)))) Zb (by rfl)) (by rfl)))
  case' h15=>refine' (@il _ _ _ _ _ _ K (pv 0) Zi (by rfl) (by exact λ_ _=>rfl))
  case' h14=>refine' (ZU (Yq PySem.F.plainAttrs_list PySem.F.slot_list_append PySem.F.type_list_append YA (pv 1) (@Za _ _ _ _ _ ?h13 Zb (by rfl))))
  case' h13=>refine' (@Ys _ _ _ _ _ (@Za _ _ _ _ _ Zn (@Za _ _ _ _ _ (Zv Zy (Zv Zy (Zv Zy (Zv Zy (Zv Zy (Zv Zy (Zv Zy (Zv Zy (Zv Zy Zn (pv 2)) Zn) (pv 4)) Zn) (pv 6)) Zn) (ZE Z1 rfl (B _ (by decide +kernel)) YV (@Za _ _ _ _ _ (pv 10) Zb (by rfl)))) Zn) (ZE Z1 rfl (B _ (by decide +kernel)) YV (@Za _ _ _ _ _ (pv 11) Zb (by rfl)))) Zb (by rfl)) (by rfl)))
  case' h12=>refine' (@il _ _ _ _ _ _ K (pv 0) Zi (by rfl) (by exact λ_ _=>rfl))
  case' h11=>refine' (ZU (Yq PySem.F.plainAttrs_list PySem.F.slot_list_append PySem.F.type_list_append YA (pv 1) (@Za _ _ _ _ _ ?h9 Zb (by rfl))))
  case' h10=>refine' (@st _ _ _ _ 9 _ _ ZA.nd ?h8 (by rfl) (by exact Or.inl rfl) (by rfl) (by exact .inl rfl))
  case' h9=>refine' (@Ys _ _ _ _ _ (@Za _ _ _ _ _ Zn (@Za _ _ _ _ _ (Yq PySem.F.plainAttrs_str PySem.F.slot_str_join PySem.F.type_str_join XO Zn (@Za _ _ _ _ _ (pv 9) Zb (by rfl))) Zb (by rfl)) (by rfl)))
  case' h8=>refine' (@ZQ _ _ _ _ (@Za _ _ _ _ _ Zn (@Za _ _ _ _ _ (pv 2) (@Za _ _ _ _ _ (pv 4) (@Za _ _ _ _ _ (ZE Z1 rfl (B _ (by decide +kernel)) YV (@Za _ _ _ _ _ (pv 5) Zb (by rfl))) (@Za _ _ _ _ _ (pv 6) (@Za _ _ _ _ _ (ZE Z1 rfl (B _ (by decide +kernel)) YV (@Za _ _ _ _ _ (pv 7) Zb (by rfl))) (@Za _ _ _ _ _ (ZE Z1 rfl (B _ (by decide +kernel)) YV (@Za _ _ _ _ _ (pv 8) Zb (by rfl))) Zb (by rfl)) (by rfl)) (by rfl)) (by rfl)) (by rfl)) (by rfl)) (by rfl)))
  case' h7=>refine' (@il _ _ _ _ _ _ K (pv 0) Zi (by rfl) (by exact λ_ _=>rfl))
  case' h6=>refine' (ZU (Yq PySem.F.plainAttrs_list PySem.F.slot_list_append PySem.F.type_list_append YA (pv 1) (@Za _ _ _ _ _ ?h5 Zb (by rfl))))
  case' h5=>refine' (@Ys _ _ _ _ _ (@Za _ _ _ _ _ Zn (@Za _ _ _ _ _ (JC (@ZC _ _ _ _ _ _ _ _ UN (pv 3) ZR (ZD _)) (Zv Zy Zn (pv 2)) (Zv Zy (Zv Zy (Zv Zy Zn (pv 2)) Zn) (ZE Z1 rfl (B _ (by decide +kernel)) YV (@Za _ _ _ _ _ (pv 3) Zb (by rfl))))) Zb (by rfl)) (by rfl)))
  case' h4=>refine' (@il _ _ _ _ _ _ K (pv 0) Zi (by rfl) (by exact λ_ _=>rfl))
  case' h3=>refine' (@ZQ _ _ _ _ (@Za _ _ _ _ _ ?h2 Zb (by rfl)))
  case' h2=>refine' (@Ys _ _ _ _ _ (@Za _ _ _ _ _ Zn (@Za _ _ _ _ _ (Zv Zy Zn (ZE Z1 rfl (B _ (by decide +kernel)) YV (@Za _ _ _ _ _ ?h1 Zb (by rfl)))) Zb (by rfl)) (by rfl)))
  case' h1=>refine' (@il _ _ _ _ _ _ K (pv 0) Zi (by rfl) (by exact λ_ _=>rfl))
  have hp:=tb.at_;obtain⟨_,as1,g1,len1,at1⟩:=tb.pl;obtain⟨_,as2,g2,len2,at2⟩:=tb.rd;obtain⟨_,as3,g3,len3,at3⟩:=tb.wy;obtain⟨_,as4,g4,len4,at4⟩:=tb.gr;have m1:T.t1.length<=14:=(ok.part 1 (.inl rfl)).1;have m2:T.t2.length<=80:=(ok.part 2 (.inr (.inl rfl))).1;have m3:T.t3.length<=40:=(ok.part 3 (.inr (.inr (.inl rfl)))).1;have m4:T.t4.length<=300:=(ok.part 4 (.inr (.inr (.inr rfl)))).1;have n0:=ok.n0;have n1:=ok.n1;have ix:∀{H':Hp},Same H H'->SqL K H' p [.int T.n,.ref l1,.ref l2,.ref l3,.ref l4]:=λs=>SqL.of (s _ _ hp);have lg:∀{i:Int},i.natAbs<=1000->i.natAbs.log2<1920:=λh=>Nat.lt_of_le_of_lt (lgk h) (by decide);refine⟨_,rfl,p,_,0,_,rfl,rfl,ix (Same.refl _),Zr (j:=0) rfl,T.n,rfl,lg (by omega),_,_,rfl,rfl,?_,?_⟩
  ·simp only[lits];have:=YZ (i:=T.n) (by omega);exact Nat.le_trans (show _<=300 by omega) (by decide)
  refine⟨zl,λt0 ht0=>⟨zl,λr hr0=>?_⟩⟩;dsimp only[tNil];have N0:=sameNew (o:=.tup [.str (Str.ofString "turns"),.str (Str.ofString "turns "++Str.ofString (toString T.n))]) (Same.refl H) ht0;have e0:upd H t0 (.tup [.str (Str.ofString "turns"),.str (Str.ofString "turns "++Str.ofString (toString T.n))]) t0=some (.tup [.str (Str.ofString "turns"),.str (Str.ofString "turns "++Str.ofString (toString T.n))]):=Zc;generalize upd H t0 (.tup [.str (Str.ofString "turns"),.str (Str.ofString "turns "++Str.ofString (toString T.n))])=G0 at N0 e0 hr0 ⊢;have N1:=sameNew (o:=.lst [.ref t0]) (Same.refl G0) hr0;have hR0:upd G0 r (.lst [.ref t0]) r=some (.lst [.ref t0]):=Zc;have hno:H r=none:=by
   cases e:H r with
  |none=>rfl
  |some o=>rw[N0 _ _ e]at hr0;cases hr0
  generalize upd G0 r (.lst [.ref t0])=G1 at N1 hR0 ⊢;have S0:=N0.trans N1;have pr0:Paired (PRow G1) [.ref t0] ([((0,[V.int T.n]):Ent)]++(T.t1.take 0).map λy=>((1,y):Ent)):=.cons ⟨t0,rfl,by rw[N1 _ _ e0];exact congrArg (λu=>some (HO.tup [.str "turns",.str u])) (Ds T.n)⟩ .nil;refine⟨_,rfl,p,_,1,_,rfl,rfl,ix S0,Zr (j:=1) rfl,l1,rfl,⟨_,SqL.of (S0 _ _ g1)⟩,?_⟩;refine XY (J:=Itl K l1) T.t1.length (λi σ H'=>Same H H'/\(∃xs,H' r=some (.lst xs)/\Paired (PRow H') xs ([((0,[V.int T.n]):Ent)]++(T.t1.take i).map λy=>((1,y):Ent)))/\∃v2 v3 v4 v5 v6 v7 v8 v9 v10 v11 v12 v13 v14,σ=[some (.ref p),some (.ref r),v2,v3,v4,v5,v6,v7,v8,v9,v10,v11,v12,v13,v14]) ⟨S0,⟨_,hR0,pr0⟩,none,none,none,none,none,none,none,none,none,none,none,none,none,rfl⟩ (λi σ H' hi p=>?_) (λσ H' p=>?_) (λi σ H' x H2 hi pp yl=>?_) (λσ H1 pp=>?_)
  ·exact⟨_,.ref (as1[i]'(by omega)),SqL.of (p.1 _ _ g1),by rw[List.getElem?_map,List.getElem?_eq_getElem (by omega)];rfl⟩
  ·exact⟨_,SqL.of (p.1 _ _ g1),by rw[List.length_map,len1];exact Nat.le_refl _⟩
  ·obtain⟨S,⟨xs,hR,pr⟩,v2,v3,v4,v5,v6,v7,v8,v9,v10,v11,v12,v13,v14,rfl⟩:=pp;obtain⟨rfl,hy⟩:=yl;have hx:=hy _ (SqL.of (S _ _ g1));rw[List.getElem?_map,List.getElem?_eq_getElem (by omega:i<as1.length)]at hx;have ex:V.ref as1[i]=x:=Option.some.inj hx;subst ex;have ha:=S _ _ (at1 i _ _ (List.getElem?_eq_getElem (by omega)) (List.getElem?_eq_getElem hi)).2;have hm:T.t1[i]∈T.part 1:=List.getElem_mem hi;have hl:([((0,[V.int T.n]):Ent)]++(T.t1.take i).map λy=>((1,y):Ent)).length<=1000:=by simp only[List.length_append,List.length_map,List.length_take,List.length_cons,List.length_nil];omega
   obtain⟨⟨z,rm⟩,ep,hg,hrm⟩:=Gy ok hm;have hz:z.length<=12:=hg.1;have EJ:T.t1[i]=ZM (z,rm):=ep;rw[EJ]at ha;have pl:=DO (z,rm);cases rm with
  |none=>refine⟨as1[i],_,rfl,SqT.of ha,rfl,_,_,rfl,_,_,rfl,rfl,?_⟩;refine⟨_,rfl,.inl ⟨rfl,xs,SqL.of hR⟩,_,rfl,rfl,_,rfl,iteT ?_⟩;refine⟨_,rfl,_,_,rfl,rfl,(by simp only[YE,lits];exact Nat.le_trans (show _<=300 by omega) (by decide)),zl,λq hq=>?_⟩;dsimp only[tNil];exact JJ (1,ZM (z,none)) hno S hR pr hl rfl pl.symm hq (λH3 xs3 S3 h3 p3=>⟨S3,⟨xs3,h3,by rw[tk hi,EJ];exact p3⟩,_,_,_,_,_,_,_,_,_,_,_,_,_,rfl⟩)
  |some n=>have hn:=hrm n rfl;have hi1:=YZ (i:=n) (by omega);refine⟨as1[i],_,rfl,SqT.of ha,rfl,_,_,rfl,_,_,rfl,rfl,?_⟩;refine⟨_,rfl,.inl ⟨rfl,xs,SqL.of hR⟩,_,rfl,rfl,_,rfl,iteF ?_⟩;refine⟨_,rfl,_,_,rfl,rfl,(by simp only[YE,lits];exact Nat.le_trans (show _<=300 by omega) (by decide)),_,_,rfl,rfl,(by simp only[YE,lits];exact Nat.le_trans (show _<=300 by omega) (by decide)),_,rfl,n,rfl,lg (by omega),_,_,rfl,rfl,(by simp only[YE,lits];exact Nat.le_trans (show _<=300 by omega) (by decide)),zl,λq hq=>?_⟩;dsimp only[tNil];exact JJ (1,ZM (z,some n)) hno S hR pr hl rfl (by rw[pl];rfl) hq (λH3 xs3 S3 h3 p3=>⟨S3,⟨xs3,h3,by rw[tk hi,EJ];exact p3⟩,_,_,_,_,_,_,_,_,_,_,_,_,_,rfl⟩)
  obtain⟨S1,⟨xs1,hR1,pr1⟩,v2,v3,v4,v5,v6,v7,v8,v9,v10,v11,v12,v13,v14,rfl⟩:=pp;rw[List.take_length]at pr1;refine⟨_,rfl,p,_,2,_,rfl,rfl,ix S1,Zr (j:=2) rfl,l2,rfl,⟨_,SqL.of (S1 _ _ g2)⟩,?_⟩;refine XY (J:=Itl K l2) T.t2.length (λi σ H'=>Same H H'/\(∃xs,H' r=some (.lst xs)/\Paired (PRow H') xs (([((0,[V.int T.n]):Ent)]++T.t1.map λy=>((1,y):Ent))++(T.t2.take i).map λy=>((2,y):Ent)))/\∃v2 v3 v4 v5 v6 v7 v8 v9 v10 v11 v12 v13 v14,σ=[some (.ref p),some (.ref r),v2,v3,v4,v5,v6,v7,v8,v9,v10,v11,v12,v13,v14]) ⟨S1,⟨_,hR1,by rw[List.take_zero,List.map_nil,List.append_nil];exact pr1⟩,_,_,_,_,_,_,_,_,_,_,_,_,_,rfl⟩ (λi σ H' hi p=>?_) (λσ H' p=>?_) (λi σ H' x H2 hi pp yl=>?_) (λσ H2 pp=>?_)
  ·exact⟨_,.ref (as2[i]'(by omega)),SqL.of (p.1 _ _ g2),by rw[List.getElem?_map,List.getElem?_eq_getElem (by omega)];rfl⟩
  ·exact⟨_,SqL.of (p.1 _ _ g2),by rw[List.length_map,len2];exact Nat.le_refl _⟩
  ·obtain⟨S,⟨xs,hR,pr⟩,v2,v3,v4,v5,v6,v7,v8,v9,v10,v11,v12,v13,v14,rfl⟩:=pp;obtain⟨rfl,hy⟩:=yl;have hx:=hy _ (SqL.of (S _ _ g2));rw[List.getElem?_map,List.getElem?_eq_getElem (by omega:i<as2.length)]at hx;have ex:V.ref as2[i]=x:=Option.some.inj hx;subst ex;have ha:=S _ _ (at2 i _ _ (List.getElem?_eq_getElem (by omega)) (List.getElem?_eq_getElem hi)).2;have hm:T.t2[i]∈T.part 2:=List.getElem_mem hi;have hl:(([((0,[V.int T.n]):Ent)]++T.t1.map λy=>((1,y):Ent))++(T.t2.take i).map λy=>((2,y):Ent)).length<=1000:=by simp only[List.length_append,List.length_map,List.length_take,List.length_cons,List.length_nil];omega
   obtain⟨a,b',d,c,e,f',EJ,h1,h2,h3,h4,h5,h6⟩:=Eo ok hm;have EJ:T.t2[i]=[.str a,.str b',.int c,.str d,.int e,.int f']:=EJ;rw[EJ]at ha;have k4:=YZ h4;have k5:=YZ h5;have k6:=YZ h6;refine⟨as2[i],_,rfl,SqT.of ha,rfl,_,_,rfl,_,_,rfl,_,_,rfl,_,_,rfl,_,_,rfl,_,_,rfl,rfl,?_⟩;refine⟨_,rfl,_,rfl,_,rfl,c,rfl,lg h4,_,rfl,_,rfl,e,rfl,lg h5,_,rfl,f',rfl,lg h6,zl,λc1 hc1=>?_⟩;dsimp only[tNil];have N1:=sameNew (o:=.lst ([("ride":Str),a,b',((toString c:String):Str),d,((toString e:String):Str),((toString f':String):Str)].map V.str)) (Same.refl _) hc1;have e1:upd H2 c1 (.lst ([("ride":Str),a,b',((toString c:String):Str),d,((toString e:String):Str),((toString f':String):Str)].map V.str)) c1=_:=Zc;refine⟨_,rfl,.inl ⟨rfl,xs,SqL.of (N1 _ _ hR)⟩,rfl,_,rfl,_,c1,[("ride":Str),a,b',((toString c:String):Str),d,((toString e:String):Str),((toString f':String):Str)],rfl,rfl,SqL.of e1,?_,zl,λq hq=>?_⟩
   ·simp only[List.map_cons,List.map_nil,List.sum_cons,List.sum_nil,List.length_cons,List.length_nil,lits];have:("ride":Str).length=4:=by decide +kernel
    omega
   dsimp only[tNil];exact JJ (2,T.t2[i]) hno (S.trans N1) (N1 _ _ hR) (Paired.mapP pr λ_ _ z=>z.same N1) hl rfl (by rw[EJ];rfl) hq (λH3 xs3 S3 h3 p3=>⟨S3,⟨xs3,h3,by rw[tk hi];exact p3⟩,_,_,_,_,_,_,_,_,_,_,_,_,_,rfl⟩)
  obtain⟨S2,⟨xs2,hR2,pr2⟩,v2,v3,v4,v5,v6,v7,v8,v9,v10,v11,v12,v13,v14,rfl⟩:=pp;rw[List.take_length]at pr2;refine⟨_,rfl,p,_,3,_,rfl,rfl,ix S2,Zr (j:=3) rfl,l3,rfl,⟨_,SqL.of (S2 _ _ g3)⟩,?_⟩;refine XY (J:=Itl K l3) T.t3.length (λi σ H'=>Same H H'/\(∃xs,H' r=some (.lst xs)/\Paired (PRow H') xs ((([((0,[V.int T.n]):Ent)]++T.t1.map λy=>((1,y):Ent))++T.t2.map λy=>((2,y):Ent))++(T.t3.take i).map λy=>((3,y):Ent)))/\∃v2 v3 v4 v5 v6 v7 v8 v9 v10 v11 v12 v13 v14,σ=[some (.ref p),some (.ref r),v2,v3,v4,v5,v6,v7,v8,v9,v10,v11,v12,v13,v14]) ⟨S2,⟨_,hR2,by rw[List.take_zero,List.map_nil,List.append_nil];exact pr2⟩,_,_,_,_,_,_,_,_,_,_,_,_,_,rfl⟩ (λi σ H' hi p=>?_) (λσ H' p=>?_) (λi σ H' x H2 hi pp yl=>?_) (λσ H3 pp=>?_)
  ·exact⟨_,.ref (as3[i]'(by omega)),SqL.of (p.1 _ _ g3),by rw[List.getElem?_map,List.getElem?_eq_getElem (by omega)];rfl⟩
  ·exact⟨_,SqL.of (p.1 _ _ g3),by rw[List.length_map,len3];exact Nat.le_refl _⟩
  ·obtain⟨S,⟨xs,hR,pr⟩,v2,v3,v4,v5,v6,v7,v8,v9,v10,v11,v12,v13,v14,rfl⟩:=pp;obtain⟨rfl,hy⟩:=yl;have hx:=hy _ (SqL.of (S _ _ g3));rw[List.getElem?_map,List.getElem?_eq_getElem (by omega:i<as3.length)]at hx;have ex:V.ref as3[i]=x:=Option.some.inj hx;subst ex;have ha:=S _ _ (at3 i _ _ (List.getElem?_eq_getElem (by omega)) (List.getElem?_eq_getElem hi)).2;have hm:T.t3[i]∈T.part 3:=List.getElem_mem hi;have hl:((([((0,[V.int T.n]):Ent)]++T.t1.map λy=>((1,y):Ent))++T.t2.map λy=>((2,y):Ent))++(T.t3.take i).map λy=>((3,y):Ent)).length<=1000:=by simp only[List.length_append,List.length_map,List.length_take,List.length_cons,List.length_nil];omega
   obtain⟨a,b',c,d,e,EJ,h1,h2,h3,h4,h5⟩:=Fc ok hm;have EJ:T.t3[i]=[.str a,.str b',.str c,.int d,.int e]:=EJ;rw[EJ]at ha;have k4:=YZ h4;have k5:=YZ h5;refine⟨as3[i],_,rfl,SqT.of ha,rfl,_,_,rfl,_,_,rfl,_,_,rfl,_,_,rfl,_,_,rfl,rfl,?_⟩;refine⟨_,rfl,.inl ⟨rfl,xs,SqL.of hR⟩,_,rfl,_,_,rfl,rfl,(by simp only[YE,lits];exact Nat.le_trans (show _<=300 by omega) (by decide)),_,_,rfl,rfl,(by simp only[YE,lits];exact Nat.le_trans (show _<=300 by omega) (by decide)),_,rfl,_,_,rfl,rfl,(by simp only[YE,lits];exact Nat.le_trans (show _<=300 by omega) (by decide)),_,_,rfl,rfl,(by simp only[YE,lits];exact Nat.le_trans (show _<=300 by omega) (by decide)),_,rfl,_,_,rfl,rfl,(by simp only[YE,lits];exact Nat.le_trans (show _<=300 by omega) (by decide)),_,_,rfl,rfl,(by simp only[YE,lits];exact Nat.le_trans (show _<=300 by omega) (by decide)),_,rfl,d,rfl,lg h4,_,_,rfl,rfl,(by simp only[YE,lits];exact Nat.le_trans (show _<=300 by omega) (by decide)),_,_,rfl,rfl,(by simp only[YE,lits];exact Nat.le_trans (show _<=300 by omega) (by decide)),_,rfl,e,rfl,lg h5,_,_,rfl,rfl,(by simp only[YE,lits];exact Nat.le_trans (show _<=300 by omega) (by decide)),zl,λq hq=>?_⟩;dsimp only[tNil];exact JJ (3,T.t3[i]) hno S hR pr hl rfl (by rw[EJ,Dn];rfl) hq (λH3 xs3 S3 h3 p3=>⟨S3,⟨xs3,h3,by rw[tk hi];exact p3⟩,_,_,_,_,_,_,_,_,_,_,_,_,_,rfl⟩)
  obtain⟨S3,⟨xs3,hR3,pr3⟩,v2,v3,v4,v5,v6,v7,v8,v9,v10,v11,v12,v13,v14,rfl⟩:=pp;rw[List.take_length]at pr3;refine⟨_,rfl,p,_,4,_,rfl,rfl,ix S3,Zr (j:=4) rfl,l4,rfl,⟨_,SqL.of (S3 _ _ g4)⟩,?_⟩;refine XY (J:=Itl K l4) T.t4.length (λi σ H'=>Same H H'/\(∃xs,H' r=some (.lst xs)/\Paired (PRow H') xs (((([((0,[V.int T.n]):Ent)]++T.t1.map λy=>((1,y):Ent))++T.t2.map λy=>((2,y):Ent))++T.t3.map λy=>((3,y):Ent))++(T.t4.take i).map λy=>((4,y):Ent)))/\∃v2 v3 v4 v5 v6 v7 v8 v9 v10 v11 v12 v13 v14,σ=[some (.ref p),some (.ref r),v2,v3,v4,v5,v6,v7,v8,v9,v10,v11,v12,v13,v14]) ⟨S3,⟨_,hR3,by rw[List.take_zero,List.map_nil,List.append_nil];exact pr3⟩,_,_,_,_,_,_,_,_,_,_,_,_,_,rfl⟩ (λi σ H' hi p=>?_) (λσ H' p=>?_) (λi σ H' x H2 hi pp yl=>?_) (λσ H4 pp=>?_)
  ·exact⟨_,.ref (as4[i]'(by omega)),SqL.of (p.1 _ _ g4),by rw[List.getElem?_map,List.getElem?_eq_getElem (by omega)];rfl⟩
  ·exact⟨_,SqL.of (p.1 _ _ g4),by rw[List.length_map,len4];exact Nat.le_refl _⟩
  ·obtain⟨S,⟨xs,hR,pr⟩,v2,v3,v4,v5,v6,v7,v8,v9,v10,v11,v12,v13,v14,rfl⟩:=pp;obtain⟨rfl,hy⟩:=yl;have hx:=hy _ (SqL.of (S _ _ g4));rw[List.getElem?_map,List.getElem?_eq_getElem (by omega:i<as4.length)]at hx;have ex:V.ref as4[i]=x:=Option.some.inj hx;subst ex;have ha:=S _ _ (at4 i _ _ (List.getElem?_eq_getElem (by omega)) (List.getElem?_eq_getElem hi)).2;have hm:T.t4[i]∈T.part 4:=List.getElem_mem hi;have hl:(((([((0,[V.int T.n]):Ent)]++T.t1.map λy=>((1,y):Ent))++T.t2.map λy=>((2,y):Ent))++T.t3.map λy=>((3,y):Ent))++(T.t4.take i).map λy=>((4,y):Ent)).length<=1000:=by simp only[List.length_append,List.length_map,List.length_take,List.length_cons,List.length_nil];omega
   obtain⟨a,b',c,d,EJ,h1,h2,h4,h5⟩:=LF ok hm;have EJ:T.t4[i]=[.str a,.str b',.int c,.int d]:=EJ;rw[EJ]at ha;have k4:=YZ h4;have k5:=YZ h5;refine⟨as4[i],_,rfl,SqT.of ha,rfl,_,_,rfl,_,_,rfl,_,_,rfl,_,_,rfl,rfl,?_⟩;refine⟨_,rfl,.inl ⟨rfl,xs,SqL.of hR⟩,_,rfl,_,_,rfl,rfl,(by simp only[YE,lits];exact Nat.le_trans (show _<=300 by omega) (by decide)),_,_,rfl,rfl,(by simp only[YE,lits];exact Nat.le_trans (show _<=300 by omega) (by decide)),_,rfl,_,_,rfl,rfl,(by simp only[YE,lits];exact Nat.le_trans (show _<=300 by omega) (by decide)),_,_,rfl,rfl,(by simp only[YE,lits];exact Nat.le_trans (show _<=300 by omega) (by decide)),_,rfl,c,rfl,lg h4,_,_,rfl,rfl,(by simp only[YE,lits];exact Nat.le_trans (show _<=300 by omega) (by decide)),_,_,rfl,rfl,(by simp only[YE,lits];exact Nat.le_trans (show _<=300 by omega) (by decide)),_,rfl,d,rfl,lg h5,_,_,rfl,rfl,(by simp only[YE,lits];exact Nat.le_trans (show _<=300 by omega) (by decide)),zl,λq hq=>?_⟩;dsimp only[tNil];exact JJ (4,T.t4[i]) hno S hR pr hl rfl (by rw[EJ,En];rfl) hq (λH3 xs3 S3 h3 p3=>⟨S3,⟨xs3,h3,by rw[tk hi];exact p3⟩,_,_,_,_,_,_,_,_,_,_,_,_,_,rfl⟩)
  obtain⟨S4,⟨xs4,hR4,pr4⟩,v2,v3,v4,v5,v6,v7,v8,v9,v10,v11,v12,v13,v14,rfl⟩:=pp;rw[List.take_length]at pr4;refine⟨_,rfl,k _ r _ S4 hno hR4 ?_⟩;have:ents T=[((0,[V.int T.n]):Ent)]++(T.t1.map λy=>((1,y):Ent))++(T.t2.map λy=>((2,y):Ent))++(T.t3.map λy=>((3,y):Ent))++T.t4.map λy=>((4,y):Ent):=by unfold ents;simp only[List.append_assoc,List.cons_append,List.nil_append]
  rw[this];exact pr4
end
end TX
namespace L2
open PySem PySem.Spec PyProof.Rows
theorem Pq{X:Cx}(hu:X.A.units+64<cLine):OpR X (compareOp .NotEq) (rNil true X.K):=by
 intro pins s σ H x y v u Q I rx ry h;obtain⟨a,b,xs,rfl,rfl,ha,hb,q⟩:=h;cases rx;cases ry;obtain⟨its,rv,p1,_⟩:=I.list ha;obtain⟨_,its2,n2,rv2,_,e2⟩:=I.lstM hb;have h2:=rv2.zero;subst h2;have l2:s.heap.IsList b #[]:=⟨_,e2,rfl,_,rfl⟩;have hl:=rv.length;by_cases hx:xs=[]
 ·subst hx;have h1:=rv.zero;subst h1;refine SeqAt.RcNeAt.lists (A:=X.A) (s:=s) (e:=λ_=>true) p1.isList l2 rfl (by omega) (λj h1 h2=>by simp at h2) X.prog X.w X.xe (EP X pins σ Q) ⟨.bl false,H,I,rfl,?_⟩;simpa using q
 ·refine SeqAt.RcNeAt.lists_lengths (A:=X.A) (s:=s) p1.isList l2 ?_ (by omega) X.prog X.w X.xe (EP X pins σ Q) ⟨.bl true,H,I,rfl,?_⟩
  ·simpa using λz=>hx (by subst z;simpa using hl)
  ·simpa[hx]using q
end L2
namespace TX
open PySem L2 PySem.Spec PyProof.Rows TB WD
noncomputable def RO(a:Addr)(H:Hp):Nat:=match H a with
|some (.lst xs)=>xs.length
|_=>0
theorem VO{a:Addr}{H:Hp}{xs:List V}(h:H a=some (.lst xs)):RO a H=xs.length:=by unfold RO;rw[h]
theorem Mm{α:Type}:∀{l:List α}{i:Nat}(h:i<l.length),(l[i]::l.eraseIdx i).Perm l
|[],_,h=>by cases h
|x::l,0,_=>List.Perm.refl _
|x::l,i+1,h=>by
  have hi:i<l.length:=by simpa using h
  have ih:=Mm hi;show(l[i]::x::l.eraseIdx i).Perm (x::l);exact(List.Perm.swap _ _ _).trans (List.Perm.cons _ ih)
def N6:Sp:=λvs H Q _=>∃(b l:Addr)(zs:List V),vs=[.ref b,.ref l]/\Zz H b/\l≠b/\H l=some (.lst zs)/\zs.length<=1000/\∀H' r ys,Zz H' b->Zj b H H'->r≠b->H' r=some (.lst ys)->ys.Perm zs->Q (.ref r) H'
section
variable {P:Program}{w:World}{K:PySem.W.Frag}{mg:Str->Option Value}{base:Heap}{C Cb:Addr}
theorem XS:FnScope ["_law_box_here","_law_some","_law_left","_law_found"] ["_law_box_here","_law_some"] (Zg T.f__law_turned):=scO (by decide +kernel)
theorem Q1(B:∀x∈Blts,mg x=none)(CT:Can P w K mg base 1 "_law_take" ["_law_box_here","_law_many"] Xj)(D:Df K mg "_law_turned" T.f__law_turned ["_law_box_here","_law_some"]):Can P w K mg base 2 "_law_turned" ["_law_box_here","_law_some"] N6:=by
 refine D.can XS (λvs H Q E h=>by obtain⟨b,l,zs,rfl,_⟩:=h;rfl) λf cdv A outer s H vs Q E hr h=>?_;obtain⟨b,l,zs,rfl,hb,nl,hl,hz,k⟩:=h;refine⟨_,(Zd (st 2 XS.nd (ZE NI rfl (B _ (by decide +kernel)) NJ (Za (pv 1) Zb))) (Zd (st 3 XS.nd (ZQ Zb)) (Zd (Ph PassesOwn.never (ZC (Pq hr.units) (pv 2) (ZQ Zb) (ZD _)) (Zk (ZU (Yq PySem.F.plainAttrs_list PySem.F.slot_list_append PySem.F.type_list_append YA (pv 3) (Za (Yq PySem.F.plainAttrs_list PySem.F.slot_list_pop PySem.F.type_list_pop W3 (pv 2) (Za (cn CT hr (Za (pv 0) (Za (ZI (r:=rLen K) Yg rfl (B _ (by decide +kernel)) PySem.boot_len (Za (pv 2) Zb)) Zb))) Zb)) Zb))))) (Zk (Zq (pv 3)))))),?_⟩;refine⟨_,rfl,l,zs,rfl,.inl (SqL.of hl),λlf hlf=>?_⟩;have B1:=hb.new (o:=.lst zs) hlf;have S1:=(Zj.refl b H).new' (o:=.lst zs) hlf;have nlf:=hb.ne hlf;have e1:upd H lf (.lst zs) lf=some (.lst zs):=Zc;generalize upd H lf (.lst zs)=H1 at B1 S1 e1 ⊢;refine⟨zl,λfd hfd=>?_⟩;dsimp only[tNil];have B2:=B1.new (o:=.lst []) hfd;have S2:=(Zj.refl b H1).new' (o:=.lst []) hfd;have nfd:=B1.ne hfd;have lfd:lf≠fd:=Zf e1 hfd;have e2:upd H1 fd (.lst []) fd=some (.lst []):=Zc;have hno:H fd=none:=by
  cases e:H fd with
 |none=>rfl
 |some o=>rw[S1 _ _ e nfd]at hfd;cases hfd
 generalize upd H1 fd (.lst [])=H2 at B2 S2 e2 ⊢;refine NW (λσ H'=>σ=[some (.ref b),some (.ref l),some (.ref lf),some (.ref fd)]/\Zz H' b/\Zj b H H'/\∃xs ys,H' lf=some (.lst xs)/\H' fd=some (.lst ys)/\(ys++xs).Perm zs) (λσ H'=>RO lf H') ⟨rfl,B2,S1.trans S2,zs,[],S2 _ _ e1 nlf,e2,List.Perm.refl _⟩ (λσ H3 p=>?_) (λσ H' Q Q' hq h=>?_)
 ·obtain⟨rfl,B3,S3,xs,ys,e3,f3,pm⟩:=p;refine⟨_,rfl,zl,λc hc=>?_⟩;dsimp only[tNil];have B4:=B3.new (o:=.lst []) hc;have S4:=(Zj.refl b H3).new' (o:=.lst []) hc;have e4:upd H3 c (.lst []) c=some (.lst []):=Zc;generalize upd H3 c (.lst [])=H4 at B4 S4 e4 ⊢;have e3':=S4 _ _ e3 nlf;have f3':=S4 _ _ f3 nfd;refine⟨lf,c,xs,rfl,rfl,SqL.of e3',e4,_,rfl,?_⟩;have pl:=pm.length_eq;rw[List.length_append]at pl;by_cases hx:xs=[]
  ·subst hx;rw[decide_eq_true rfl];refine iteF ?_;rw[List.append_nil]at pm;exact⟨_,rfl,k H4 fd ys B4 (S3.trans S4) nfd f3' pm⟩
  ·rw[decide_eq_false hx];refine iteT ?_;have hpos:0<xs.length:=List.length_pos_iff.mpr hx;refine⟨_,rfl,.inl ⟨rfl,ys,SqL.of f3'⟩,_,rfl,.inl ⟨rfl,xs,SqL.of e3'⟩,_,rfl,_,rfl,lf,_,rfl,.inl (SqL.of e3'),b,_,rfl,B4,by omega,Zw (by omega) (by omega),λr H5 r0 r1 B5 S5=>?_⟩;have e5:=S5 _ _ e3' nlf;have f5:=S5 _ _ f3' nfd;have hr1:r.toNat<xs.length:=by omega
   have sq:seqIndex? r xs.length=some r.toNat:=PySem.StrLaws.seqIndex_nonneg r0 r1;refine⟨lf,xs,r,r.toNat,xs[r.toNat],rfl,rfl,e5,by omega,by omega,sq,List.getElem?_eq_getElem hr1,?_⟩;dsimp only[tNil];refine⟨fd,ys,_,rfl,rfl,by rw[Ze lfd.symm];exact f5,Z4 (by omega),?_⟩;have eL:upd (upd H5 lf (.lst (xs.eraseIdx r.toNat))) fd (.lst (ys++[xs[r.toNat]])) lf=some (.lst (xs.eraseIdx r.toNat)):=by rw[Ze lfd,Zc]
   refine⟨⟨rfl,?_,?_,_,_,eL,Zc,?_⟩,?_⟩
   ·obtain⟨x,y,z,eb⟩:=B5;exact⟨x,y,z,by rw[Ze nfd.symm,Ze nlf.symm];exact eb⟩
   ·intro c' o ec hc';rw[Ze (Zf ec hno),Ze (Zf ec hlf)];exact S5 _ _ (S4 _ _ (S3 _ _ ec hc') hc') hc'
   ·rw[List.append_assoc];exact(List.Perm.append_left ys (Mm hr1)).trans pm
   ·rw[VO eL,VO e3,List.length_eraseIdx_of_lt hr1];omega
 ·obtain⟨v,ev,z,h⟩:=h;refine⟨v,ev,z,λp hp=>?_⟩;obtain⟨a,b',xs,e1,e2,e3,e4,bb,e5,q⟩:=h p hp;exact⟨a,b',xs,e1,e2,e3,e4,bb,e5,hq _ _ q⟩
end
end TX
namespace L2
open PySem PySem.Spec PyProof.Rows
section
variable {prog:Program}{w:World}{K:Type}[DecidableEq K]{knd:KeyKind prog w K}{A:Around}{E:Value->Shared->Prop}{s:Shared}
theorem GZ{d:Addr}{kvs:List (K×Value)}{k:K}{key v:Value}{Q:Value->Shared->Prop}(hkey:knd.is k key=true)(hm:s.heap.DictOf knd d kvs)(hnot:k∉kvs.map (·.1))(hQ:∀h',h'.DictOf knd d (kvs++[(k,v)])->Heap.SameBut d s.heap h'->Q v {s with heap:=h',toks:=s.toks+1})(hsz:kvs.length<=sizeLine):wpAny (model prog w) A (dictSetDefault d key v) Q E s:=by
 obtain⟨o,es,ep,ho,hc,hd,hk,hp,hn⟩:=hm;have hes:es.size<=sizeLine:=by
  have e1:=hp.length;have e2:es.toList.length=es.size:=by simp
  omega
 have hidx:(es.findIdx? λe=>knd.is k e.key)=kvs.findIdx? λkv=>decide (kv.1=k):=by rw[<-hp.findIdx k];obtain⟨l⟩:=es;simp
 have hi:(es.findIdx? λe=>knd.is k e.key)=none:=by rw[hidx,List.findIdx?_eq_none_iff];intro kv hkv;exact decide_eq_false λe=>hnot (List.mem_map.mpr ⟨kv,hkv,e⟩)
 unfold dictSetDefault;try with_reducible refine wpAny_holding ?_
 refine wpAny_bind (knd.pyHash hkey ?_);refine wpAny_bind (wpAny_dictFind_of (s:={s with toks:=s.toks+1}) hkey ho hd hk ?_);rw[hi];refine wpAny_bind (wpAny_rule (wpAny_bind (wpAny_updateDictKeys (hz:=hes) (s:={s with toks:=s.toks+1}) ho hd (wpAny_pure (hQ _ ⟨_,_,ep+1,Heap.get?_update_self _ ho (Obj.isFreed_of_dict (Obj.data_mapDictKeys hd _)),hc.mapDictKeys _,Obj.data_mapDictKeys hd _,hk.push hkey _,?_,?_⟩ (Heap.SameBut.update ..))))))
 ·have:=hp.append hkey (knd.hash k) v;obtain⟨l⟩:=es;simpa using this
 ·rw[List.map_append,List.nodup_append];refine⟨hn,by simp,?_⟩;intro a ha b hb;simp only[List.map_cons,List.map_nil,List.mem_singleton]at hb;subst hb;exact λe=>hnot (e▸ha)
theorem Qj{kvs:List (K×Value)}{k:K}(h:valueAt kvs k=none):k∉kvs.map (·.1):=by intro hm;obtain⟨kv,hkv,e⟩:=List.mem_map.mp hm;unfold valueAt at h;rw[Option.map_eq_none_iff,List.find?_eq_none]at h;exact absurd e (by simpa using h kv hkv)
theorem SW{h:Heap}{d:Addr}{kvs:List (K×Value)}(hm:h.DictOf knd d kvs)(hsz:kvs.length<=sizeLine):h.DictLe d sizeLine:=by
 obtain⟨o,es,ep,ho,hc,hd,hk,hp,hn⟩:=hm;intro o' es' ep' ho' hd';rw[ho]at ho';cases ho';rw[hd]at hd';cases hd';have e1:=hp.length;have e2:es.toList.length=es.size:=by simp
 omega
theorem NB{d:Addr}{kvs:List (K×Value)}{k:K}{key:Value}(hkey:knd.is k key=true)(hd:(d==sysModules)=false)(dflt:Value):MeetsIn prog w (Builtin.«dict.setdefault» ⟨[.ref d,key,dflt],[]⟩) (λ_ R s=>s.heap.DictOf knd d kvs/\kvs.length<=sizeLine /\(∀v,valueAt kvs k=some v->R (.ok (.ret v)) {s with toks:=s.toks+1}) /\(valueAt kvs k=none->∀h',h'.DictOf knd d (kvs++[(k,dflt)])->Heap.SameBut d s.heap h'->R (.ok (.ret dflt)) {s with heap:=h',toks:=s.toks+1})):=.of_wp λA R s⟨hm,hz,h1,h2⟩=>by
  unfold Builtin.«dict.setdefault»;refine wpAny_bind ?_;unfold Builtin.Dict.keyAndDefault;refine wpAny_bind (wpAny_notOrdered_dict hm.mapOf.typeIs ?_);show wpAny _ _ (pure (d,key,some dflt)) _ _ s;refine wpAny_pure ?_;show wpAny _ _ (if(d==sysModules)=true then _ else(dictSetDefault d key dflt >>= _)) _ _ s;rw[if_neg (by rw[hd];exact Bool.false_ne_true)];cases e:valueAt kvs k with
 |some v=>exact wpAny_bind (wpAny_dictSetDefault_of (hz:=SW hm hz) hkey hm.mapOf (λv hv=>wpAny_pure ⟨v,rfl,h1 v hv⟩) λhn=>by rw[e]at hn;cases hn)
 |none=>exact wpAny_bind (GZ hkey hm (Qj e) (λh' hm' hs'=>wpAny_pure ⟨dflt,rfl,h2 e h' hm' hs'⟩) hz)
end
section
variable {X:Cx}
noncomputable def La:V->List V->Hp->VK->Prop:=λx vs H Q=>∃a kvs k dv,x=.ref a/\vs=[kV k,dv]/\H a=some (.dK kvs)/\kvs.length<sizeLine/\(∀u,valV kvs k=some u->Q u H)/\(valV kvs k=none->Q dv (upd H a (.dK (kvs++[(k,dv)]))))
theorem SA:MtM X "dict.setdefault" La:=by
 intro pins s σ H x vs v us Q I rx rv h;obtain⟨a,kvs,k,dv,rfl,rfl,hH,hz,q1,q2⟩:=h;cases rx;cases rv with
|@cons _ u _ us ru rv=>
 obtain⟨u2,rfl,ru2⟩:=Vals.one (show Vals [dv] us from rv);obtain⟨z,hd,ws,rel,dd⟩:=P0 I.hok hH;have hl:ws.length<=sizeLine:=by rw[<-rel.length];exact z
 refine call_meetsIn PySem.F.slot_dict_setdefault dd.typeIs PySem.F.entry_dict_setdefault (PySem.F.args_dict_setdefault_3 _ _ _) (NB (ML ru) hd u2) ⟨dd,hl,λy hy=>?_,λhy h' dd' hs=>?_⟩
 ·have:=rel.val k;rw[hy]at this;cases e:valV kvs k with
 |none=>rw[e]at this;exact this.elim
 |some x=>rw[e]at this;exact⟨x,H,I.tok _,this,q1 x e⟩
 ·have:=rel.val k;rw[hy]at this;cases e:valV kvs k with
 |some x=>rw[e]at this;exact this.elim
 |none=>refine⟨dv,_,GG (ob:=.dK (kvs++[(k,dv)])) I (by rw[hH];exact True.intro) hs ?_ (QU (by rw[List.length_append,List.length_singleton];omega) hd (Paired.snoc rel ⟨rfl,ru2⟩) dd'),ru2,q2 e⟩;obtain⟨q,_,_,hq,_⟩:=dd';exact⟨q,hq⟩
end
section
variable {X:Cx}{pins:List (Addr×Obj)}{σ:St}{H:Hp}{s:Shared}{a:Addr}{o:Obj}{u:HO}
theorem Inv.thaw(I:Inv X pins σ H s)(e:H a=some (.frz o u))(h0:X.H₀ a=none):Inv X pins σ (upd H a u) s:=by
 have ne:∀{c:Addr},H c=none->c≠a:=λh z=>by rw[z,e]at h;cases h
 have nt:∀{c:Addr}{xs:List V},H c=some (.tup xs)->c≠a:=λh z=>by rw[z,e]at h;cases h
 have nw:∀{c y:Addr},H c=some (.own y)->c≠a:=λh z=>by rw[z,e]at h;cases h
 have n0:∀{c:Addr}{v:HO},X.H₀ c=some v->c≠a:=λh z=>by rw[z,h0]at h;cases h
 refine⟨I.ok,I.os,I.bare,⟨I.base.keep,I.base.slot,λb ob q n hx=>?_,I.base.there,λb xs q=>?_,λb ob v q=>?_,λb ps q=>?_⟩,I.loc,I.cell,?_,λx c q=>?_,λp hp=>?_,λb v q=>?_,I.len⟩
 ·have:=I.base.free b ob q n hx;rw[Ze (ne this)];exact this
 ·rw[Ze (n0 q)];exact I.base.tups b xs q
 ·rw[Ze (n0 q)];exact I.base.frzs b ob v q
 ·obtain⟨m,hm⟩:=I.base.tbls b ps q;exact⟨m,by rw[Ze (n0 q)];exact hm⟩
 ·rw[Ze (ne I.free)];exact I.free
 ·rw[Ze (ne (I.freeC x c q))];exact I.freeC x c q
 ·obtain⟨p1,p2,p3⟩:=I.pin p hp;exact⟨p1,by rw[Ze (ne p2)];exact p2,p3⟩
 ·by_cases hb:b=a
  ·subst hb;rw[Zc]at q;cases q;exact(I.hok b _ e).2.stay (λ_ _ _ z=>z) (λc z=>by rw[Ze (nw z)];exact z) λc xs z=>by rw[Ze (nt z)];exact z
  ·rw[Ze hb]at q;exact(I.hok b v q).stay (λ_ _ _ z=>z) (λc z=>by rw[Ze (nw z)];exact z) λc xs z=>by rw[Ze (nt z)];exact z
end
section
variable {X:Cx}{tg:Expr}
theorem K9{kvs:List (Key×V)}{vs:List (Key×Value)}(r:KV kvs vs){i:Nat}{p:Key×V}{q:Key×Value}(hp:kvs[i]?=some p)(hq:vs[i]?=some q):p.1=q.1/\RelV p.2 q.2:=TX.pairs_get r hp hq
theorem K8{k:Key}{v:Value}(h:Mf k v=true):RelV (kV k) v:=by
 rcases Z3 h with⟨i,t,rfl,rfl⟩|⟨x,t,rfl,rfl⟩
 ·exact⟨t,rfl⟩
 ·exact⟨t,rfl⟩
noncomputable def Itd(a:Addr)(o:Obj)(kvs:List (Key×V)):It:=⟨λi H=>i<kvs.length/\H a=some (.frz o (.dK kvs)),λi H x H'=>H'=H/\∃kv,kvs[i]?=some kv/\x=kV kv.1,λi H=>i=kvs.length/\H a=some (.frz o (.dK kvs))⟩
theorem Sf{P:Program}{w:World}{K:PySem.W.Frag}{tg:Expr}{a it:Addr}{o:Obj}{kvs:List (Key×V)}{vs:List (Key×Value)}{ep:Nat}(rel:KV kvs vs)(hat:∀h:Heap,h.get? a=some o->h.DictAt (Yd P w) a vs ep):
  Turn P w K tg (Itd a o kvs) [it] it (λi h=>h.IsKeyIter it a i vs.length ep) where
 mem:=by simp
 obj:=λi h st b hb=>by
  have e:b=it:=by simpa using hb
  subst e
  obtain⟨o,e,c,d⟩:=st
  exact⟨o,e,λv z=>by rw[d]at z;cases z⟩
 keep:=λi h h' st k=>st.at λo e=>k it (by simp) o e
 item:=by
  intro X hP hw hK hc i pins s σ H E I hf st hg
  subst hP hw hK
  obtain⟨hi,hq⟩:=hg
  have ho:=(I.hok a _ hq).1
  have hl:=rel.length
  have hi':i<vs.length:=by omega
  obtain⟨f0,f1,f2,f3,f4,f5⟩:=hf it (by simp)
  have hx:vs[i]?=some (vs[i].1,vs[i].2):=List.getElem?_eq_getElem hi'
  refine wpAny_pyNext_dict_item st (hat _ ho) hx λkey h' hkey st' sb=>?_
  have I1:Inv X pins σ H {s with heap:=h'}:=I.turned (t':=s.toks) (λb o hb e=>(sb.2 b hb).trans e) f0 f1 f3 f4 f5
  obtain⟨o',e',c',d'⟩:=id st'
  refine⟨key,rfl,PN (s:={s with heap:=h'}) e' c' d' (by decide) ⟨kV vs[i].1,H,I1,K8 hkey,⟨rfl,kvs[i],List.getElem?_eq_getElem hi,?_⟩,st',λb hb=>(hf b hb).1⟩⟩
  have:=(K9 rel (List.getElem?_eq_getElem hi) (List.getElem?_eq_getElem hi')).1
  rw[this]
 done:=by
  intro X hP hw hK hc i pins s σ H E I hf st hg
  subst hP hw hK
  obtain⟨hi,hq⟩:=hg
  have ho:=(I.hok a _ hq).1
  have hl:=rel.length
  obtain⟨f0,f1,f2,f3,f4,f5⟩:=hf it (by simp)
  exact wpAny_pyNext_dict_end (I.ok.hd hc) st (hat _ ho) (List.getElem?_eq_none (by omega)) λh' eb=>⟨rfl,I.turned (t':=s.toks) (λb o hb e=>eb b o hb e) f0 f1 f3 f4 f5⟩
 self:=λ_ _ _ _ _ st h=>wpAny_pyIter_keyiter st h
noncomputable def E7(tl:TE):TI:=λσ H R=>tl σ H λx H1=>∃a kvs,x=.ref a/\H1 a=some (.dK kvs)/\∀o,R (Itd a o kvs) (upd H1 a (.frz o (.dK kvs)))
theorem Li{l:Expr}{tl:TE}(hl:PE X l tl):PI X tg l (E7 tl):=by
 intro pins s σ H R I h;refine thn (hl pins s σ H _ I h) λv s1⟨x,H1,I1,r1,q1⟩=>?_;obtain⟨a,kvs,e,hq,q⟩:=q1;subst e;cases r1;obtain⟨z,hd,vs,rel,dd⟩:=P0 I1.hok hq;obtain⟨ep,da⟩:=dd.dictAt;obtain⟨o,es,ho,facts⟩:=id da;have hat:∀h:Heap,h.get? a=some o->h.DictAt (Yd X.prog X.w) a vs ep:=λh e=>⟨o,es,e,facts⟩;have I2:Inv X pins σ (upd H1 a (.frz o (.dK kvs))) s1:=I1.write (x:=a) (e:=a) (h':=s1.heap) (t':=s1.toks) (o:=.frz o (.dK kvs)) (by rw[hq];exact True.intro) (.inl rfl) (λb u _ z=>z) ⟨o,ho⟩ ⟨ho,z,hd,vs,rel,dd⟩;refine wpAny_pyIter_dict hd da ?_;refine⟨s1.heap.objs.size,[s1.heap.objs.size],_,_,_,rfl,I2.kept (t':=s1.toks) λb o e=>Heap.get?_push_of_some _ e,Sf rel hat,⟨_,Heap.get?_push_size _ rfl,rfl,rfl⟩,λb hb=>?_,q o⟩;have e:b=s1.heap.objs.size:=by simpa using hb
 subst e;exact I2.fpOk (Nat.le_refl _) (I2.hok.fresh (Nat.le_refl _))
def ES(H0:Hp)(t:TS):TS:=λD σ H=>t {D with nx:=λσ' H'=>∃a o u,H' a=some (.frz o u)/\H0 a=none/\D.nx σ' (upd H' a u)} σ H
theorem Lf{st:Stmt}{t:TS}(h:PS X st t):PS X st (ES X.H₀ t):=by
 intro pins s σ H D I q;refine wpAny_mono (h pins s σ H _ I q) (λr s1 hq=>?_) λ_ _ e=>e;cases r with
|next=>obtain⟨σ',H',I',a,o,u,e1,e0,q'⟩:=hq;exact⟨σ',_,I'.thaw e1 e0,q'⟩
|_=>exact hq
end
end L2
namespace TX
open PySem L2 PySem.Spec PyProof.Rows TB WD
theorem WK:∀i,i<=4->∀j,j<=4->pn i=pn j->i=j:=λi hi j hj=>by rcases(by omega:i=0\/i=1\/i=2\/i=3\/i=4)with rfl|rfl|rfl|rfl|rfl<;>rcases(by omega:j=0\/j=1\/j=2\/j=3\/j=4)with rfl|rfl|rfl|rfl|rfl<;>decide +kernel
noncomputable def kvJ(js:List Nat)(q:Nat->Addr):List (Key×V):=js.map λj=>(.inr (pn j),.ref (q j))
theorem Md{q:Nat->Addr}{j:Nat}(hj:j<=4):∀{js:List Nat},(∀i∈js,i<=4)->valV (kvJ js q) (.inr (pn j))=if j∈js then some (.ref (q j))else none
|[],_=>by rw[if_neg (by simp)];rfl
|i::js,h=>by
  have ih:=Md (q:=q) hj (js:=js) λx hx=>h x (List.mem_cons_of_mem _ hx);have hi:=h i List.mem_cons_self;unfold valV kvJ at ih ⊢;rw[List.map_cons,List.find?_cons];by_cases e:i=j
  ·subst e;rw[if_pos List.mem_cons_self];simp
  ·have:¬(Sum.inr (pn i):Key)=Sum.inr (pn j):=λz=>e (WK i hi j hj (Sum.inr.inj z));rw[decide_eq_false this];show((List.map (λj=>((Sum.inr (pn j):Key),V.ref (q j))) js).find? _).map _=_;rw[ih];by_cases m:j∈js
   ·rw[if_pos m,if_pos (List.mem_cons_of_mem _ m)]
   ·rw[if_neg m,if_neg (λz=>(List.mem_cons.mp z).elim (λz=>e z.symm) m)]
noncomputable def setQ(q:Nat->Addr)(j:Nat)(a:Addr):Nat->Addr:=λi=>if i=j then a else q i
theorem LA{q:Nat->Addr}{j:Nat}(hj:j<=4){a:Addr}{js:List Nat}(h:∀i∈js,i<=4)(hm:j∈js):putK (kvJ js q) (.inr (pn j)) (.ref a)=kvJ js (setQ q j a):=by
 have hany:((kvJ js q).any λkv=>decide (kv.1=Sum.inr (pn j)))=true:=by rw[List.any_eq_true];exact⟨(.inr (pn j),.ref (q j)),List.mem_map.mpr ⟨j,hm,rfl⟩,by simp⟩
 unfold putK;rw[if_pos hany];unfold kvJ;rw[List.map_map];refine List.map_congr_left λi hi=>?_;show(if(Sum.inr (pn i):Key)=Sum.inr (pn j)then _ else _)=((Sum.inr (pn i):Key),V.ref (setQ q j a i));unfold setQ;by_cases e:i=j
 ·rw[if_pos (by rw[e]),if_pos e]
 ·rw[if_neg (λz=>e (WK i (h i hi) j hj (Sum.inr.inj z))),if_neg e]
theorem LB{q:Nat->Addr}{j:Nat}{a:Addr}{js:List Nat}(hm:j∉js):kvJ js q++[(.inr (pn j),.ref a)]=kvJ (js++[j]) (setQ q j a):=by
 unfold kvJ;rw[List.map_append];congr 1
 ·refine List.map_congr_left λi hi=>?_;unfold setQ;rw[if_neg (λz=>hm (by rw[<-z];exact hi))]
 ·show _=[((Sum.inr (pn j):Key),V.ref (setQ q j a j))];unfold setQ;rw[if_pos rfl]
noncomputable def mOf(L:List Ent)(j:Nat):List Str:=(L.filter λe=>decide (e.1=j)).map line
theorem GC(L:List Ent)(e:Ent)(j:Nat):mOf (L++[e]) j=if e.1=j then mOf L j++[line e]else mOf L j:=by unfold mOf;rw[List.filter_append,List.map_append];by_cases h:e.1=j<;>simp[h]
structure PtAt(H0 H:Hp)(d:Addr)(js:List Nat)(q:Nat->Addr)(M:Nat->List Str):Prop where
 dd:H d=some (.dK (kvJ js q))
 le:∀j∈js,j<=4
 nd:js.Nodup
 at_:∀j∈js,H (q j)=some (.lst ((M j).map V.str))/\H0 (q j)=none
 inj:∀i∈js,∀j∈js,q i=q j->i=j
 no:∀j,j∉js->M j=[]
theorem PtAt.same{H0 H H':Hp}{d:Addr}{js:List Nat}{q:Nat->Addr}{M:Nat->List Str}(s:Same H H')(h:PtAt H0 H d js q M):PtAt H0 H' d js q M:=⟨s _ _ h.dd,h.le,h.nd,λj hj=>⟨s _ _ (h.at_ j hj).1,(h.at_ j hj).2⟩,h.inj,h.no⟩
theorem PtAt.app{H0 H:Hp}{d:Addr}{js:List Nat}{q:Nat->Addr}{L:List Ent}(h:PtAt H0 H d js q (mOf L))(e:Ent)(hm:e.1∈js):PtAt H0 (upd H (q e.1) (.lst ((mOf L e.1).map V.str++[.str (line e)]))) d js q (mOf (L++[e])):=by
 refine⟨?_,h.le,h.nd,λj hj=>?_,h.inj,λj hj=>?_⟩
 ·rw[Ze (λz=>by have:=(h.at_ _ hm).1;rw[<-z,h.dd]at this;cases this)];exact h.dd
 ·refine⟨?_,(h.at_ j hj).2⟩;rw[GC];by_cases ej:e.1=j
  ·subst ej;rw[Zc,if_pos rfl,List.map_append];rfl
  ·rw[if_neg ej,Ze (λz=>ej (h.inj _ hm _ hj z.symm))];exact(h.at_ j hj).1
 ·rw[GC,if_neg (λz:e.1=j=>hj (by rw[<-z];exact hm))];exact h.no j hj
theorem PtAt.new{H0 H H1:Hp}{d c:Addr}{js:List Nat}{q:Nat->Addr}{L:List Ent}(h:PtAt H0 H d js q (mOf L))(s:Same H H1)(e:Ent)(he:e.1<=4)(hm:e.1∉js)(hc:H c=none)(h0:H0 c=none):PtAt H0 (upd (upd H1 d (.dK (kvJ (js++[e.1]) (setQ q e.1 c)))) c (.lst [.str (line e)])) d (js++[e.1]) (setQ q e.1 c) (mOf (L++[e])):=by
 have dc:d≠c:=Zf h.dd hc;have qn:∀j∈js,setQ q e.1 c j=q j:=λj hj=>by unfold setQ;rw[if_neg (λz=>hm (by rw[<-z];exact hj))]
 have qe:setQ q e.1 c e.1=c:=by unfold setQ;rw[if_pos rfl]
 have qc:∀j∈js,q j≠c:=λj hj=>Zf (h.at_ j hj).1 hc;refine⟨?_,λj hj=>?_,?_,λj hj=>?_,λi hi j hj hq=>?_,λj hj=>?_⟩
 ·rw[Ze dc,Zc]
 ·rcases List.mem_append.mp hj with hj|hj
  ·exact h.le j hj
  ·rw[List.mem_singleton.mp hj];exact he
 ·rw[List.nodup_append];refine⟨h.nd,by simp,λa ha b hb z=>?_⟩;rw[List.mem_singleton.mp hb]at z;exact hm (by rw[<-z];exact ha)
 ·rw[GC];rcases List.mem_append.mp hj with hj|hj
  ·have ej:e.1≠j:=λz=>hm (by rw[z];exact hj);rw[qn j hj,if_neg ej];refine⟨?_,(h.at_ j hj).2⟩;rw[Ze (qc j hj),Ze (λz=>by have:=(h.at_ j hj).1;rw[z,h.dd]at this;cases this)];exact s _ _ (h.at_ j hj).1
  ·have ej:=List.mem_singleton.mp hj;subst ej;rw[qe,if_pos rfl,h.no _ hm];exact⟨Zc,h0⟩
 ·rcases List.mem_append.mp hi with hi|hi<;>rcases List.mem_append.mp hj with hj|hj
  ·rw[qn i hi,qn j hj]at hq;exact h.inj i hi j hj hq
  ·rw[qn i hi,List.mem_singleton.mp hj,qe]at hq;exact absurd hq (qc i hi)
  ·rw[qn j hj,List.mem_singleton.mp hi,qe]at hq;exact absurd hq.symm (qc j hj)
  ·rw[List.mem_singleton.mp hi,List.mem_singleton.mp hj]
 ·have h1:j∉js:=λz=>hj (List.mem_append_left _ z);have h2:e.1≠j:=λz=>hj (List.mem_append_right _ (by rw[z];simp));rw[GC,if_neg h2];exact h.no j h1
noncomputable def lnJ(R:Nat->List (List V))(j:Nat):List Str:=(R j).map λy=>line (j,y)
theorem Lu(L:List Ent):mOf L=lnJ λj=>sel j L:=by
 funext j;unfold mOf lnJ sel;rw[List.map_map];refine List.map_congr_left λe he=>?_;have:e.1=j:=by simpa using(List.mem_filter.mp he).2
 subst this;rfl
theorem G5(j:Nat)(e:Ent)(L:List Ent):sel j (e::L)=(if e.1=j then[e.2]else[])++sel j L:=by rw[<-Ni,<-JL];rfl
theorem cnt:∀{L:List Ent},(∀e∈L,e.1<=4)->L.length=(sel 0 L).length+(sel 1 L).length+(sel 2 L).length+(sel 3 L).length+(sel 4 L).length
|[],_=>rfl
|e::L,h=>by have ih:=cnt (L:=L) λx hx=>h x (List.mem_cons_of_mem _ hx);have he:=h e List.mem_cons_self;simp only[G5,List.length_append,List.length_cons];rcases(by omega:e.1=0\/e.1=1\/e.1=2\/e.1=3\/e.1=4)with z|z|z|z|z<;>rw[z]<;>simp<;>omega
structure Wov(L0 Lw:List Ent)(R:Nat->List (List V)):Prop where
 eq:∀j,sel j Lw++R j=sel j L0
 le:∀e∈Lw,e.1<=4
theorem Wov.some{L0 Lw:List Ent}{R:Nat->List (List V)}(h:Wov L0 Lw R)(h0:∀e∈L0,e.1<=4)(hl:Lw.length<L0.length):∃j,j<=4/\R j≠[]:=by
 have c1:=cnt h.le;have c2:=cnt h0;rw[<-h.eq 0,<-h.eq 1,<-h.eq 2,<-h.eq 3,<-h.eq 4]at c2;simp only[List.length_append]at c2;by_cases z0:R 0=[]
 ·by_cases z1:R 1=[]
  ·by_cases z2:R 2=[]
   ·by_cases z3:R 3=[]
    ·by_cases z4:R 4=[]
     ·rw[z0,z1,z2,z3,z4]at c2;simp only[List.length_nil]at c2;omega
     ·exact⟨4,by omega,z4⟩
    ·exact⟨3,by omega,z3⟩
   ·exact⟨2,by omega,z2⟩
  ·exact⟨1,by omega,z1⟩
 ·exact⟨0,by omega,z0⟩
theorem RC{L:List Ent}(h:∀e∈L,e.1<=4){j:Nat}(hj:4<j):sel j L=[]:=by unfold sel;rw[List.map_eq_nil_iff,List.filter_eq_nil_iff];intro e he;have:=h e he;simp;omega
theorem Wov.all{L0 Lw:List Ent}{R:Nat->List (List V)}(h:Wov L0 Lw R)(h0:∀e∈L0,e.1<=4)(hl:¬Lw.length<L0.length):∀j,sel j Lw=sel j L0:=λj=>by
 have c1:=cnt h.le;have c2:=cnt h0;rw[<-h.eq 0,<-h.eq 1,<-h.eq 2,<-h.eq 3,<-h.eq 4]at c2;simp only[List.length_append]at c2;by_cases hj:4<j
 ·rw[RC h.le hj,RC h0 hj]
 ·have:=h.eq j;have z:R j=[]:=by apply List.eq_nil_of_length_eq_zero;rcases(by omega:j=0\/j=1\/j=2\/j=3\/j=4)with rfl|rfl|rfl|rfl|rfl<;>omega
  rw[z,List.append_nil]at this;exact this
theorem RB{L:List Ent}{j:Nat}{y:List V}:y∈sel j L↔(j,y)∈L:=by
 unfold sel;simp only[List.mem_map,List.mem_filter,decide_eq_true_eq];constructor
 ·rintro ⟨e,⟨h,rfl⟩,rfl⟩;exact h
 ·intro h;exact⟨(j,y),⟨h,rfl⟩,rfl⟩
theorem Wov.step{L0 Lw:List Ent}{R:Nat->List (List V)}(h:Wov L0 Lw R){j:Nat}(hj:j<=4){y:List V}{t:List (List V)}(e:R j=y::t):Wov L0 (Lw++[(j,y)]) (λi=>if i=j then t else R i):=by
 refine⟨λi=>?_,λx hx=>?_⟩
 ·rw[JL,Ni];by_cases z:j=i
  ·subst z;rw[if_pos rfl,if_pos rfl,<-h.eq j,e];simp
  ·rw[if_neg z,if_neg (λq=>z q.symm),List.append_nil,h.eq i]
 ·rcases List.mem_append.mp hx with hx|hx
  ·exact h.le x hx
  ·rw[List.mem_singleton.mp hx];exact hj
end TX
namespace L2
open PySem PySem.Spec PyProof.Rows
theorem Sx{X:Cx}{K:PySem.W.Frag}(hK:X.K=K)(hu:X.A.units+64<cLine):OpR X (compareOp .NotEq) (rNil true K):=by subst hK;exact Pq hu
end L2
namespace TX
open PySem L2 PySem.Spec PyProof.Rows TB WD
def M9:Sp:=λvs H Q _=>∃(b r:Addr)(xs:List V)(L0:List Ent),vs=[.ref b,.ref r]/\Zz H b/\r≠b/\H r=some (.lst xs)/\Paired (PRow H) xs L0/\L0.length<=1000/\(∀e∈L0,e.1<=4) /\∀H' ln L,Zz H' b->Zj b H H'->ln≠b->H' ln=some (.lst (L.map λe=>V.str (line e)))->(∀j,sel j L=sel j L0)->(∀e∈L,e∈L0)->Q (.ref ln) H'
section
variable {P:Program}{w:World}{K:PySem.W.Frag}{mg:Str->Option Value}{base:Heap}{C Cb:Addr}
theorem Yo:FnScope ["_law_box_here","_law_rows_here","_law_parts","_law_part","_law_text","_law_lines","_law_going"] ["_law_box_here","_law_rows_here"] (Zg T.f__law_woven):=scO (by decide +kernel)
noncomputable def Xq:Scope:={kind:=.function,names:=[(Str.ofString ".0",.local),(Str.ofString "_law_part",.local),(Str.ofString "_law_parts",.free)],isGenerator:=false,isCoroutine:=false,more:=[]}
theorem VX:CompScope Xq (Zg T.f__law_woven):=⟨rfl,by decide +kernel,by decide +kernel,by decide +kernel⟩
theorem VZ:(["_law_part","_law_parts"]:List Str).Nodup:=by decide +kernel
theorem VY:CompNames ["_law_box_here","_law_rows_here","_law_parts","_law_part","_law_text","_law_lines","_law_going"] Xq ["_law_part","_law_parts"] [none,some 2]:=.mk' (by decide +kernel)
theorem Td(B:∀x∈Blts,mg x=none)(CT:Can P w K mg base 1 "_law_take" ["_law_box_here","_law_many"] Xj)(D:Df K mg "_law_woven" T.f__law_woven ["_law_box_here","_law_rows_here"]):Can P w K mg base 2 "_law_woven" ["_law_box_here","_law_rows_here"] M9:=by
 refine D.can Yo (λvs H Q E h=>?_) (λf cdv A outer s H vs Q E hr h=>?_)
 ·obtain⟨b,r,xs,L0,rfl,_⟩:=h;rfl
 ·obtain⟨b,r,xs,L0,rfl,hb,nr,hR,pr,hl,hj,k⟩:=h;refine' ⟨_,(@Zd _ _ _ _ _ ?h10 (@Zd _ _ _ _ _ ?h11 (@Zd _ _ _ _ _ ?h12 (@Zd _ _ _ _ _ ?h13 (@Zk _ _ _ ?h14))))),?rd⟩;case' h14=>refine' (Zq (pv 5))
  case' h13=>refine' (Ph PassesOwn.never (@ZC _ _ _ _ _ _ _ _ WW (ZI (r:=rLen K) Yg rfl (B _ (by decide +kernel)) PySem.boot_len (@Za _ _ _ _ _ (pv 5) Zb (by rfl))) (ZI (r:=rLen K) Yg rfl (B _ (by decide +kernel)) PySem.boot_len (@Za _ _ _ _ _ (pv 1) Zb (by rfl))) (ZD _)) (@Zd _ _ _ _ _ ?h6 (@Zd _ _ _ _ _ ?h7 (@Zd _ _ _ _ _ ?h8 (@Zk _ _ _ ?h9)))))
  case' h12=>refine' (@st _ _ _ _ 5 _ _ Yo.nd ?h3 (by rfl) (by exact Or.inl rfl) (by rfl) (by exact .inl rfl))
  case' h11=>refine' (Y3 PassesOwn.never rfl (Yc (pv 1)) (YS rfl (Zp (Zo (i:=3) Yo.nd rfl (Or.inl rfl)) (Zp (Zo (i:=4) Yo.nd rfl (Or.inl rfl)) ZV))) (@Zk _ _ _ ?h2))
  case' h10=>refine' (Yn (i:=2) Yo.nd rfl (Or.inr rfl) JD)
  case' h9=>refine' (VH (YO hr) (pv 2) (pv 3) (Yv (r:=rSlL K) Jg (YI (YO hr) (pv 2) (pv 3) (λ_ _=>rfl)) (YG Zi) YH) rfl)
  case' h8=>refine' (ZU (Yq PySem.F.plainAttrs_list PySem.F.slot_list_append PySem.F.type_list_append YA (pv 5) (@Za _ _ _ _ _ ?h5 Zb (by rfl))))
  case' h7=>refine' (@st _ _ _ _ 3 _ _ Yo.nd ?h4 (by rfl) (by exact Or.inl rfl) (by rfl) (by exact .inl rfl))
  case' h6=>refine' (Lf (Yy (i:=6) Yo.nd rfl (Or.inl rfl) (scope:=Xq) (N:=["_law_part","_law_parts"]) (cp:=[none,some 2]) rfl VX VY (Li (pv 2)) (λC s H ex pn=>(Zo (i:=0) VZ rfl (Or.inl rfl))) (λC s H ex pn=>(Nt (ZC (Sx (K:=K) rfl hr.units) (YI (YO hr) (pv 1) (pv 0) (λ_ _=>rfl)) (ZQ Zb) (ZD _)))) (λC s H ex pn=>(pv 0))))
  case' h5=>refine' (@il _ _ _ _ _ _ K (YI (YO hr) (pv 2) (pv 3) (λ_ _=>rfl)) Zi (by rfl) (by exact λ_ _=>rfl))
  case' h4=>refine' (@il _ _ _ _ _ _ K (pv 6) (cn CT hr (@Za _ _ _ _ _ (pv 0) (@Za _ _ _ _ _ (ZI (r:=rLen K) Yg rfl (B _ (by decide +kernel)) PySem.boot_len (@Za _ _ _ _ _ (pv 6) Zb (by rfl))) Zb (by rfl)) (by rfl))) (by rfl) (by exact λ_ _=>rfl))
  case' h3=>refine' (@ZQ _ _ _ _ Zb)
  case' h2=>refine' (ZU (Yq PySem.F.plainAttrs_list PySem.F.slot_list_append PySem.F.type_list_append YA (Yq PySem.F.plainAttrs_dict PySem.F.slot_dict_setdefault PySem.F.type_dict_setdefault SA (pv 2) (@Za _ _ _ _ _ (pv 3) (@Za _ _ _ _ _ ?h1 Zb (by rfl)) (by rfl))) (@Za _ _ _ _ _ (pv 4) Zb (by rfl))))
  case' h1=>refine' (@ZQ _ _ _ _ Zb)
  refine λd hd=>?_;have S0:=sameNew (o:=.dK []) (Same.refl H) hd;have e0:upd H d (.dK []) d=some (.dK []):=Zc;generalize upd H d (.dK [])=G0 at S0 e0 ⊢;have pt0:PtAt H G0 d [] (λ_=>0) (mOf (L0.take 0)):=⟨e0,by simp,by simp,by simp,by simp,λj _=>rfl⟩;have lx:=pairs_len pr;refine⟨_,rfl,r,rfl,⟨_,SqL.of (S0 _ _ hR)⟩,?_⟩;refine XY (J:=Itl K r) L0.length (λi σ H'=>Same H H'/\(∃js q,PtAt H H' d js q (mOf (L0.take i))/\js.length<=i)/\∃v3 v4,σ=[some (.ref b),some (.ref r),some (.ref d),v3,v4,none,none]) ⟨S0,⟨_,_,pt0,Nat.le_refl _⟩,none,none,rfl⟩ (λi σ H' hi p=>?_) (λσ H' p=>?_) (λi σ H' x H2 hi pp yl=>?_) (λσ G1 pp=>?_)
  ·exact⟨_,xs[i]'(by omega),SqL.of (p.1 _ _ hR),List.getElem?_eq_getElem _⟩
  ·exact⟨_,SqL.of (p.1 _ _ hR),by omega⟩
  ·obtain⟨S,⟨js,q,pt,lj⟩,v3,v4,rfl⟩:=pp;obtain⟨rfl,hy⟩:=yl;have hx:=hy _ (SqL.of (S _ _ hR));obtain⟨a,rfl,ha⟩:=pairs_get pr hx (List.getElem?_eq_getElem hi);have he:L0[i].1<=4:=hj _ (List.getElem_mem hi);have et:L0.take (i+1)=L0.take i++[L0[i]]:=by rw[List.take_succ,List.getElem?_eq_getElem hi];rfl
   rw[et];generalize L0[i]=e at ha he;refine⟨a,_,rfl,SqT.of (S _ _ ha),rfl,_,_,rfl,_,_,rfl,rfl,?_⟩;refine⟨_,rfl,.inr (.inr (.inl ⟨rfl,.inl ⟨_,pt.dd⟩⟩)),_,rfl,zl,λc hc=>?_⟩;dsimp only[tNil];have Sc:=sameNew (o:=.lst []) (Same.refl H2) hc;have ec:upd H2 c (.lst []) c=some (.lst []):=Zc;generalize upd H2 c (.lst [])=H3 at Sc ec ⊢;have pt3:=pt.same Sc;have ml:∀j,(mOf (L0.take i) j).length<=1000:=λj=>by unfold mOf;rw[List.length_map];exact Nat.le_trans (List.length_filter_le _ _) (by rw[List.length_take];omega)
   have kl:(kvJ js q).length<sizeLine:=Z4 (by unfold kvJ;rw[List.length_map];omega);refine⟨d,kvJ js q,.inr (pn e.1),.ref c,rfl,rfl,pt3.dd,kl,λu hu=>?_,λhn=>?_⟩
   ·rw[Md he pt.le]at hu;by_cases m:e.1∈js
    ·rw[if_pos m]at hu;cases hu;refine⟨.inl ⟨rfl,_,SqL.of (pt3.at_ _ m).1⟩,_,rfl,q e.1,_,_,rfl,rfl,(pt3.at_ _ m).1,Z4 (by rw[List.length_map];exact ml _),?_,⟨js,q,pt3.app e m,by omega⟩,_,_,rfl⟩;intro c' o ec';rw[Ze (Zf ec' (pt3.at_ _ m).2)];exact Sc _ _ (S _ _ ec')
    ·rw[if_neg m]at hu;cases hu
   ·have m:e.1∉js:=λm=>by rw[Md he pt.le,if_pos m]at hn;cases hn
    have hc0:H c=none:=by
     cases z:H c with
    |none=>rfl
    |some o=>rw[S _ _ z]at hc;cases hc
    have dc:d≠c:=Zf pt.dd hc;rw[LB m];refine⟨.inl ⟨rfl,[],SqL.of (by rw[Ze dc.symm];exact ec)⟩,_,rfl,c,[],_,rfl,rfl,by rw[Ze dc.symm];exact ec,by decide,?_,⟨js++[e.1],setQ q e.1 c,pt.new Sc e he m hc hc0,by rw[List.length_append,List.length_singleton];omega⟩,_,_,rfl⟩;intro c' o ec';rw[Ze (Zf ec' hc0),Ze (Zf ec' hd)];exact Sc _ _ (S _ _ ec')
  obtain⟨S1,⟨js,q,pt,ljs⟩,v3,v4,rfl⟩:=pp;rw[List.take_length]at pt;refine⟨zl,λln hln=>?_⟩;dsimp only[tNil];have S2:=sameNew (o:=.lst []) S1 hln;have N2:=sameNew (o:=.lst []) (Same.refl G1) hln;have eln:upd G1 ln (.lst []) ln=some (.lst []):=Zc;have hln0:H ln=none:=by
   cases z:H ln with
  |none=>rfl
  |some o=>rw[S1 _ _ z]at hln;cases hln
  have qln0:∀j∈js,q j≠ln:=λj hj=>Zf (pt.at_ j hj).1 hln;have pt2:=pt.same N2;rw[Lu]at pt2;have nd:=hb.ne hd;have nln:=hb.ne hln0;have hb2:Zz (upd G1 ln (.lst [])) b:=by obtain⟨x,y,z,eb⟩:=hb;exact⟨x,y,z,S2 _ _ eb⟩
  generalize upd G1 ln (.lst [])=G2 at S2 N2 eln pt2 hb2 ⊢;clear pt N2 hln S1 G1;refine NW (λσ H'=>(∃v3 v4 v6,σ=[some (.ref b),some (.ref r),some (.ref d),v3,v4,some (.ref ln),v6])/\Zz H' b/\Zj b H H'/\∃q R Lw,PtAt H H' d js q (lnJ R)/\(∀j∈js,q j≠ln)/\H' ln=some (.lst (Lw.map λe=>V.str (line e)))/\Wov L0 Lw R) (λσ H'=>L0.length-RO ln H') ⟨⟨v3,v4,none,rfl⟩,hb2,Zj.of S2,q,λj=>sel j L0,[],pt2,qln0,eln,λj=>rfl,by simp⟩ (λσ H3 p=>?_) (λσ H' Q Q' hq h=>?_)
  ·clear v3 v4;obtain⟨⟨v3,v4,v6,rfl⟩,B3,S3,q,R,Lw,pt,qln,e3,wv⟩:=p;refine⟨_,rfl,ln,_,rfl,.inl (SqL.of e3),_,rfl,r,_,rfl,.inl (SqL.of (S3 _ _ hR nr)),_,_,rfl,rfl,_,rfl,?_⟩;rw[List.length_map,lx];by_cases hlt:Lw.length<L0.length
   ·rw[decide_eq_true (by omega)];refine iteT ?_;refine⟨_,rfl,d,kvJ js q,rfl,pt.dd,λo=>?_⟩;have kl:(kvJ js q).length=js.length:=by unfold kvJ;rw[List.length_map]
    have fd:upd H3 d (.frz o (.dK (kvJ js q))) d=some (.frz o (.dK (kvJ js q))):=Zc;have fo:∀c u,c≠d->H3 c=some u->upd H3 d (.frz o (.dK (kvJ js q))) c=some u:=λc u hc e=>by rw[Ze hc];exact e
    have fn:∀c,upd H3 d (.frz o (.dK (kvJ js q))) c=none->c≠d/\H3 c=none:=λc h=>by
     by_cases z:c=d
     ·rw[z,fd]at h;cases h
     ·rw[Ze z]at h;exact⟨z,h⟩
    generalize upd H3 d (.frz o (.dK (kvJ js q)))=F at fd fo fn ⊢;have qd:∀j∈js,q j≠d:=λj hj z=>by have:=(pt.at_ j hj).1;rw[z,pt.dd]at this;cases this
    refine GH (J:=Itd d o (kvJ js q)) js.length (Nat.le_trans (Nat.le_trans ljs hl) (by decide)) (λi us τ H'=>Same F H'/\us=((js.take i).filter λj=>decide (R j≠[])).map (λj=>V.str (pn j))/\∃v,τ=[v,some (.ref d)]) ⟨Same.refl _,rfl,none,rfl⟩ (λi us τ H' p=>?_) (λi us τ H' hi p=>⟨by rw[kl];exact hi,p.1 _ _ fd⟩) (λus τ H' p=>⟨kl.symm,p.1 _ _ fd⟩) (λi us τ H' x H4 hi p yl=>?_) (λus τ H4 p c4 hc4=>?_)
    ·rw[p.2.1,List.length_map];exact Nat.le_trans (List.length_filter_le _ _) (by rw[List.length_take];omega)
    ·obtain⟨S4,rfl,v,rfl⟩:=p;obtain⟨rfl,kv,hkv,rfl⟩:=yl;have hm:js[i]∈js:=List.getElem_mem hi;have ekv:kv=(.inr (pn js[i]),.ref (q js[i])):=by unfold kvJ at hkv;rw[List.getElem?_map,List.getElem?_eq_getElem hi]at hkv;exact(Option.some.inj hkv).symm
     subst ekv;have et:(js.take (i+1)).filter (λj=>decide (R j≠[]))=(js.take i).filter (λj=>decide (R j≠[]))++(if R js[i]≠[]then[js[i]]else[]):=by rw[List.take_succ,List.getElem?_eq_getElem hi,List.filter_append];congr 1;by_cases z:R js[i]=[]<;>simp[z]
     have hq:=S4 _ _ (fo _ _ (qd _ hm) (pt.at_ _ hm).1);refine⟨_,rfl,_,rfl,d,.ref (q js[i]),rfl,.inl ⟨_,.inr (pn js[i]),.inr ⟨o,S4 _ _ fd⟩,rfl,?_⟩,zl,λc hc=>?_⟩
     ·rw[Md (pt.le _ hm) pt.le,if_pos hm]
     dsimp only[tNil];have S5:=sameNew (o:=.lst []) (Same.refl H4) hc;have e5:upd H4 c (.lst []) c=some (.lst []):=Zc;generalize upd H4 c (.lst [])=H5 at S5 e5 ⊢;refine⟨q js[i],c,_,rfl,rfl,SqL.of (S5 _ _ hq),e5,_,rfl,?_⟩;by_cases z:R js[i]=[]
     ·have zz:(lnJ R js[i]).map V.str=[]:=by unfold lnJ;rw[z];rfl
      rw[decide_eq_true zz];refine iteF ⟨S4.trans S5,?_,_,rfl⟩;rw[et,if_neg (λh=>h z),List.append_nil]
     ·have zz:¬(lnJ R js[i]).map V.str=[]:=by unfold lnJ;simpa using z
      rw[decide_eq_false zz];refine iteT ⟨_,rfl,S4.trans S5,?_,_,rfl⟩;rw[et,if_pos z,List.map_append];rfl
    obtain⟨S4,rfl,v,rfl⟩:=p;rw[List.take_length];have dc4:d≠c4:=Zf (S4 _ _ fd) hc4;refine⟨d,o,.dK (kvJ js q),by rw[Ze dc4];exact S4 _ _ fd,hd,?_⟩;generalize hgs:js.filter (λj=>decide (R j≠[]))=gs;have S6:Same H3 (upd (upd H4 c4 (.lst (gs.map λj=>V.str (pn j)))) d (.dK (kvJ js q))):=λc u e=>by
     by_cases z:c=d
     ·subst z;rw[pt.dd]at e;cases e;exact Zc
     ·have e4:=S4 _ _ (fo _ _ z e);rw[Ze z,Ze (Zf e4 hc4)];exact e4
    have ec:upd (upd H4 c4 (.lst (gs.map λj=>V.str (pn j)))) d (.dK (kvJ js q)) c4=some (.lst (gs.map λj=>V.str (pn j))):=by rw[Ze dc4.symm,Zc]
    have hc3:H3 c4=none:=by
     cases z:H3 c4 with
    |none=>rfl
    |some u=>rw[S4 _ _ (fo _ _ dc4.symm z)]at hc4;cases hc4
    generalize upd (upd H4 c4 (.lst (gs.map λj=>V.str (pn j)))) d (.dK (kvJ js q))=H6 at S6 ec ⊢;have nc4:c4≠b:=B3.ne hc3;have B6:Zz H6 b:=by obtain⟨x,y,z,eb⟩:=B3;exact⟨x,y,z,S6 _ _ eb⟩
    have pt6:=pt.same S6;have gpos:0<gs.length:=by
     obtain⟨j,hj4,hne⟩:=wv.some hj hlt;have hm:j∈js:=Classical.byContradiction λhm=>by have:=pt.no j hm;unfold lnJ at this;exact hne (by simpa using this)
     rw[<-hgs];exact List.length_pos_of_mem (List.mem_filter.mpr ⟨hm,by simpa using hne⟩)
    have gle:gs.length<=1000:=by rw[<-hgs];exact Nat.le_trans (List.length_filter_le _ _) (Nat.le_trans ljs hl)
    refine⟨_,rfl,_,rfl,_,rfl,c4,_,rfl,.inl (SqL.of ec),b,_,rfl,B6,by rw[List.length_map];omega,Zw (by omega) (by rw[List.length_map];omega),λm H7 m0 m1 B7 S7=>?_⟩;rw[List.length_map]at m1;obtain⟨m,rfl⟩:=Int.eq_ofNat_of_zero_le m0;have hm1:m<gs.length:=by omega
    have ec7:=S7 _ _ ec nc4;refine⟨c4,_,(m:Int),_,rfl,rfl,SqL.of ec7,Zr (j:=m) (by rw[List.getElem?_map,List.getElem?_eq_getElem hm1];rfl),?_⟩;have hall:∀j∈gs,j∈js/\R j≠[]:=λj hj=>by rw[<-hgs]at hj;have:=List.mem_filter.mp hj;exact⟨this.1,by simpa using this.2⟩
    have hg:=hall _ (List.getElem_mem hm1);generalize gs[m]=j at hg;obtain⟨hm,hne⟩:=hg;have qb:∀j∈js,q j≠b:=λj hj z=>by obtain⟨x,y,w',eb⟩:=hb;have:=(pt.at_ j hj).2;rw[z,eb]at this;cases this
    have pt7:PtAt H H7 d js q (lnJ R):=⟨S7 _ _ pt6.dd nd,pt.le,pt.nd,λi hi=>⟨S7 _ _ (pt6.at_ i hi).1 (qb i hi),(pt.at_ i hi).2⟩,pt.inj,pt.no⟩;have e7:=S7 _ _ (S6 _ _ e3) nln;obtain⟨y,t,eR⟩:∃y t,R j=y::t:=by
     cases z:R j with
    |nil=>exact absurd z hne
    |cons y t=>exact⟨y,t,rfl⟩
    have eL:(lnJ R j).map V.str=V.str (line (j,y))::(t.map λy=>line (j,y)).map V.str:=by unfold lnJ;rw[eR];rfl
    have hjl:=pt.le j hm;have dg:∀{H':Hp},H' d=some (.dK (kvJ js q))->DGet H' d (.str (pn j)) (some (.ref (q j))):=λh=>by have:=DGet.k (k:=.inr (pn j)) h;rw[Md hjl pt.le,if_pos hm]at this;exact this
    have q7:=(pt7.at_ j hm).1;rw[eL]at q7;refine⟨_,rfl,.inl ⟨rfl,_,SqL.of e7⟩,_,rfl,_,rfl,d,_,rfl,dg pt7.dd,q j,_,0,_,rfl,rfl,SqL.of q7,Zr (j:=0) rfl,?_⟩;dsimp only[tNil];refine⟨ln,_,_,rfl,rfl,e7,Z4 (by rw[List.length_map];omega),?_⟩;have dln:d≠ln:=λz=>by have:=pt7.dd;rw[z,e7]at this;cases this
    have e8:upd H7 ln (.lst (Lw.map (λe=>V.str (line e))++[V.str (line (j,y))])) ln=some (.lst ((Lw++[(j,y)]).map λe=>V.str (line e))):=by rw[Zc,List.map_append];rfl
    have k8:∀c u,c≠ln->H7 c=some u->upd H7 ln (.lst (Lw.map (λe=>V.str (line e))++[V.str (line (j,y))])) c=some u:=λc u hc e=>by rw[Ze hc];exact e
    generalize upd H7 ln (.lst (Lw.map (λe=>V.str (line e))++[V.str (line (j,y))]))=H8 at e8 k8 ⊢;have d8:=k8 _ _ dln pt7.dd;have q8:=k8 _ _ (qln j hm) q7;refine⟨_,rfl,_,rfl,d,_,rfl,dg d8,_,rfl,q j,_,rfl,SqL.of q8,λc9 hc9=>?_⟩;rw[cut1 _ (by rw[List.length_cons];omega)];rw[show List.drop 1 (V.str (line (j,y))::(t.map λy=>line (j,y)).map V.str)=(t.map λy=>line (j,y)).map V.str from rfl];have B8:Zz H8 b:=by obtain⟨x,y',z,eb⟩:=B7;exact⟨x,y',z,k8 _ _ nln.symm eb⟩
    have S08:Zj b H H8:=λc u e hc=>k8 _ _ (Zf e hln0) (S7 _ _ (S6 _ _ (S3 _ _ e hc)) hc);have nc9:c9≠b:=B8.ne hc9;have h0c9:H c9=none:=by
     cases z:H c9 with
    |none=>rfl
    |some u=>rw[S08 _ _ z nc9]at hc9;cases hc9
    have S9:=sameNew (o:=.lst ((t.map λy=>line (j,y)).map V.str)) (Same.refl H8) hc9;have e9:upd H8 c9 (.lst ((t.map λy=>line (j,y)).map V.str)) c9=some (.lst ((t.map λy=>line (j,y)).map V.str)):=Zc;generalize upd H8 c9 (.lst ((t.map λy=>line (j,y)).map V.str))=H9 at S9 e9 ⊢;have dc9:d≠c9:=Zf d8 hc9;refine⟨_,rfl,_,rfl,d,_,rfl,DPut.k (k:=.inr (pn j)) (S9 _ _ d8) (Z4 (by rw[kl];exact Nat.le_trans ljs hl)),?_⟩;rw[LA hjl pt.le hm];have k10:∀c u,c≠d->H9 c=some u->upd H9 d (.dK (kvJ js (setQ q j c9))) c=some u:=λc u hc e=>by rw[Ze hc];exact e
    have d10:upd H9 d (.dK (kvJ js (setQ q j c9))) d=some (.dK (kvJ js (setQ q j c9))):=Zc;generalize upd H9 d (.dK (kvJ js (setQ q j c9)))=H10 at k10 d10 ⊢;have l10:=k10 _ _ dln.symm (S9 _ _ e8);have qi8:∀i∈js,H8 (q i)=some (.lst ((lnJ R i).map V.str)):=λi hi=>k8 _ _ (qln i hi) (pt7.at_ i hi).1;have qe:setQ q j c9 j=c9:=by unfold setQ;rw[if_pos rfl]
    have qn:∀i,i≠j->setQ q j c9 i=q i:=λi hi=>by unfold setQ;rw[if_neg hi]
    refine⟨⟨⟨_,_,_,rfl⟩,?_,?_,setQ q j c9,_,Lw++[(j,y)],⟨d10,pt.le,pt.nd,λi hi=>?_,λi hi i' hi' hq=>?_,λi hi=>?_⟩,λi hi=>?_,l10,wv.step hjl eR⟩,?_⟩
    ·obtain⟨x,y',z,eb⟩:=B8;exact⟨x,y',z,k10 _ _ nd.symm (S9 _ _ eb)⟩
    ·exact λc u e hc=>k10 _ _ (Zf e hd) (S9 _ _ (S08 _ _ e hc))
    ·by_cases z:i=j
     ·subst z;rw[qe];refine⟨?_,h0c9⟩;rw[k10 _ _ dc9.symm e9];unfold lnJ;dsimp only;rw[if_pos rfl]
     ·rw[qn i z];refine⟨?_,(pt.at_ i hi).2⟩;rw[k10 _ _ (qd i hi) (S9 _ _ (qi8 i hi))];unfold lnJ;dsimp only;rw[if_neg z]
    ·by_cases z:i=j<;>by_cases z':i'=j
     ·rw[z,z']
     ·rw[z,qe,qn i' z']at hq;exact absurd hq.symm (Zf (qi8 i' hi') hc9)
     ·rw[z',qe,qn i z]at hq;exact absurd hq (Zf (qi8 i hi) hc9)
     ·rw[qn i z,qn i' z']at hq;exact pt.inj i hi i' hi' hq
    ·have z:i≠j:=λz=>hi (by rw[z];exact hm);have:=pt.no i hi;unfold lnJ at this ⊢;dsimp only;rw[if_neg z];exact this
    ·by_cases z:i=j
     ·rw[z,qe];exact(Zf e8 hc9).symm
     ·rw[qn i z];exact qln i hi
    ·rw[VO l10,VO e3,List.length_map,List.length_map,List.length_append,List.length_singleton];omega
   ·rw[decide_eq_false (by omega)];refine iteF ?_;have hal:=wv.all hj hlt;exact⟨_,rfl,k H3 ln Lw B3 S3 nln e3 hal λe he=>by have:e.2∈sel e.1 Lw:=RB.mpr he;rw[hal]at this;exact RB.mp this⟩
  ·obtain⟨v,ev,p,ys,e1,e2,v',ev',p',ys',e1',e2',i,j,e3,e4,bb,e5,q⟩:=h;exact⟨v,ev,p,ys,e1,e2,v',ev',p',ys',e1',e2',i,j,e3,e4,bb,e5,hq _ _ q⟩
noncomputable def tbD(T:Tb):PyData:=tabD T.n T.t1 T.t2 T.t3 T.t4
def LY:Sp:=λvs H Q _=>∃(b p l1 l2 l3 l4:Addr)(T:Tb),vs=[.ref p]/\TbAt b H p T l1 l2 l3 l4/\OkTb T/\∀H' v,Same H H'->Is H' v (tbD T)->Q v H'
theorem XJ{b:Addr}{H:Hp}{l:Addr}{rows:List (List V)}(h:ZH b H l rows)(hf:∀ys∈rows,∀y∈ys,Flat y):∃xs,H l=some (.lst xs)/\Ym H xs (rows.map some):=by
 obtain⟨_,as,e,hl,r⟩:=h;refine⟨_,e,by rw[List.length_map,List.length_map,hl],λi x rr e1 e2=>?_⟩;rw[List.getElem?_map]at e1 e2;cases ha:as[i]? with
|none=>rw[ha]at e1;cases e1
|some a=>
  cases hr:rows[i]? with
 |none=>rw[hr]at e2;cases e2
 |some ys=>rw[ha]at e1;rw[hr]at e2;cases e1;cases e2;exact⟨a,rfl,(r i a ys ha hr).2,λy hy=>NF (hf ys (List.mem_of_getElem? hr) y hy)⟩
theorem QA:FnScope ["_law_world_here"] ["_law_world_here"] (Zg T.f__law_due):=scO (by decide +kernel)
theorem LJ(B:∀x∈Blts,mg x=none)(D:Df K mg "_law_due" T.f__law_due ["_law_world_here"]):Can P w K mg base 1 "_law_due" ["_law_world_here"] LY:=by
 refine D.can QA (λvs H Q E h=>?_) (λf cdv A outer s H vs Q E hr h=>?_)
 ·obtain⟨b,p,l1,l2,l3,l4,T,rfl,_⟩:=h;rfl
 ·obtain⟨b,p,l1,l2,l3,l4,T,rfl,tb,ok,k⟩:=h;refine' ⟨_,(@Zk _ _ _ ?h7),?rd⟩;case' h7=>refine' (Zq ?h6)
  case' h6=>refine' (@Ys _ _ _ _ _ (@Za _ _ _ _ _ ?h5 (@Za _ _ _ _ _ (ZE Yk rfl (B _ (by decide +kernel)) YL (@Za _ _ _ _ _ ?h4 Zb (by rfl))) (@Za _ _ _ _ _ (ZE Yk rfl (B _ (by decide +kernel)) YL (@Za _ _ _ _ _ ?h3 Zb (by rfl))) (@Za _ _ _ _ _ (ZE Yk rfl (B _ (by decide +kernel)) YL (@Za _ _ _ _ _ ?h2 Zb (by rfl))) (@Za _ _ _ _ _ (ZE Yk rfl (B _ (by decide +kernel)) YL (@Za _ _ _ _ _ ?h1 Zb (by rfl))) Zb (by rfl)) (by rfl)) (by rfl)) (by rfl)) (by rfl)))
  case' h5=>refine' (@il _ _ _ _ _ _ K (pv 0) Zi (by rfl) (by exact λ_ _=>rfl))
  case' h4=>refine' (@il _ _ _ _ _ _ K (pv 0) Zi (by rfl) (by exact λ_ _=>rfl))
  case' h3=>refine' (@il _ _ _ _ _ _ K (pv 0) Zi (by rfl) (by exact λ_ _=>rfl))
  case' h2=>refine' (@il _ _ _ _ _ _ K (pv 0) Zi (by rfl) (by exact λ_ _=>rfl))
  case' h1=>refine' (@il _ _ _ _ _ _ K (pv 0) Zi (by rfl) (by exact λ_ _=>rfl))
  have hp:=tb.at_;obtain⟨x1,g1,r1⟩:=XJ tb.pl (ok.flat (j:=1) (.inl rfl));obtain⟨x2,g2,r2⟩:=XJ tb.rd (ok.flat (j:=2) (.inr (.inl rfl)));obtain⟨x3,g3,r3⟩:=XJ tb.wy (ok.flat (j:=3) (.inr (.inr (.inl rfl))));obtain⟨x4,g4,r4⟩:=XJ tb.gr (ok.flat (j:=4) (.inr (.inr (.inr rfl))));have ix:∀{H':Hp},Same H H'->SqL K H' p [.int T.n,.ref l1,.ref l2,.ref l3,.ref l4]:=λs=>SqL.of (s _ _ hp);refine⟨_,rfl,p,_,0,_,rfl,rfl,ix (Same.refl _),Zr (j:=0) rfl,?_⟩;refine⟨_,rfl,p,_,1,_,rfl,rfl,ix (Same.refl _),Zr (j:=1) rfl,l1,_,rfl,.inl ⟨SqL.of g1,λc1 h1=>?_⟩⟩;have S1:=sameNew (o:=.tup x1) (Same.refl H) h1;have e1:upd H c1 (.tup x1) c1=some (.tup x1):=Zc;generalize upd H c1 (.tup x1)=H1 at S1 e1 ⊢;refine⟨_,rfl,p,_,2,_,rfl,rfl,ix S1,Zr (j:=2) rfl,l2,_,rfl,.inl ⟨SqL.of (S1 _ _ g2),λc2 h2=>?_⟩⟩;have S2:=sameNew (o:=.tup x2) (Same.refl H1) h2;have e2:upd H1 c2 (.tup x2) c2=some (.tup x2):=Zc;generalize upd H1 c2 (.tup x2)=H2 at S2 e2 ⊢;have S02:=S1.trans S2;refine⟨_,rfl,p,_,3,_,rfl,rfl,ix S02,Zr (j:=3) rfl,l3,_,rfl,.inl ⟨SqL.of (S02 _ _ g3),λc3 h3=>?_⟩⟩;have S3:=sameNew (o:=.tup x3) (Same.refl H2) h3;have e3:upd H2 c3 (.tup x3) c3=some (.tup x3):=Zc;generalize upd H2 c3 (.tup x3)=H3 at S3 e3 ⊢;have S03:=S02.trans S3;refine⟨_,rfl,p,_,4,_,rfl,rfl,ix S03,Zr (j:=4) rfl,l4,_,rfl,.inl ⟨SqL.of (S03 _ _ g4),λc4 h4=>?_⟩⟩;have S4:=sameNew (o:=.tup x4) (Same.refl H3) h4;have e4:upd H3 c4 (.tup x4) c4=some (.tup x4):=Zc;generalize upd H3 c4 (.tup x4)=H4 at S4 e4 ⊢;have S04:=S03.trans S4;refine⟨zl,λq hq=>?_⟩;dsimp only[tNil];have S5:=sameNew (o:=.tup [.int T.n,.ref c1,.ref c2,.ref c3,.ref c4]) (Same.refl H4) hq;have e5:upd H4 q (.tup [.int T.n,.ref c1,.ref c2,.ref c3,.ref c4]) q=some (.tup [.int T.n,.ref c1,.ref c2,.ref c3,.ref c4]):=Zc;generalize upd H4 q (.tup [.int T.n,.ref c1,.ref c2,.ref c3,.ref c4])=H5 at S5 e5 ⊢;have S05:=S04.trans S5;refine k H5 (.ref q) S05 ?_;exact Qq (GB ok) (S5 _ _ (S4 _ _ (S3 _ _ (S2 _ _ e1)))) (S5 _ _ (S4 _ _ (S3 _ _ e2))) (S5 _ _ (S4 _ _ e3)) (S5 _ _ e4) (r1.same S05) (r2.same S05) (r3.same S05) (r4.same S05) e5
structure PermT(T T':Tb):Prop where
 n:T'.n=T.n
 p1:T'.t1.Perm T.t1
 p2:T'.t2.Perm T.t2
 p3:T'.t3.Perm T.t3
 p4:T'.t4.Perm T.t4
theorem PermT.part{T T':Tb}(h:PermT T T'){j:Nat}(hj:isJ j):(T'.part j).Perm (T.part j):=by
 rcases hj with rfl|rfl|rfl|rfl
 ·exact h.p1
 ·exact h.p2
 ·exact h.p3
 ·exact h.p4
theorem Wa{a b:List Int}(h:a.Perm b):a.sum=b.sum:=by
 induction h with
|nil=>rfl
|cons x _ ih=>rw[List.sum_cons,List.sum_cons,ih]
|swap x y l=>simp only[List.sum_cons];omega
|trans _ _ i1 i2=>exact i1.trans i2
theorem PermT.ok{T T':Tb}(h:PermT T T')(o:OkTb T):OkTb T':=by
 refine⟨by rw[h.n];exact o.n0,by rw[h.n];exact o.n1,λj hj=>?_⟩;obtain⟨hl,hr⟩:=o.part j hj;have hp:=h.part hj;refine⟨by rw[hp.length_eq];exact hl,?_,λys hy=>?_,λe=>?_⟩
 ·exact(hp.map nameOf).nodup_iff.mpr hr.nd
 ·have r:=hr.row ys (hp.mem_iff.mp hy);refine⟨r.len,r.nm,λk1 hk pp hpp=>?_,r.ma,r.flat⟩;rw[h.n];exact r.why k1 (λe=>by have:=hk e;exact λp hp'=>this p (h.p1.mem_iff.mpr hp')) pp hpp
 ·rw[Wa (hp.map Z9)];exact hr.sum e
theorem Sw{α β:Type}{R:α->β->Prop}{a b:List α}(h:a.Perm b):∀{c:List β},Paired R b c->∃c',c'.Perm c/\Paired R a c':=by
 induction h with
|nil=>intro c p;exact⟨c,List.Perm.refl _,p⟩
|@cons x a b _ ih=>
  intro c p;cases p with
 |cons hx t=>obtain⟨c',h1,h2⟩:=ih t;exact⟨_::c',h1.cons _,.cons hx h2⟩
|swap x y l=>
  intro c p;cases p with
 |cons hx t=>
   cases t with
  |cons hy t=>exact⟨_::_::_,List.Perm.swap _ _ _,.cons hy (.cons hx t)⟩
|trans _ _ i1 i2=>intro c p;obtain⟨c1,h1,p1⟩:=i2 p;obtain⟨c2,h2,p2⟩:=i1 p1;exact⟨c2,h2.trans h1,p2⟩
def RlB(b:Addr)(H:Hp)(y:V)(r:List V):Prop:=∃a,y=.ref a/\a≠b/\H a=some (.tup r)
theorem Pe{b:Addr}{H:Hp}{l:Addr}{rows:List (List V)}(h:ZH b H l rows):∃xs,H l=some (.lst xs)/\Paired (RlB b H) xs rows:=by
 obtain⟨_,as,e,hl,r⟩:=h;refine⟨_,e,?_⟩;clear e;induction as generalizing rows with
|nil=>
  cases rows with
 |nil=>exact .nil
 |cons _ _=>cases hl
|cons a as ih=>
  cases rows with
 |nil=>cases hl
 |cons y rows=>have h0:=r 0 a y rfl rfl;exact .cons ⟨a,rfl,h0.1,h0.2⟩ (ih (by simpa using hl) λi a' r' h1 h2=>r (i+1) a' r' (by simpa using h1) (by simpa using h2))
theorem Pp{b:Addr}{H:Hp}{l:Addr}{rows:List (List V)}{xs:List V}(nl:l≠b)(e:H l=some (.lst xs))(h:Paired (RlB b H) xs rows):ZH b H l rows:=by
 have key:∃as:List Addr,xs=as.map V.ref/\as.length=rows.length/\∀(i:Nat)a r,as[i]?=some a->rows[i]?=some r->a≠b/\H a=some (.tup r):=by
  clear e;induction h with
 |nil=>exact⟨[],rfl,rfl,λi a r h=>by cases h⟩
 |@cons x y xs rows hx _ ih=>
   obtain⟨as,e1,e2,e3⟩:=ih;obtain⟨a,rfl,na,ha⟩:=hx;refine⟨a::as,by rw[e1];rfl,by rw[List.length_cons,List.length_cons,e2],λi a' r' h1 h2=>?_⟩;cases i with
  |zero=>cases h1;cases h2;exact⟨na,ha⟩
  |succ i=>exact e3 i a' r' (by simpa using h1) (by simpa using h2)
 obtain⟨as,rfl,h1,h2⟩:=key;exact⟨nl,as,e,h1,h2⟩
theorem RlB.same{b:Addr}{H H':Hp}(s:Zj b H H'){y:V}{r:List V}(h:RlB b H y r):RlB b H' y r:=by obtain⟨a,e,na,ha⟩:=h;exact⟨a,e,na,s _ _ ha na⟩
def Wh:Sp:=λvs H Q _=>∃(b p l1 l2 l3 l4:Addr)(T:Tb),vs=[.ref b,.ref p]/\Zz H b/\TbAt b H p T l1 l2 l3 l4/\OkTb T /\∀H' w o ln m1 m2 m3 m4 T' L,Zz H' b->Zj b H H'->w≠b->H' w=some (.lst [.ref o,.ref ln])->TbAt b H' o T' m1 m2 m3 m4->PermT T T'->ln≠b->H' ln=some (.lst (L.map λe=>V.str (line e)))->(∀j,sel j L=sel j (ents T'))->(∀e∈L,e∈ents T')->Q (.ref w) H'
def Tn(b:Addr)(H:Hp)(u:V)(t:List (List V)):Prop:=∃m t',u=.ref m/\ZH b H m t'/\t'.Perm t
theorem Tn.same{b:Addr}{H H':Hp}(s:Zj b H H'){u:V}{t:List (List V)}(h:Tn b H u t):Tn b H' u t:=by obtain⟨m,t',e,r,q⟩:=h;exact⟨m,t',e,r.same s,q⟩
theorem Gf:FnScope ["_law_box_here","_law_world_here","_law_other"] ["_law_box_here","_law_world_here"] (Zg T.f__law_wild):=scO (by decide +kernel)
noncomputable def X5:Scope:={kind:=.function,names:=[(Str.ofString ".0",.local),(Str.ofString "_law_part",.local),(Str.ofString "_law_turned",.globalImplicit),(Str.ofString "_law_box_here",.free)],isGenerator:=false,isCoroutine:=false,more:=[]}
theorem U0:CompScope X5 (Zg T.f__law_wild):=⟨rfl,by decide +kernel,by decide +kernel,by decide +kernel⟩
theorem U4:(["_law_part","_law_box_here"]:List Str).Nodup:=by decide +kernel
theorem U3:CompNames ["_law_box_here","_law_world_here","_law_other"] X5 ["_law_part","_law_box_here"] [none,some 0]:=.mk' (by decide +kernel)
theorem Kk(B:∀x∈Blts,mg x=none)(CU:Can P w K mg base 2 "_law_turned" ["_law_box_here","_law_some"] N6)(CR:Can P w K mg base 1 "_law_rows" ["_law_world_here"] Nf)(CW:Can P w K mg base 2 "_law_woven" ["_law_box_here","_law_rows_here"] M9)(D:Df K mg "_law_wild" T.f__law_wild ["_law_box_here","_law_world_here"]):Can P w K mg base 3 "_law_wild" ["_law_box_here","_law_world_here"] Wh:=by
 refine D.can Gf (λvs H Q E h=>?_) (λf cdv A outer s H vs Q E hr h=>?_)
 ·obtain⟨b,p,l1,l2,l3,l4,T,rfl,_⟩:=h;rfl
 ·obtain⟨b,p,l1,l2,l3,l4,T,rfl,hb,tb,ok,k⟩:=h;refine' ⟨_,(@Zd _ _ _ _ _ ?h4 (@Zk _ _ _ ?h5)),?rd⟩;case' h5=>refine' (Zq ?h3)
  case' h4=>refine' (@st _ _ _ _ 2 _ _ Gf.nd (Zv Nz ?h2 (Yz (scope:=X5) (N:=["_law_part","_law_box_here"]) (cp:=[none,some 0]) rfl U0 U3 (Yc (Yv (r:=rSlL K) Jg (pv 1) (YG Zi) YH)) (λC s H ex pn=>(Zo (i:=0) U4 rfl (Or.inl rfl))) (λC s H ex pn=>ZO) (λC s H ex pn=>(cn CU hr (Za (pv 1) (Za (pv 0) Zb)))))) (by rfl) (by exact Or.inl rfl) (by rfl) (by exact .inl rfl))
  case' h3=>refine' (@ZQ _ _ _ _ (@Za _ _ _ _ _ (pv 2) (@Za _ _ _ _ _ (cn CW hr (@Za _ _ _ _ _ (pv 0) (@Za _ _ _ _ _ (cn CR hr (@Za _ _ _ _ _ (pv 2) Zb (by rfl))) Zb (by rfl)) (by rfl))) Zb (by rfl)) (by rfl)))
  case' h2=>refine' (@ZQ _ _ _ _ (@Za _ _ _ _ _ ?h1 Zb (by rfl)))
  case' h1=>refine' (@il _ _ _ _ _ _ K (pv 1) Zi (by rfl) (by exact λ_ _=>rfl))
  have hp:=tb.at_;have ix:∀{H':Hp},Zj b H H'->SqL K H' p [.int T.n,.ref l1,.ref l2,.ref l3,.ref l4]:=λs=>SqL.of (s _ _ hp tb.ne);refine⟨_,rfl,p,_,0,_,rfl,rfl,ix (Zj.refl _ _),Zr (j:=0) rfl,zl,λc1 hc1=>?_⟩;dsimp only[tNil];have B1:=hb.new (o:=.lst [.int T.n]) hc1;have S1:=(Zj.refl b H).new' (o:=.lst [.int T.n]) hc1;have n1:=hb.ne hc1;have e1:upd H c1 (.lst [.int T.n]) c1=some (.lst [.int T.n]):=Zc;generalize upd H c1 (.lst [.int T.n])=H1 at B1 S1 e1 ⊢;refine⟨_,rfl,_,rfl,p,_,rfl,ix S1,λc2 hc2=>?_⟩;rw[cut1 _ (by simp)];rw[show List.drop 1 [V.int T.n,.ref l1,.ref l2,.ref l3,.ref l4]=[.ref l1,.ref l2,.ref l3,.ref l4]from rfl];have B2:=B1.new (o:=.lst [.ref l1,.ref l2,.ref l3,.ref l4]) hc2;have S2:=(Zj.refl b H1).new' (o:=.lst [.ref l1,.ref l2,.ref l3,.ref l4]) hc2;have n2:=B1.ne hc2;have e2:upd H1 c2 (.lst [.ref l1,.ref l2,.ref l3,.ref l4]) c2=some (.lst [.ref l1,.ref l2,.ref l3,.ref l4]):=Zc;generalize upd H1 c2 (.lst [.ref l1,.ref l2,.ref l3,.ref l4])=H2 at B2 S2 e2 ⊢;have S02:=S1.trans S2;refine⟨c2,rfl,⟨_,SqL.of e2⟩,?_⟩;have hlen:∀i,i<4->∃(l:Addr)(t:List (List V)),([.ref l1,.ref l2,.ref l3,.ref l4]:List V)[i]?=some (.ref l)/\([T.t1,T.t2,T.t3,T.t4]:List (List (List V)))[i]?=some t/\ZH b H l t/\t.length<=1000:=λi hi=>by
   have m1:T.t1.length<=14:=(ok.part 1 (.inl rfl)).1;have m2:T.t2.length<=80:=(ok.part 2 (.inr (.inl rfl))).1;have m3:T.t3.length<=40:=(ok.part 3 (.inr (.inr (.inl rfl)))).1;have m4:T.t4.length<=300:=(ok.part 4 (.inr (.inr (.inr rfl)))).1;rcases(by omega:i=0\/i=1\/i=2\/i=3)with rfl|rfl|rfl|rfl
   ·exact⟨l1,_,rfl,rfl,tb.pl,by omega⟩
   ·exact⟨l2,_,rfl,rfl,tb.rd,by omega⟩
   ·exact⟨l3,_,rfl,rfl,tb.wy,by omega⟩
   ·exact⟨l4,_,rfl,rfl,tb.gr,by omega⟩
  refine ZF (J:=Itl K c2) 4 (by decide) (λi us τ H'=>i<=4/\Zz H' b/\Zj b H2 H'/\Paired (Tn b H') us (([T.t1,T.t2,T.t3,T.t4]:List (List (List V))).take i)/\∃v,τ=[v,some (.ref b)]) ⟨by omega,B2,Zj.refl _ _,.nil,none,rfl⟩ (λi us τ H' p=>by rw[pairs_len p.2.2.2.1,List.length_take];omega) (λi us τ H' hi p=>?_) (λus τ H' p=>⟨_,SqL.of (p.2.2.1 _ _ e2 n2),Nat.le_refl _⟩) (λi us τ H' x H3 hi p yl=>?_) (λus τ H3 p c3 hc3=>?_)
  ·obtain⟨l,t,h1,_⟩:=hlen i hi;exact⟨_,_,SqL.of (p.2.2.1 _ _ e2 n2),h1⟩
  ·obtain⟨_,B3,S3,pr,v,rfl⟩:=p;obtain⟨rfl,hy⟩:=yl;have hx:=hy _ (SqL.of (S3 _ _ e2 n2));obtain⟨l,t,h1,h2,hra,hl⟩:=hlen i hi;rw[h1]at hx;cases hx;have ra:=hra.same (S02.trans S3);obtain⟨zs,ez,pz⟩:=Pe ra;refine⟨_,rfl,_,rfl,b,l,zs,rfl,B3,ra.1,ez,by rw[pairs_len pz];exact hl,λH4 r ys B4 S4 nr er pm=>?_⟩;obtain⟨t',q1,q2⟩:=Sw pm pz;refine⟨by omega,B4,S3.trans S4,?_,_,rfl⟩;rw[List.take_succ,h2];exact YF (Paired.mapP pr λ_ _ z=>z.same S4) (.cons ⟨r,t',rfl,Pp nr er (Paired.mapP q2 λ_ _ z=>z.same S4),q1⟩ .nil)
  obtain⟨_,B3,S3,pr,v,rfl⟩:=p;cases pr with
 |cons h1 pr=>
  cases pr with
 |cons h2 pr=>
  cases pr with
 |cons h3 pr=>
  cases pr with
 |cons h4 pr=>
  cases pr;obtain⟨m1,t1',rfl,ra1,pm1⟩:=h1;obtain⟨m2,t2',rfl,ra2,pm2⟩:=h2;obtain⟨m3,t3',rfl,ra3,pm3⟩:=h3;obtain⟨m4,t4',rfl,ra4,pm4⟩:=h4;have B4:=B3.new (o:=.lst [.ref m1,.ref m2,.ref m3,.ref m4]) hc3;have S4:=(Zj.refl b H3).new' (o:=.lst [.ref m1,.ref m2,.ref m3,.ref m4]) hc3;have n3:=B3.ne hc3;have e4:upd H3 c3 (.lst [.ref m1,.ref m2,.ref m3,.ref m4]) c3=some (.lst [.ref m1,.ref m2,.ref m3,.ref m4]):=Zc;generalize upd H3 c3 (.lst [.ref m1,.ref m2,.ref m3,.ref m4])=H4 at B4 S4 e4 ⊢;have S14:=(S2.trans S3).trans S4;refine⟨c1,c3,_,_,rfl,rfl,S14 _ _ e1 n1,e4,by show 5<=sizeLine;decide,λo ho=>?_⟩;have B5:=B4.new (o:=.lst ([.int T.n]++[.ref m1,.ref m2,.ref m3,.ref m4])) ho;have S5:=(Zj.refl b H4).new' (o:=.lst ([.int T.n]++[.ref m1,.ref m2,.ref m3,.ref m4])) ho;have no:=B4.ne ho;have e5:upd H4 o (.lst ([.int T.n]++[.ref m1,.ref m2,.ref m3,.ref m4])) o=some (.lst [.int T.n,.ref m1,.ref m2,.ref m3,.ref m4]):=Zc;generalize upd H4 o (.lst ([.int T.n]++[.ref m1,.ref m2,.ref m3,.ref m4]))=H5 at B5 S5 e5 ⊢;have S35:=S4.trans S5;have pmT:PermT T ⟨T.n,t1',t2',t3',t4'⟩:=⟨rfl,pm1,pm2,pm3,pm4⟩;have tb5:TbAt b H5 o ⟨T.n,t1',t2',t3',t4'⟩ m1 m2 m3 m4:=⟨no,e5,ra1.same S35,ra2.same S35,ra3.same S35,ra4.same S35⟩;generalize (⟨T.n,t1',t2',t3',t4'⟩:Tb)=T' at pmT tb5;have ok':=pmT.ok ok;refine⟨_,rfl,_,rfl,_,rfl,b,o,m1,m2,m3,m4,T',rfl,tb5,ok',λH6 r xs S6 hr0 er prr=>?_⟩;have B6:Zz H6 b:=by obtain⟨x,y,z,eb⟩:=B5;exact⟨x,y,z,S6 _ _ eb⟩
  refine⟨b,r,xs,ents T',rfl,B6,B5.ne hr0,er,prr,Nat.le_trans (VT ok') (by decide),λe he=>(VS ok' e he).j,λH7 ln L B7 S7 nln eln hs hm=>⟨zl,λw' hw'=>?_⟩⟩;have S57:=(Zj.of (b:=b) S6).trans S7;have S8:=(Zj.refl b H7).new' (o:=.lst [.ref o,.ref ln]) hw';exact k _ w' o ln m1 m2 m3 m4 T' L (B7.new hw') (((S02.trans S3).trans S35).trans (S57.trans S8)) (B7.ne hw') Zc (tb5.same (S57.trans S8)) pmT nln (S8 _ _ eln nln) hs hm
end
theorem Gu(j i:Nat)(t:List (List V)):sel j (t.map λy=>((i,y):Ent))=if i=j then t else[]:=by
 induction t with
|nil=>by_cases h:i=j<;>simp[sel,h]
|cons y t ih=>rw[List.map_cons,G5,ih];by_cases h:i=j<;>simp[h]
theorem GF(T:Tb):TbL T (ents T):=by
 have key:∀j,sel j (ents T)=(if 0=j then[[.int T.n]]else[])++((if 1=j then T.t1 else[])++(if 2=j then T.t2 else[])++(if 3=j then T.t3 else[])++if 4=j then T.t4 else[]):=λj=>by unfold ents;rw[G5,JL,JL,JL,Gu,Gu,Gu,Gu]
 refine⟨by rw[key];simp,λj hj=>?_⟩;rw[key];rcases hj with rfl|rfl|rfl|rfl<;>simp[Tb.part]
theorem LS{T:Tb}{L:List Ent}(h:∀j,sel j L=sel j (ents T)):TbL T L:=⟨(h 0).trans (GF T).n,λj hj=>(h j).trans ((GF T).p j hj)⟩
end TX
namespace L2
open PySem PySem.Spec PyProof.Rows
theorem TJ{X:Cx}:YM X (.builtin "isinstance") (λxs H Q=>∃x C t b,xs=[x,.ref C]/\TyOf X.K H x t/\PySem.W.kitOne X.K t (.ref C)=some b/\Q (.bl b) H):=by intro pins s σ H xs us Q I r h;obtain⟨x,c,t,b,rfl,ty,e,q⟩:=h;obtain⟨u,w',rfl,ru,rw'⟩:=vals2 r;cases rw';exact MN I ru ty e λtk=>⟨.bl b,H,I.tok tk,rfl,q⟩
end L2
namespace TX
open PySem L2 PySem.Spec PyProof.Rows TB WD
structure TyC(K:PySem.W.Frag)(C:Addr):Prop where
 ty:∀(H:Hp)(a dx:Addr)(fs:List (Str×V)),H a=some (.ins C dx fs)->TyOf K H (.ref a) (.ref C)
 me:PySem.W.kitOne K (.ref C) (.ref C)=some true
def spIs(C:Addr):Sp:=λvs H Q _=>∃(b t p l1 l2 l3 l4:Addr)(T:Tb),vs=[.ref t,.ref p]/\Tel H C t T/\TbAt b H p T l1 l2 l3 l4/\OkTb T/\∀H',Same H H'->Q (.bl true) H'
section
variable {P:Program}{w:World}{K:PySem.W.Frag}{mg:Str->Option Value}{base:Heap}{C Cb:Addr}
theorem Sk:FnScope ["_law_table","_law_world_here"] ["_law_table","_law_world_here"] (Zg T.f__law_is):=scO (by decide +kernel)
theorem LI(B:∀x∈Blts,mg x=none)(Z:TCl K C)(Y:TyC K C)(hmg:mg "Table"=some (.ref C))(CT:CanM P w K mg base CX0 1 C "told" ["self"] (Qv C))(CD:Can P w K mg base 1 "_law_due" ["_law_world_here"] LY)(D:Df K mg "_law_is" T.f__law_is ["_law_table","_law_world_here"]):Can P w K mg base 2 "_law_is" ["_law_table","_law_world_here"] (spIs C):=by
 refine D.can Sk (λvs H Q E h=>?_) (λf cdv A outer s H vs Q E hr h=>?_)
 ·obtain⟨b,t,p,l1,l2,l3,l4,T,rfl,_⟩:=h;rfl
 ·obtain⟨b,t,p,l1,l2,l3,l4,T,rfl,tel,tb,ok,k⟩:=h;refine⟨_,(Zk (Zq (JE (ZI TJ rfl (B _ (by decide +kernel)) PyProof.Rows.boot_isinstance (Za (pv 0) (Za (ZW (v:=.ref C) rfl hmg rfl) Zb))) (Y4 (YY Xl (ZI (Mt hr) rfl (B _ (by decide +kernel)) PyProof.Rows.boot_repr (Za (Pm CT Z.cl VJ (hr.mono (by decide)) (pv 0)) Zb)) (ZI (Mt hr) rfl (B _ (by decide +kernel)) PyProof.Rows.boot_repr (Za (cn CD hr (Za (pv 1) Zb)) Zb)) (ZD _)))))),?_⟩;obtain⟨fs,x1,x2,x3,x4,kk,tp,_⟩:=tel;obtain⟨dx,ht⟩:=tp.tab.tab.at_;have sm:=(GB ok).sm.shw (by decide) (by decide);refine⟨_,rfl,_,C,.ref C,true,rfl,Y.ty _ _ _ _ ht,Y.me,?_⟩;refine⟨true,rfl,?_⟩;refine iteT ?_;refine⟨_,rfl,t,dx,fs,rfl,ht,tp.tab.tab.only _ (by decide +kernel),t,fs,T.n,_,_,_,_,kk,rfl,tp.tab,λq m1 m2 m3 m4 y1 y2 y3 y4 s1 s2 s3 s4 z1 z2 z3 z4 h1 h2 h3 h4 hq=>?_⟩;cases z1;cases z2;cases z3;cases z4;dsimp only[tNil];have S1:=sameNew (o:=.tup [.int T.n,.ref m1,.ref m2,.ref m3,.ref m4]) (Same.refl H) hq;have e1:upd H q (.tup [.int T.n,.ref m1,.ref m2,.ref m3,.ref m4]) q=some (.tup [.int T.n,.ref m1,.ref m2,.ref m3,.ref m4]):=Zc;generalize upd H q (.tup [.int T.n,.ref m1,.ref m2,.ref m3,.ref m4])=H1 at S1 e1 ⊢;have d1:Is H1 (.ref q) (tbD T):=Qq (GB ok) (S1 _ _ h1) (S1 _ _ h2) (S1 _ _ h3) (S1 _ _ h4) ((tp.rows _ (.inl rfl) _ _ rfl).same S1) ((tp.rows _ (.inr (.inl rfl)) _ _ rfl).same S1) ((tp.rows _ (.inr (.inr (.inl rfl))) _ _ rfl).same S1) ((tp.rows _ (.inr (.inr (.inr rfl))) _ _ rfl).same S1) e1;refine⟨_,tbD T,rfl,.of d1,sm.1,sm.2,sm.3,?_⟩;refine⟨_,rfl,b,p,l1,l2,l3,l4,T,rfl,tb.same (Zj.of S1),ok,λH2 v S2 d2=>?_⟩;refine⟨_,tbD T,rfl,.of d2,sm.1,sm.2,sm.3,rfl,?_⟩;rw[decide_eq_true rfl];exact k H2 (S1.trans S2)
end
end TX
namespace WD
open PySem L2 PySem.Spec PyProof.Rows TB
section
variable {b:Addr}{H H':Hp}
theorem Zz.tup{H:Hp}{b p:Addr}{xs:List V}(h:Zz H b)(hp:H p=some (.tup xs)):p≠b:=by obtain⟨x,y,z,e⟩:=h;exact ne_of hp e (by intro z;cases z)
theorem Zz.ins{p C dx:Addr}{fs:List (Str×V)}(h:Zz H b)(hp:H p=some (.ins C dx fs)):p≠b:=by obtain⟨x,y,z,e⟩:=h;exact ne_of hp e (by intro z;cases z)
theorem Zz.dK{p:Addr}{k:Kv}(h:Zz H b)(hp:H p=some (.dK k)):p≠b:=by obtain⟨x,y,z,e⟩:=h;exact ne_of hp e (by intro z;cases z)
theorem VL(hb:Zz H b)(s:Zj b H H'){fs:List (Str×V)}{f g:Str}{r:PR}{k:Kv}(h:ZZ H fs f g r k):ZZ H' fs f g r k:=by obtain⟨l,d,xs,rs,a1,a2,a3,a4,a5⟩:=h;exact⟨l,d,xs,rs,a1,a2,a3,s _ _ a4 (hb.tup a4),s _ _ a5 (hb.dK a5)⟩
theorem VF(hb:Zz H b)(s:Zj b H H'){xs:List V}{t:List (List V)}(hf:∀ys∈t,∀y∈ys,Flat y)(h:Ym H xs (t.map some)):Ym H' xs (t.map some):=⟨h.1,λi x r e1 e2=>by have h0:=h.2 i x r e1 e2;rw[List.getElem?_map]at e2;obtain⟨q,hq,rfl⟩:=Option.map_eq_some_iff.mp e2;obtain⟨p,e,hp,_⟩:=h0;exact⟨p,e,s _ _ hp (hb.tup hp),λy hy=>NF (hf q (List.mem_of_getElem? hq) y hy)⟩⟩
theorem Tel.box{C t:Addr}{T:Tb}(hb:Zz H b)(o:OkTb T)(s:Zj b H H')(h:Tel H C t T):Tel H' C t T:=by
 obtain⟨fs,x1,x2,x3,x4,k,tp,d⟩:=h;refine⟨fs,x1,x2,x3,x4,k,⟨⟨⟨let ⟨dx,e⟩:=tp.tab.tab.at_;⟨dx,s _ _ e (hb.ins e)⟩,tp.tab.tab.only⟩,tp.tab.turns,VL hb s tp.tab.p,VL hb s tp.tab.r,VL hb s tp.tab.w,VL hb s tp.tab.g⟩,λr hr xs rs er=>?_⟩,d⟩;have rr:=tp.rows r hr xs rs er;rcases hr with rfl|rfl|rfl|rfl
 ·cases er;exact VF hb s (o.flat (.inl rfl)) rr
 ·cases er;exact VF hb s (o.flat (.inr (.inl rfl))) rr
 ·cases er;exact VF hb s (o.flat (.inr (.inr (.inl rfl)))) rr
 ·cases er;exact VF hb s (o.flat (.inr (.inr (.inr rfl)))) rr
end
end WD
namespace TX
open PySem L2 PySem.Spec PyProof.Rows TB WD
def N9(K:PySem.W.Frag):Sp:=λvs H Q _=>∃(a:Addr)(ns:List Int),vs=[.ref a]/\SqL K H a (ns.map V.int)/\ns.length<=63/\∀H',Q (.bl true) H'
theorem Kh(ns:List Int)(lo hi:Option Int):∀v∈cutV (ns.map V.int) lo hi,∃c,v=.int c:=by intro v hv;unfold cutV at hv;have h1:=List.mem_of_mem_drop (List.mem_of_mem_take hv);obtain⟨c,_,e⟩:=List.mem_map.mp h1;exact⟨c,e.symm⟩
theorem UR{L:List Ent}(h:∀e∈L,EOk e)(hl:L.length<=1000):((L.map line).map (·.length)).sum+(L.map line).length*(Str.ofString "\n").length<=16777216:=by
 have h3:((L.map line).map (·.length)).sum<=((L.map line).map (·.length)).length*130:=GR λx hx=>by obtain⟨w,hw,rfl⟩:=List.mem_map.mp hx;obtain⟨e,he,rfl⟩:=List.mem_map.mp hw;exact(h e he).len
 rw[List.length_map,List.length_map]at h3;rw[show(Str.ofString "\n").length=1 from rfl,List.length_map];omega
noncomputable def T7:Tb:=⟨7,[],[],[],[]⟩
theorem EZ:OkTb T7:=by refine⟨by decide,by decide,λj hj=>?_⟩;rcases hj with rfl|rfl|rfl|rfl<;>exact⟨by decide,List.nodup_nil,λys h=>(by cases h),λ_=>(by decide)⟩
theorem Rm:(Str.ofString "turns 7":Str)=text (ents T7):=by decide +kernel
section
variable {P:Program}{w:World}{K:PySem.W.Frag}{mg:Str->Option Value}{base:Heap}{C Cb:Addr}
theorem Xk:FnScope ["_law_script","_law_cell_here","_law_box_here","_law_world_here","_law_rows_here","_law_text","_law_table","_law_woven_here","_law_other","_law_lines","_law_small"] ["_law_script"] (Zg T.f_law):=scO (by decide +kernel)
noncomputable def Mn:Scope:={kind:=.function,names:=[(Str.ofString ".0",.local),(Str.ofString "_law_row",.local)],isGenerator:=false,isCoroutine:=false,more:=[]}
theorem P7:CompScope Mn (Zg T.f_law):=⟨rfl,by decide +kernel,by decide +kernel,by decide +kernel⟩
theorem P9:(["_law_row"]:List Str).Nodup:=by decide +kernel
theorem P8:CompNames ["_law_script","_law_cell_here","_law_box_here","_law_world_here","_law_rows_here","_law_text","_law_table","_law_woven_here","_law_other","_law_lines","_law_small"] Mn ["_law_row"] [none]:=.mk' (by decide +kernel)
theorem DR{f:Addr}{fd:FuncData}(B:∀x∈Blts,mg x=none)(Z:TCl K C)(M:TMk P w K mg base C Cb)(CB:Can P w K mg base 1 "_law_box" ["_law_cell_here"] LZ)(CW:Can P w K mg base 4 "_law_world" ["_law_box_here"] Ro)(CR:Can P w K mg base 1 "_law_rows" ["_law_world_here"] Nf)(CS:Can P w K mg base 3 "show_table" ["table"] (Wi C))(CT:Can P w K mg base 10 "read_table" ["text"] (Wk C))(CI:Can P w K mg base 2 "_law_is" ["_law_table","_law_world_here"] (spIs C))(CV:Can P w K mg base 2 "_law_woven" ["_law_box_here","_law_rows_here"] M9)(CD:Can P w K mg base 3 "_law_wild" ["_law_box_here","_law_world_here"] Wh)(CM:CanM P w K mg base CX0 1 C "told" ["self"] (Qv C))(F:Fun K "law" "law" T.f_law f fd):FnOk P w K mg base CX0 11 f fd ["_law_script"] (N9 K):=by
 obtain⟨fm,fdm,hM,FM,bM⟩:=M.made;refine F.ok Xk (λvs H Q E h=>?_) (λcdv A outer s H vs Q E hr h=>?_)
 ·obtain⟨a,ns,rfl,_⟩:=h;rfl
 ·obtain⟨a,ns,rfl,hS,hlen,k⟩:=h;refine' ⟨_,(@Zd _ _ _ _ _ ?h28 (@Zd _ _ _ _ _ ?h29 (@Zk _ _ _ ?h30))),?rd⟩;case' h30=>refine' (Zq (JE (@YY _ _ _ _ _ _ _ _ (DQ hr.units) (Pm CM Z.cl VJ (hr.mono (by decide)) (pv 10)) ?h27 (ZD _)) (Y4 (@YY _ _ _ _ _ _ _ _ Xl (cn CS hr (@Za _ _ _ _ _ (pv 10) Zb (by rfl))) Zn (ZD _)))))
  case' h29=>refine' (@st _ _ _ _ 10 _ _ Xk.nd (cn CT hr (@Za _ _ _ _ _ Zn Zb (by rfl))) (by rfl) (by exact Or.inl rfl) (by rfl) (by exact .inl rfl))
  case' h28=>refine' (Y3 PassesOwn.never rfl (Yc (Zv Nz (Yv (r:=rSlL K) Jg (pv 0) YH (YG Zi)) ?h1)) (Zo (i:=1) Xk.nd rfl (Or.inl rfl)) (@Zd _ _ _ _ _ ?h12 (@Zd _ _ _ _ _ ?h13 (@Zd _ _ _ _ _ ?h14 (@Zd _ _ _ _ _ ?h15 (@Zd _ _ _ _ _ ?h16 (@Zd _ _ _ _ _ ?h17 (@Zd _ _ _ _ _ ?h18 (@Zd _ _ _ _ _ ?h19 (@Zd _ _ _ _ _ ?h20 (@Zd _ _ _ _ _ ?h21 (@Zk _ _ _ ?h22))))))))))))
  case' h27=>refine' (@Ys _ _ _ _ _ (@Za _ _ _ _ _ Zi (@Za _ _ _ _ _ ?h26 (@Za _ _ _ _ _ ?h25 (@Za _ _ _ _ _ ?h24 (@Za _ _ _ _ _ ?h23 Zb (by rfl)) (by rfl)) (by rfl)) (by rfl)) (by rfl)))
  case' h26=>refine' (@Ys _ _ _ _ _ Zb)
  case' h25=>refine' (@Ys _ _ _ _ _ Zb)
  case' h24=>refine' (@Ys _ _ _ _ _ Zb)
  case' h23=>refine' (@Ys _ _ _ _ _ Zb)
  case' h22=>refine' (@ZP _ _ _ _ _ _ _ _ (PW.pt (JY (Ye (Z0 (cn CI hr (@Za _ _ _ _ _ (cn CT hr (@Za _ _ _ _ _ (Yq PySem.F.plainAttrs_str PySem.F.slot_str_join PySem.F.type_str_join XO Zn (@Za _ _ _ _ _ (pv 9) Zb (by rfl))) Zb (by rfl))) (@Za _ _ _ _ _ (pv 8) Zb (by rfl)) (by rfl))))) (XW (Ye (Z0 (cn CI hr (@Za _ _ _ _ _ (pv 6) (@Za _ _ _ _ _ (pv 3) Zb (by rfl)) (by rfl)))))))) (@Zk _ _ _ ?h11) Zx)
  case' h21=>refine' (UJ (cn CD hr (@Za _ _ _ _ _ (pv 2) (@Za _ _ _ _ _ (pv 3) Zb (by rfl)) (by rfl))) (WQ rfl (Zp (Zo (i:=8) Xk.nd rfl (Or.inl rfl)) (Zp (Zo (i:=9) Xk.nd rfl (Or.inl rfl)) ZV))))
  case' h20=>refine' (@ZP _ _ _ _ _ _ _ _ (PW.pt (JY (Ye (Z0 (cn CI hr (@Za _ _ _ _ _ (pv 7) (@Za _ _ _ _ _ (pv 3) Zb (by rfl)) (by rfl))))) (XW (@ZC _ _ _ _ _ _ _ _ Ma (cn CS hr (@Za _ _ _ _ _ (pv 7) Zb (by rfl))) (pv 5) (ZD _))))) (@Zk _ _ _ ?h10) Zx)
  case' h19=>refine' (@st _ _ _ _ 7 _ _ Xk.nd (cn CT hr (@Za _ _ _ _ _ (Yq PySem.F.plainAttrs_str PySem.F.slot_str_join PySem.F.type_str_join XO Zn (@Za _ _ _ _ _ (cn CV hr (@Za _ _ _ _ _ (pv 2) (@Za _ _ _ _ _ (pv 4) Zb (by rfl)) (by rfl))) Zb (by rfl))) Zb (by rfl))) (by rfl) (by exact Or.inl rfl) (by rfl) (by exact .inl rfl))
  case' h18=>refine' (@ZP _ _ _ _ _ _ _ _ (@ZC _ _ _ _ _ _ _ _ Ma (cn CS hr (@Za _ _ _ _ _ (cn CT hr (@Za _ _ _ _ _ (pv 5) Zb (by rfl))) Zb (by rfl))) (pv 5) (ZD _)) (@Zk _ _ _ ?h9) Zx)
  case' h17=>refine' (@ZP _ _ _ _ _ _ _ _ (PW.pt (JY (@ZC _ _ _ _ _ _ _ _ Ma (cn CS hr (@Za _ _ _ _ _ (pv 6) Zb (by rfl))) (pv 5) (ZD _)) (XW (Ye (Z0 (cn CI hr (@Za _ _ _ _ _ (cn CT hr (@Za _ _ _ _ _ (pv 5) Zb (by rfl))) (@Za _ _ _ _ _ (pv 3) Zb (by rfl)) (by rfl)))))))) (@Zk _ _ _ ?h8) Zx)
  case' h16=>refine' (@st _ _ _ _ 6 _ _ Xk.nd (Ll hM FM (hr.mono (by decide)) rfl M.mg bM .nil DN (@Za _ _ _ _ _ ?h7 (@Za _ _ _ _ _ ?h6 (@Za _ _ _ _ _ ?h5 (@Za _ _ _ _ _ ?h4 (@Za _ _ _ _ _ ?h3 Zb (by rfl)) (by rfl)) (by rfl)) (by rfl)) (by rfl))) (by rfl) (by exact Or.inl rfl) (by rfl) (by exact .inl rfl))
  case' h15=>refine' (@st _ _ _ _ 5 _ _ Xk.nd (Yq PySem.F.plainAttrs_str PySem.F.slot_str_join PySem.F.type_str_join XO Zn (@Za _ _ _ _ _ (Yz (scope:=Mn) (N:=["_law_row"]) (cp:=[none]) rfl P7 P8 (Yc (pv 4)) (λC s H ex pn=>(Zo (i:=0) P9 rfl (Or.inl rfl))) (λC s H ex pn=>ZO) (λC s H ex pn=>(it K (pv 0) Zi))) Zb (by rfl))) (by rfl) (by exact Or.inl rfl) (by rfl) (by exact .inl rfl))
  case' h14=>refine' (@st _ _ _ _ 4 _ _ Xk.nd (cn CR hr (@Za _ _ _ _ _ (pv 3) Zb (by rfl))) (by rfl) (by exact Or.inl rfl) (by rfl) (by exact .inl rfl))
  case' h13=>refine' (@st _ _ _ _ 3 _ _ Xk.nd ?h2 (by rfl) (by exact Or.inl rfl) (by rfl) (by exact .inl rfl))
  case' h12=>refine' (@st _ _ _ _ 2 _ _ Xk.nd (cn CB hr (@Za _ _ _ _ _ (pv 1) Zb (by rfl))) (by rfl) (by exact Or.inl rfl) (by rfl) (by exact .inl rfl))
  case' h11=>refine' (Zq Pn)
  case' h10=>refine' (Zq Pn)
  case' h9=>refine' (Zq Pn)
  case' h8=>refine' (Zq Pn)
  case' h7=>refine' (@il _ _ _ _ _ _ K (pv 3) Zi (by rfl) (by exact λ_ _=>rfl))
  case' h6=>refine' (@il _ _ _ _ _ _ K (pv 3) Zi (by rfl) (by exact λ_ _=>rfl))
  case' h5=>refine' (@il _ _ _ _ _ _ K (pv 3) Zi (by rfl) (by exact λ_ _=>rfl))
  case' h4=>refine' (@il _ _ _ _ _ _ K (pv 3) Zi (by rfl) (by exact λ_ _=>rfl))
  case' h3=>refine' (@il _ _ _ _ _ _ K (pv 3) Zi (by rfl) (by exact λ_ _=>rfl))
  case' h2=>refine' (@il _ _ _ _ _ _ K (cn CW hr (@Za _ _ _ _ _ (pv 2) Zb (by rfl))) Zi (by rfl) (by exact λ_ _=>rfl))
  case' h1=>refine' (@ZQ _ _ _ _ (@Za _ _ _ _ _ Zi Zb (by rfl)))
  refine⟨_,rfl,_,rfl,a,_,rfl,hS,λp1 e1=>?_⟩;refine⟨by show 1<=sizeLine;decide,λp2 e2=>?_⟩;have n12:p1≠p2:=Zf (Zc (H:=H) (a:=p1)) e2;have hcl:(cutV (ns.map V.int) none (some 12)).length+1<=sizeLine:=by
   have h1:=JH (ns.map V.int) none (some 12);rw[List.length_map]at h1;have:(100:Nat)<=sizeLine:=by decide
   omega
  refine⟨p1,p2,_,_,rfl,rfl,(by rw[Ze n12,Zc]),Zc,hcl,λp3 e3=>⟨p3,rfl,⟨_,SqL.of Zc⟩,?_⟩⟩;have hxs:∀v∈cutV (ns.map V.int) none (some 12)++[V.int 21],∃c,v=.int c:=λv hv=>by
   rcases List.mem_append.mp hv with hv|hv
   ·exact Kh ns _ _ v hv
   ·rw[List.mem_singleton]at hv;exact⟨_,hv⟩
  have L0:upd (upd (upd H p1 (.lst (cutV (ns.map V.int) none (some 12)))) p2 (.lst [V.int 21])) p3 (.lst (cutV (ns.map V.int) none (some 12)++[V.int 21])) p3=some (.lst (cutV (ns.map V.int) none (some 12)++[V.int 21])):=Zc;generalize upd (upd (upd H p1 (.lst (cutV (ns.map V.int) none (some 12)))) p2 (.lst [V.int 21])) p3 (.lst (cutV (ns.map V.int) none (some 12)++[V.int 21]))=H0 at L0;generalize cutV (ns.map V.int) none (some 12)++[V.int 21]=xs at L0 hxs;refine Ke (K:=K) (a:=p3) (xs:=xs) (λi σ H1=>H1 p3=some (.lst xs)/\∃o1 o2 o3 o4 o5 o6 o7 o8 o9 o10:Option V,σ=[some (.ref a),o1,o2,o3,o4,o5,o6,o7,o8,o9,o10]) ⟨L0,_,_,_,_,_,_,_,_,_,_,rfl⟩ (λi σ H1 _ p=>SqL.of p.1) (λi v σ H1 hi p=>?_) (λσ H1 p=>?_)
  ·obtain⟨L1,o1,o2,o3,o4,o5,o6,o7,o8,o9,o10,rfl⟩:=p;obtain⟨cl,rfl⟩:=hxs v (List.mem_of_getElem? hi);refine⟨_,rfl,cl,rfl,λb H2 hb bx sm2=>?_⟩;refine⟨_,rfl,b,rfl,bx,λH3 q pw sd l1 l2 l3 l4 W bs s0 s1 s2 s3 bx3 sm3 nq hq nst hst wa gw sg=>⟨q,_,0,_,rfl,rfl,SqL.of hq,Zr (j:=0) rfl,?_⟩⟩;have np3:p3≠b:=λz=>by subst z;rw[L1]at hb;cases hb
   have L3:H3 p3=some (.lst xs):=sm3 _ _ (sm2 _ _ L1) np3;have ok:=(drawn gw sg).ok;have tb:=wa.tb;generalize tbOf W=T at ok tb;clear hb sm2 sm3 hq L1 L0 wa gw sg hst bx nst nq;have ho:=VS ok;have hl:=VT ok;have hl':(ents T).length<=1000:=Nat.le_trans hl (by decide);have tl:=GF T;refine⟨_,rfl,b,pw,l1,l2,l3,l4,T,rfl,tb,ok,λH4 r ys S4 hr0 er prr=>?_⟩;have nr:=bx3.ne hr0;have bx4:=bx3.same S4;have tb4:=tb.same (Zj.of S4);have L4:=S4 _ _ L3;clear S4 hr0 L3 tb bx3;refine⟨rfl,_,rfl,r,rfl,⟨_,SqL.of er⟩,?_⟩;refine ZF (J:=Itl K r) (ents T).length (Nat.le_trans hl (by decide)) (λi us τ H'=>H'=H4/\us=(((ents T).map line).take i).map V.str/\∃v,τ=[v]) ⟨rfl,rfl,none,rfl⟩ (λi us τ H' p=>by rw[p.2.1,List.length_map,List.length_take];omega) (λi us τ H' hi p=>?_) (λus τ H' p=>?_) (λi us τ H' x H5 hi p yl=>?_) (λus τ H' p c hc=>?_)
   ·obtain⟨rfl,_⟩:=p;exact⟨_,ys[i]'(by rw[pairs_len prr];exact hi),SqL.of er,List.getElem?_eq_getElem _⟩
   ·obtain⟨rfl,_⟩:=p;exact⟨_,SqL.of er,by rw[pairs_len prr];exact Nat.le_refl _⟩
   ·obtain⟨rfl,rfl,v,rfl⟩:=p;obtain⟨rfl,hy⟩:=yl;obtain⟨a',rfl,ha⟩:=pairs_get prr (hy _ (SqL.of er)) (List.getElem?_eq_getElem hi);refine⟨_,rfl,a',_,1,_,rfl,rfl,SqT.of ha,Zr (j:=1) rfl,rfl,?_,_,rfl⟩;rw[List.take_succ,List.getElem?_map,List.getElem?_eq_getElem hi,List.map_append];rfl
   obtain⟨rfl,rfl,v,rfl⟩:=p;rw[show((ents T).map line).take (ents T).length=(ents T).map line from List.take_of_length_le (by rw[List.length_map];exact Nat.le_refl _)];dsimp only[tNil];have bx5:=bx4.new (o:=.lst (((ents T).map line).map V.str)) hc;have S5:=sameNew (o:=.lst (((ents T).map line).map V.str)) (Same.refl H') hc;have e5:upd H' c (.lst (((ents T).map line).map V.str)) c=some (.lst (((ents T).map line).map V.str)):=Zc;generalize upd H' c (.lst (((ents T).map line).map V.str))=H5 at bx5 S5 e5 ⊢;have tb5:=tb4.same (Zj.of S5);have er5:=S5 _ _ er;have pr5:=Paired.mapP prr λ_ _ z=>PRow.same S5 z;have L5:=S5 _ _ L4;refine⟨_,c,_,rfl,rfl,SqL.of e5,UR ho hl',?_⟩;rw[show(Str.ofString "\n":Str)=NL from RN];clear S5 e5 bx4 tb4 L4 er prr;obtain⟨x1,_,g1,_,r1⟩:=tb5.pl.part (ok.flat (.inl rfl));obtain⟨x2,_,g2,_,r2⟩:=tb5.rd.part (ok.flat (.inr (.inl rfl)));obtain⟨x3,_,g3,_,r3⟩:=tb5.wy.part (ok.flat (.inr (.inr (.inl rfl))));obtain⟨x4,_,g4,_,r4⟩:=tb5.gr.part (ok.flat (.inr (.inr (.inr rfl))));have tp:=tb5.at_;refine⟨_,rfl,pw,_,0,_,rfl,rfl,SqL.of tp,Zr (j:=0) rfl,_,rfl,pw,_,1,_,rfl,rfl,SqL.of tp,Zr (j:=1) rfl,_,rfl,pw,_,2,_,rfl,rfl,SqL.of tp,Zr (j:=2) rfl,_,rfl,pw,_,3,_,rfl,rfl,SqL.of tp,Zr (j:=3) rfl,_,rfl,pw,_,4,_,rfl,rfl,SqL.of tp,Zr (j:=4) rfl,?_⟩;dsimp only[tNil,MH];refine Pz (Q:=λv H2=>PU 6 v _ H2 _) (T:="int") (.int T.n) (XN g1 r1) (XN g2 r2) (XN g3 r3) (XN g4 r4) (PF ok r1 r2 r3 r4 λH6 t S6 _ tel=>?_);have bx6:=bx5.same S6;have tb6:=tb5.same (Zj.of S6);have er6:=S6 _ _ er5;have pr6:=Paired.mapP pr5 λ_ _ z=>PRow.same S6 z;have L6:=S6 _ _ L5;clear S6 tp g1 g2 g3 g4 r1 r2 r3 r4 bx5 tb5 er5 pr5 L5;refine⟨_,rfl,t,T,rfl,tel,ok,λH7 S7=>⟨_,rfl,rfl,_,rfl,?_⟩⟩;refine Jc (λe=>absurd e (by simp[text])) (λ_=>?_);refine⟨_,rfl,ents T,T,rfl,ho,hl',tl,ok,λH8 x8 S8 tel8=>?_⟩;have S68:=S7.trans S8;refine⟨_,rfl,b,x8,pw,l1,l2,l3,l4,T,rfl,tel8,tb6.same (Zj.of S68),ok,λH9 S9=>⟨_,rfl,?_⟩⟩;refine Jc (λe=>absurd e (by decide)) (λ_=>?_);refine⟨_,rfl,ents T,T,rfl,ho,hl',tl,ok,λH10 x10 S10 tel10=>?_⟩;refine⟨x10,T,rfl,tel10,ok,λH11 S11=>⟨_,rfl,rfl,_,rfl,?_⟩⟩;refine Jc (λe=>absurd e (by simp[text])) (λ_=>?_);have S:=S68.trans (S9.trans (S10.trans S11));have bx11:=bx6.same S;have tb11:=tb6.same (Zj.of S);have er11:=S _ _ er6;have pr11:=Paired.mapP pr6 λ_ _ z=>PRow.same S z;have L11:=S _ _ L6;have tel11:=tel.same S;clear S S7 S8 S9 S10 S11 S68 bx6 tb6 er6 pr6 L6 tel tel8 tel10;refine⟨rfl,_,rfl,_,rfl,b,r,ys,ents T,rfl,bx11,nr,er11,pr11,hl',λe he=>(ho e he).j,λH12 ln L bx12 S12 nln eln hs hm=>?_⟩;have hoL:∀e∈L,EOk e:=λe he=>ho e (hm e he);have hlL:L.length<=1000:=by rw[cnt λe he=>(hoL e he).j,hs,hs,hs,hs,hs,<-cnt λe he=>(ho e he).j];exact hl'
   refine⟨_,ln,L.map line,rfl,rfl,SqL.of (by rw[List.map_map];exact eln),UR hoL hlL,?_⟩;dsimp only[tNil];refine⟨L,T,rfl,hoL,hlL,LS hs,ok,λH13 x13 S13 tel13=>?_⟩;have S1113:Zj b H11 H13:=S12.trans (Zj.of S13);have bx13:=bx12.same S13;have tb13:=tb11.same S1113;have L13:=S1113 _ _ L11 np3;have tel':=Tel.box bx11 ok S1113 tel11;refine⟨_,rfl,_,rfl,b,x13,pw,l1,l2,l3,l4,T,rfl,tel13,tb13,ok,λH14 S14=>⟨_,rfl,?_⟩⟩;refine Jc (λe=>absurd e (by decide)) (λ_=>?_);refine⟨_,rfl,x13,T,rfl,tel13.same S14,ok,λH15 S15=>⟨_,rfl,rfl,_,rfl,?_⟩⟩;refine Jc (λe=>absurd e (by simp[text])) (λ_=>?_);have S:=S14.trans S15;have bx15:=bx13.same S;have tb15:=tb13.same (Zj.of S);have L15:=S _ _ L13;have tel15:=tel'.same S;clear S S14 S15 bx13 tb13 L13 tel' tel13 S13 S12 S1113 bx11 tb11 L11 tel11 er11 pr11 bx12 eln;refine⟨_,rfl,_,rfl,b,pw,l1,l2,l3,l4,T,rfl,bx15,tb15,ok,λH16 w16 o ln2 m1 m2 m3 m4 T' L' bx16 S16 nw ew tb16 pm nln2 eln2 hs2 hm2=>?_⟩;refine⟨w16,_,rfl,SqL.of ew,rfl,_,_,rfl,_,_,rfl,rfl,?_⟩;have ok':=pm.ok ok;have ho':=VS ok';have hoL2:∀e∈L',EOk e:=λe he=>ho' e (hm2 e he);have hlL2:L'.length<=1000:=by rw[cnt λe he=>(hoL2 e he).j,hs2,hs2,hs2,hs2,hs2,<-cnt λe he=>(ho' e he).j];exact Nat.le_trans (VT ok') (by decide)
   refine⟨rfl,_,rfl,_,ln2,L'.map line,rfl,rfl,SqL.of (by rw[List.map_map];exact eln2),UR hoL2 hlL2,?_⟩;dsimp only[tNil];refine⟨L',T',rfl,hoL2,hlL2,LS hs2,ok',λH17 x17 S17 tel17=>?_⟩;have tb17:=tb16.same (Zj.of S17);refine⟨_,rfl,b,x17,o,m1,m2,m3,m4,T',rfl,tel17,tb17,ok',λH18 S18=>⟨_,rfl,?_⟩⟩;refine Jc (λe=>absurd e (by decide)) (λ_=>?_);have S1518:Zj b H15 H18:=S16.trans (Zj.of (S17.trans S18));refine⟨_,rfl,_,rfl,b,t,pw,l1,l2,l3,l4,T,rfl,Tel.box bx15 ok S1518 tel15,tb15.same S1518,ok,λH19 S19=>⟨_,rfl,?_⟩⟩;refine Jc (λe=>absurd e (by decide)) (λ_=>?_);exact⟨S19 _ _ (S1518 _ _ L15 np3),_,_,_,_,_,_,_,_,_,_,rfl⟩
  obtain⟨_,o1,o2,o3,o4,o5,o6,o7,o8,o9,o10,rfl⟩:=p;have ok7:OkTb T7:=EZ;refine⟨ents T7,T7,by rw[Rm];rfl,VS ok7,by decide,GF T7,ok7,λH2 x S2 tel=>?_⟩;obtain⟨fs,y1,y2,y3,y4,kk,tp,dd⟩:=id tel;obtain⟨dx,ht⟩:=tp.tab.tab.at_;refine⟨_,rfl,x,dx,fs,rfl,ht,tp.tab.tab.only _ (by decide +kernel),x,fs,T7.n,_,_,_,_,kk,rfl,tp.tab,λq m1 m2 m3 m4 z1 z2 z3 z4 s1 s2 s3 s4 w1 w2 w3 w4 h1 h2 h3 h4 hq=>?_⟩;cases w1;cases w2;cases w3;cases w4;dsimp only[tNil];have S3:=sameNew (o:=.tup [.int T7.n,.ref m1,.ref m2,.ref m3,.ref m4]) (Same.refl H2) hq;have e3:upd H2 q (.tup [.int T7.n,.ref m1,.ref m2,.ref m3,.ref m4]) q=some (.tup [.int T7.n,.ref m1,.ref m2,.ref m3,.ref m4]):=Zc;generalize upd H2 q (.tup [.int T7.n,.ref m1,.ref m2,.ref m3,.ref m4])=H3 at S3 e3 ⊢;have d3:Is H3 (.ref q) (tbD T7):=Qq (GB ok7) (S3 _ _ h1) (S3 _ _ h2) (S3 _ _ h3) (S3 _ _ h4) ((tp.rows _ (.inl rfl) _ _ rfl).same S3) ((tp.rows _ (.inr (.inl rfl)) _ _ rfl).same S3) ((tp.rows _ (.inr (.inr (.inl rfl))) _ _ rfl).same S3) ((tp.rows _ (.inr (.inr (.inr rfl))) _ _ rfl).same S3) e3;refine⟨zl,λc1 hc1=>?_⟩;have N1:=sameNew (o:=.tup []) (Same.refl H3) hc1;have f1:upd H3 c1 (.tup []) c1=some (.tup []):=Zc;generalize upd H3 c1 (.tup [])=G1 at N1 f1 ⊢;refine⟨zl,λc2 hc2=>?_⟩;have N2:=sameNew (o:=.tup []) (Same.refl G1) hc2;have f2:upd G1 c2 (.tup []) c2=some (.tup []):=Zc;generalize upd G1 c2 (.tup [])=G2 at N2 f2 ⊢;refine⟨zl,λc3 hc3=>?_⟩;have N3:=sameNew (o:=.tup []) (Same.refl G2) hc3;have f3:upd G2 c3 (.tup []) c3=some (.tup []):=Zc;generalize upd G2 c3 (.tup [])=G3 at N3 f3 ⊢;refine⟨zl,λc4 hc4=>?_⟩;have N4:=sameNew (o:=.tup []) (Same.refl G3) hc4;have f4:upd G3 c4 (.tup []) c4=some (.tup []):=Zc;generalize upd G3 c4 (.tup [])=G4 at N4 f4 ⊢;refine⟨zl,λc5 hc5=>?_⟩;dsimp only[tNil];have N5:=sameNew (o:=.tup [.int 7,.ref c1,.ref c2,.ref c3,.ref c4]) (Same.refl G4) hc5;have f5:upd G4 c5 (.tup [.int 7,.ref c1,.ref c2,.ref c3,.ref c4]) c5=some (.tup [.int 7,.ref c1,.ref c2,.ref c3,.ref c4]):=Zc;have NN:=N1.trans (N2.trans (N3.trans (N4.trans N5)));refine⟨tbD T7,tbD T7,d3.same NN,.tup f5 (.cons (.int 7) (.cons (.tup (N5 _ _ (N4 _ _ (N3 _ _ (N2 _ _ f1)))) .nil) (.cons (.tup (N5 _ _ (N4 _ _ (N3 _ _ f2))) .nil) (.cons (.tup (N5 _ _ (N4 _ _ f3)) .nil) (.cons (.tup (N5 _ _ f4) .nil) .nil))))),by decide +kernel,by decide +kernel,true,?_,?_⟩
  ·exact congrArg V.bl (by decide +kernel)
  refine iteT ?_;refine⟨_,rfl,x,T7,rfl,tel.same (S3.trans NN),ok7,λH5 S5=>⟨rfl,?_⟩⟩;rw[Rm,decide_eq_true rfl];exact k _
end
end TX
namespace L2
open PySem PySem.Spec PyProof.Rows
section
variable {K:PySem.W.Frag}{h:Heap}{mg:Str->Option Value}{x:Str}
theorem Fe{st:Stmt}{ps:List Str}{f:Addr}{oc:Value}{od an:Option Addr}{osl:Array (Option Value)}{kV doc pm cdv ct:Value}(X:K.In h)(G:h.Ns mainGlobals mg)(a:PySem.W.nsIn K mainGlobals x=some (some (.ref f)))(l:K.lookup f=some ⟨oc,od,.func (PySem.W.fnOf x x (YD st) (ZX st) (Zg st) .none kV doc pm an cdv ct),osl⟩)(c:PySem.W.codeIn K cdv x=true)(k:PySem.W.keepIn K (.ref f)=true)(hb:∀(kV doc pm:Value)(an:Option Addr)(cdv ct:Value)(us:List Value),us.length=ps.length->bindArgs (PySem.W.fnOf x x (YD st) (ZX st) (Zg st) .none kV doc pm an cdv ct) ⟨us,[]⟩=pure (ps.zip us)):Df K mg x st ps:=⟨f,_,Va l c k,PySem.W.mg_of X G a,(Va l c k).binds hb⟩
theorem Er{C:Addr}{m qual:Str}{st:Stmt}{ps:List Str}{f:Addr}{oc:Value}{od an:Option Addr}{osl:Array (Option Value)}{kV doc pm cdv ct:Value}(a:PySem.W.findIn K (.ref C) m=some (some (.ref f)))(i:PySem.W.isFn K (.ref f)=true)(l:K.lookup f=some ⟨oc,od,.func (PySem.W.fnOf m qual (YD st) (ZX st) (Zg st) .none kV doc pm an cdv ct),osl⟩)(c:PySem.W.codeIn K cdv qual=true)(k:PySem.W.keepIn K (.ref f)=true)(hb:∀(kV doc pm:Value)(an:Option Addr)(cdv ct:Value)(us:List Value),us.length=ps.length->bindArgs (PySem.W.fnOf m qual (YD st) (ZX st) (Zg st) .none kV doc pm an cdv ct) ⟨us,[]⟩=pure (ps.zip us)):DfM K C m qual st ps:=⟨f,_,Va l c k,⟨a,i,k⟩,(Va l c k).binds hb⟩
theorem str_mk{z:Str}{t:Tok}(X:K.In h)(G:h.Ns mainGlobals mg)(a:PySem.W.nsIn K mainGlobals x=some (some (.str z t))):∃t,mg x=some (.str z t):=⟨t,PySem.W.mg_of X G a⟩
theorem int_mk{z:Int}{t:Tok}(X:K.In h)(G:h.Ns mainGlobals mg)(a:PySem.W.nsIn K mainGlobals x=some (some (.int z t))):∃t,mg x=some (.int z t):=⟨t,PySem.W.mg_of X G a⟩
theorem RT{w:World}{a:Addr}{es:Array DictEntry}{n:Nat}{n1 n2 n3 n4:Int}{t1 t2 t3 t4:Tok}(X:K.In h)(G:h.Ns mainGlobals mg)(ha:PySem.W.nsIn K mainGlobals x=some (some (.ref a)))(hl:K.lookup a=some ⟨.type "dict",none,.dict es n,#[]⟩)(hk:PySem.W.KeysLit w.params es.toList)(h1:PySem.W.nsIn K a "places"=some (some (.int n1 t1)))(h2:PySem.W.nsIn K a "rides"=some (some (.int n2 t2)))(h3:PySem.W.nsIn K a "ways"=some (some (.int n3 t3)))(h4:PySem.W.nsIn K a "groups"=some (some (.int n4 t4))):∃a,mg x=some (.ref a)/\Xg K w a "places" (.int n1)/\Xg K w a "rides" (.int n2)/\Xg K w a "ways" (.int n3)/\Xg K w a "groups" (.int n4):=⟨a,PySem.W.mg_of X G ha,⟨es,n,_,hl,hk,h1,⟨t1,rfl⟩⟩,⟨es,n,_,hl,hk,h2,⟨t2,rfl⟩⟩,⟨es,n,_,hl,hk,h3,⟨t3,rfl⟩⟩,⟨es,n,_,hl,hk,h4,⟨t4,rfl⟩⟩⟩
end
theorem UC{K:PySem.W.Frag}{a:Addr}{o:Obj}{its:Array Value}{n:Nat}{zs:List Str}(hl:K.lookup a=some o)(hc:o.cls=.type "tuple")(hd:o.data=.seq its n)(hs:its.size<=sizeLine)(hv:Vals (zs.map V.str) its.toList):∀H,SqT K H a (zs.map V.str):=λ_=>.inr ⟨o,its,n,hl,hc,hd,hs,hv⟩
theorem vstr{z:Str}{t:Tok}{zs:List Str}{us:List Value}(h:Vals (zs.map V.str) us):Vals ((z::zs).map V.str) (.str z t::us):=.cons ⟨t,rfl⟩ h
end L2
namespace TX
open PySem L2 PySem.Spec PyProof.Rows TB WD
theorem EN:FnScope ["self","part","at","why"] ["self","part","at","why"] (Zg T.m_BadTable___init__):=⟨rfl,rfl,rfl,by decide +kernel,rfl,by decide +kernel,by decide +kernel⟩
structure BadF(K:PySem.W.Frag)(mg:Str->Option Value)(Cb:Addr):Prop where
 at_:∃fI Qa fd,XK1 K mg "BadTable" Cb fI Qa/\Fun K "__init__" "BadTable.__init__" T.m_BadTable___init__ fI fd/\Binds K fd ["self","part","at","why"] []
 na:Yl K Cb "part"/\Yl K Cb "at"/\Yl K Cb "why"
section
variable {P:Program}{w:World}{K:PySem.W.Frag}{mg:Str->Option Value}{base:Heap}{C Cb:Addr}
theorem BadF.err(b:BadF K mg Cb):Err P w K mg base "BadTable" ["part","at","why"] Cb:=by obtain⟨fI,Qa,fd,X,F,bd⟩:=b.at_;exact⟨⟨fI,Qa,fd,["self","part","at","why"],X.xc,E3 F EN rfl ⟨by decide,by decide⟩ ⟨by decide,by decide⟩ ⟨by decide,by decide⟩ X.xc b.na.1 b.na.2.1 b.na.2.2 (by decide) (by decide) (by decide),by decide,bd⟩,X.xr,X.mg,X.kp⟩
structure Meths(K:PySem.W.Frag)(C:Addr):Prop where
 take_places:DfM K C "take_places" "Table.take_places" T.m_Table_take_places ["self","places"]
 take_rides:DfM K C "take_rides" "Table.take_rides" T.m_Table_take_rides ["self","rides"]
 take_ways:DfM K C "take_ways" "Table.take_ways" T.m_Table_take_ways ["self","ways"]
 take_groups:DfM K C "take_groups" "Table.take_groups" T.m_Table_take_groups ["self","groups"]
 told:DfM K C "told" "Table.told" T.m_Table_told ["self"]
 is_place:DfM K C "is_place" "Table.is_place" T.m_Table_is_place ["self","thing"]
 is_home:DfM K C "is_home" "Table.is_home" T.m_Table_is_home ["self","thing"]
structure TabF(K:PySem.W.Frag)(mg:Str->Option Value)(C:Addr):Prop where
 cl:TCl K C
 ty:TyC K C
 init:∃f fd,Mk K C f/\Fun K "__init__" "Table.__init__" T.m_Table___init__ f fd/\Binds K fd ["self","turns","places","rides","ways","groups"] []
 mg:mg "Table"=some (.ref C)
 ms:Meths K C
structure Defs(K:PySem.W.Frag)(mg:Str->Option Value):Prop where
 is_whole:Df K mg "is_whole" T.f_is_whole ["thing"]
 is_within:Df K mg "is_within" T.f_is_within ["thing","low","high"]
 is_text_of:Df K mg "is_text_of" T.f_is_text_of ["thing","longest","signs"]
 is_name:Df K mg "is_name" T.f_is_name ["thing"]
 is_group_name:Df K mg "is_group_name" T.f_is_group_name ["thing"]
 is_known:Df K mg "is_known" T.f_is_known ["thing","names"]
 rows_of:Df K mg "rows_of" T.f_rows_of ["part","rows"]
 wrong_beginning:Df K mg "wrong_beginning" T.f_wrong_beginning ["part","row","names_ahead"]
 wrong_ends:Df K mg "wrong_ends" T.f_wrong_ends ["table","start","goal"]
 wrong_place:Df K mg "wrong_place" T.f_wrong_place ["row"]
 wrong_ride:Df K mg "wrong_ride" T.f_wrong_ride ["table","row"]
 wrong_way:Df K mg "wrong_way" T.f_wrong_way ["table","row"]
 wrong_group:Df K mg "wrong_group" T.f_wrong_group ["table","row","people_ahead"]
 refuse_row:Df K mg "refuse_row" T.f_refuse_row ["part","at","why"]
 number_of:Df K mg "number_of" T.f_number_of ["thing"]
 read_word:Df K mg "read_word" T.f_read_word ["word","form"]
 read_row:Df K mg "read_row" T.f_read_row ["words"]
 read_rows:Df K mg "read_rows" T.f_read_rows ["lines"]
 made_table:Df K mg "made_table" T.f_made_table ["rows_by_part"]
 read_table:Df K mg "read_table" T.f_read_table ["text"]
 row_text:Df K mg "row_text" T.f_row_text ["first","things"]
 place_text:Df K mg "place_text" T.f_place_text ["row"]
 show_table:Df K mg "show_table" T.f_show_table ["table"]
 _law_box:Df K mg "_law_box" T.f__law_box ["_law_cell_here"]
 _law_take:Df K mg "_law_take" T.f__law_take ["_law_box_here","_law_many"]
 _law_names:Df K mg "_law_names" T.f__law_names ["_law_box_here","_law_many"]
 _law_places:Df K mg "_law_places" T.f__law_places ["_law_box_here"]
 _law_size:Df K mg "_law_size" T.f__law_size ["_law_box_here"]
 _law_ends:Df K mg "_law_ends" T.f__law_ends ["_law_box_here","_law_places_here"]
 _law_ride:Df K mg "_law_ride" T.f__law_ride ["_law_box_here","_law_name","_law_turns","_law_places_here"]
 _law_way:Df K mg "_law_way" T.f__law_way ["_law_box_here","_law_name","_law_places_here"]
 _law_group:Df K mg "_law_group" T.f__law_group ["_law_box_here","_law_name","_law_turns","_law_places_here"]
 _law_world:Df K mg "_law_world" T.f__law_world ["_law_box_here"]
 _law_rows:Df K mg "_law_rows" T.f__law_rows ["_law_world_here"]
 _law_woven:Df K mg "_law_woven" T.f__law_woven ["_law_box_here","_law_rows_here"]
 _law_turned:Df K mg "_law_turned" T.f__law_turned ["_law_box_here","_law_some"]
 _law_wild:Df K mg "_law_wild" T.f__law_wild ["_law_box_here","_law_world_here"]
 _law_due:Df K mg "_law_due" T.f__law_due ["_law_world_here"]
 _law_is:Df K mg "_law_is" T.f__law_is ["_law_table","_law_world_here"]
theorem Qp(W:K1.Txt K mg)(G:TB.Txt K mg)(Zs:Sizes K w mg)(Zm:Mosts K w mg)(he:mg "enumerate"=none)(D:Defs K mg)(t:TabF K mg C)(b:BadF K mg Cb):TMk P w K mg base C Cb:=by obtain⟨f,fd,M,F,bd⟩:=t.init;have B:=b.err (P:=P) (w:=w) (base:=base);have cW:=K1.Tf (P:=P) (w:=w) (base:=base) W D.is_whole;have cI:=K1.QY (P:=P) (w:=w) (base:=base) D.is_within cW;have cX:=K1.Ms (P:=P) (w:=w) (base:=base) W D.is_text_of;have cN:=K1.Qc (P:=P) (w:=w) (base:=base) W D.is_name cX;have cG:=K1.MS (P:=P) (w:=w) (base:=base) W D.is_group_name cX;have cK:=Tz (P:=P) (w:=w) (base:=base) G D.is_known;have cP:=Qd (P:=P) (w:=w) (base:=base) t.cl t.ms.is_place cK;have cH:=Q6 (P:=P) (w:=w) (base:=base) t.cl t.ms.is_home cP;have cE:=Ky (P:=P) (w:=w) (base:=base) t.cl D.wrong_ends cP cH;have cB:=Q0 (P:=P) (w:=w) (base:=base) G Zs D.wrong_beginning cN cG;have cR:=Q2 (P:=P) (w:=w) (base:=base) B D.refuse_row;have cRo:=Kt (P:=P) (w:=w) (base:=base) G Zm B D.rows_of;have c1:=Tj (P:=P) (w:=w) (base:=base) t.cl he t.ms.take_places cB (QX G D.wrong_place cI) cR;have c2:=Ti (P:=P) (w:=w) (base:=base) t.cl he t.ms.take_rides cB (Ku G t.cl D.wrong_ride cI cE) cR;have c3:=Tg (P:=P) (w:=w) (base:=base) t.cl he t.ms.take_ways cB (LH G t.cl D.wrong_way cI cE) cR;have c4:=To (P:=P) (w:=w) (base:=base) t.cl he t.ms.take_groups cB (QZ G t.cl D.wrong_group cI cP) cR;refine⟨⟨f,fd,M,F.okX K4 (λvs H Q E h=>?_) λcdv A outer s H vs Q E hr h=>Q9 G t.cl B (cI.mono (by decide)) (cRo.mono (by decide)) (c1.mono (by decide)) (c2.mono (by decide)) (c3.mono (by decide)) (c4.mono (by decide)) hr h,bd⟩,t.mg⟩;obtain⟨t',dx,vT,T',v1,v2,v3,v4,r1,r2,r3,r4,rfl,_⟩:=h;rfl
theorem Ly{f aF aP:Addr}{fd:FuncData}(W:K1.Txt K mg)(WN:K1.TxtN K mg)(G:TB.Txt K mg)(Zs:Sizes K w mg)(Zm:Mosts K w mg)(B:∀x∈Blts,mg x=none)(FF:FormsP K w mg aF)(PP:PartsP K w mg aP)(D:Defs K mg)(t:TabF K mg C)(b:BadF K mg Cb)(F:Fun K "law" "law" T.f_law f fd):FnOk P w K mg base CX0 11 f fd ["_law_script"] (N9 K):=by have tm:=Qp (P:=P) (base:=base) W G Zs Zm (B _ (by decide +kernel)) D t b;have Z:=t.cl;have cT:=Km (P:=P) (w:=w) (base:=base) (mg:=mg) D._law_take;have cS:=Kn (P:=P) (w:=w) (base:=base) (mg:=mg) cT D._law_size;have cN:=Tu (P:=P) (w:=w) (base:=base) (mg:=mg) B cT D._law_names;have cE:=Tx (P:=P) (w:=w) (base:=base) (mg:=mg) B cT D._law_ends;have cWo:=Te (P:=P) (w:=w) (base:=base) (mg:=mg) B cT cN (Q3 B cT cN cS D._law_places) (Tw B cT cS cE D._law_ride) (Kx B cT cS cE D._law_way) (Q5 B cT D._law_group) D._law_world;have cX:=K1.Ms (P:=P) (w:=w) (base:=base) (mg:=mg) W D.is_text_of;have cWd:=Kj (P:=P) (w:=w) (base:=base) (mg:=mg) (K1.Q4 WN D.number_of cX) (K1.Qc W D.is_name cX) (K1.MS W D.is_group_name cX) D.read_word;have cRt:=Kp (P:=P) (w:=w) (base:=base) (mg:=mg) B (Tq B PP (Kr B FF cWd D.read_row) D.read_rows) (Kw tm D.made_table) D.read_table;have cTx:=Tp (P:=P) (w:=w) (base:=base) (mg:=mg) B D.row_text;have cSh:=Ko (P:=P) (w:=w) (base:=base) (mg:=mg) Z B cTx (Tr B cTx D.place_text) D.show_table;have cLr:=Tv (P:=P) (w:=w) (base:=base) (mg:=mg) B D._law_rows;have cV:=Td (P:=P) (w:=w) (base:=base) (mg:=mg) B cT D._law_woven;have cWi:=Kk (P:=P) (w:=w) (base:=base) (mg:=mg) B (Q1 B cT D._law_turned) cLr cV D._law_wild;have cTo:=Kl (P:=P) (w:=w) (base:=base) (mg:=mg) Z t.ms.told;have cIs:=LI (P:=P) (w:=w) (base:=base) (mg:=mg) B Z t.ty t.mg cTo (LJ B D._law_due) D._law_is;exact DR B Z tm (LK B D._law_box) cWo cLr cSh cRt cIs cV cWi cTo F
theorem law_fd{l:PySem.W.OpenLaw}{h:Heap}{fa f:Addr}(X:K.In h)(G:h.Ns mainGlobals mg)(hfa:mg "law"=some (.ref fa))(Wt:K1.Txt K mg)(Gt:TB.Txt K mg)(Zs:Sizes K w mg)(Zm:Mosts K w mg)(B:∀x∈Blts,mg x=none)(D:Defs K mg)(ht:∃C,TabF K mg C)(hb:∃Cb,BadF K mg Cb)(WN:K1.TxtN K mg)(hF:∃aF,FormsP K w mg aF)(hP:∃aP,PartsP K w mg aP){oc:Value}{od an:Option Addr}{osl:Array (Option Value)}{kV doc pm cdv ct:Value}(a:PySem.W.nsIn K mainGlobals "law"=some (some (.ref f)))(lk:K.lookup f=some ⟨oc,od,.func (PySem.W.fnOf "law" "law" (YD T.f_law) (ZX T.f_law) (Zg T.f_law) .none kV doc pm an cdv ct),osl⟩)(c:PySem.W.codeIn K cdv "law"=true)(k:PySem.W.keepIn K (.ref f)=true):∃fd:FuncData,(∀(s:Shared)(v:Value),BindsTo s fd ⟨[v],[]⟩ [("_law_script",v)])/\∀base:Heap,K.In base->base.Ns mainGlobals mg->FnOk l.prog w K mg base CX0 11 fa fd ["_law_script"] (N9 K):=by have e:=hfa.symm.trans (PySem.W.mg_of X G a);cases e;obtain⟨C,t⟩:=ht;obtain⟨Cb,b⟩:=hb;obtain⟨aF,FF⟩:=hF;obtain⟨aP,PP⟩:=hP;have F:=Va (st:=T.f_law) lk c k;exact⟨PySem.W.fnOf "law" "law" (YD T.f_law) (ZX T.f_law) (Zg T.f_law) .none kV doc pm an cdv ct,λs v=>.of_eq rfl,λbase _ _=>Ly Wt WN Gt Zs Zm B FF PP D t b F⟩
end
theorem bad_mk{K:PySem.W.Frag}{h:Heap}{mg:Str->Option Value}{C fI Qa N:Addr}{nm q:Str}{bs:List Value}{sn:List Str}{sub:List Value}{ab:Bool}{col:Option Bool}{dd:Option Addr}{k0 k1 k2 k3 k5:Option Value}{c1 c2 c3 oc:Value}{d1 d2 d3 od an:Option Addr}{es1 es3:Array DictEntry}{ep1 ep3:Nat}{sl1 sl2 sl3 osl:Array (Option Value)}{cdQ:ClassData}{NQ:Addr}{kV doc pm cdv ct:Value}(KX:K.In h)(G:h.Ns mainGlobals mg)(a:PySem.W.nsIn K mainGlobals "BadTable"=some (some (.ref C)))(l:K.lookup C=some (excClassObj nm q C N bs (.ref Qa::bmV) true sn sub ab col dd k0 k1 k2 k3 k5 "ValueError.__new__"))(n1:K.lookup N=some ⟨c1,d1,.dict es1 ep1,sl1⟩)(n1e:(es1.toList.all λe=>match e.key with|.str _ _=>true|_=>false)=true)(n2:PySem.W.nsIn K N "__init__"=some (some (.ref fI)))(lq:K.lookup Qa=some ⟨c2,d2,.cls cdQ,sl2⟩)(eq:cdQ.ns=NQ)(nq:K.lookup NQ=some ⟨c3,d3,.dict es3 ep3,sl3⟩)(nqe:(es3.toList.all λe=>match e.key with|.str _ _=>true|_=>false)=true)(iq:PySem.W.nsIn K NQ "__init__"=some none)(lf:K.lookup fI=some ⟨oc,od,.func (PySem.W.fnOf "__init__" "BadTable.__init__" (YD T.m_BadTable___init__) (ZX T.m_BadTable___init__) (Zg T.m_BadTable___init__) .none kV doc pm an cdv ct),osl⟩)(cf:oc=.type "function")(cc:PySem.W.codeIn K cdv "BadTable.__init__"=true)(ck:PySem.W.keepIn K (.ref fI)=true)(sa:PySem.W.findIn K (.ref C) "__setattr__"=some (some (.builtin "object.__setattr__")))(ob:PySem.W.mroIn K C (.type "object")=some true)(ga:PySem.W.findIn K (.ref C) "__getattribute__"=some (some (.builtin "BaseException.__getattribute__")))(gg:PySem.W.findIn K (.ref C) "__getattr__"=some none)(hd:PySem.W.hasDictIn K C=true)(be:PySem.W.mroIn K C (.type "BaseException")=some true)(kp:PySem.W.keepIn K (.ref C)=true)(y1:PySem.W.findIn K (.ref C) "part"=some none)(y2:PySem.W.findIn K (.ref C) "at"=some none)(y3:PySem.W.findIn K (.ref C) "why"=some none):∃C,BadF K mg C:=by
 have n1':PySem.W.nsOkIn K N=true:=by unfold PySem.W.nsOkIn;rw[n1];dsimp only;rw[<-Array.all_toList];exact n1e
 have nq':PySem.W.nsOkIn K NQ=true:=by unfold PySem.W.nsOkIn;rw[nq];dsimp only;rw[<-Array.all_toList];exact nqe
 have tl:PySem.W.tailIn K bmV (.ref Qa::bmV)=true:=by subst eq;unfold PySem.W.tailIn;rw[Bool.or_eq_true];refine .inr ?_;dsimp only;rw[lq];dsimp only;rw[nq',iq];unfold PySem.W.tailIn;rw[show(bmV==bmV)=true from by decide];rfl
 have F:=Va (st:=T.m_BadTable___init__) lf cc ck;have X:XK1 K mg "BadTable" C fI Qa:=⟨⟨⟨nm,q,N,bs,sn,sub,ab,col,dd,k0,k1,k2,k3,k5,l,n1',n2⟩,tl,⟨_,lf,cf⟩,sa,ob⟩,⟨ga,gg,hd,be⟩,⟨nm,q,N,bs,_,true,sn,sub,ab,col,dd,k0,k1,k2,k3,k5,_,l,by rw[List.contains_cons];exact Bool.or_eq_true_iff.mpr (.inr (by decide))⟩,PySem.W.mg_of KX G a,kp⟩;exact⟨C,⟨fI,Qa,_,X,F,F.binds λ_ _ _ _ _ _ us hl=>by obtain⟨_,_,_,_,rfl⟩:=len4 hl;rfl⟩,y1,y2,y3⟩
theorem forms_mk{K:PySem.W.Frag}{h:Heap}{mg:Str->Option Value}{w:World}{a a0 a1 a2 a3 a4 a5:Addr}{es:Array DictEntry}{n:Nat}(X:K.In h)(G:h.Ns mainGlobals mg)(ha:PySem.W.nsIn K mainGlobals "FORMS"=some (some (.ref a)))(hl:K.lookup a=some ⟨.type "dict",none,.dict es n,#[]⟩)(hk:PySem.W.KeysLit w.params es.toList)(hs:(a==sysModules)=false)(n0:PySem.W.nsIn K a "turns"=some (some (.ref a0)))(s0:∀H,SqT K H a0 ((["number"]:List Str).map V.str))(n1:PySem.W.nsIn K a "place"=some (some (.ref a1)))(s1:∀H,SqT K H a1 ((["name","number"]:List Str).map V.str))(n2:PySem.W.nsIn K a "home"=some (some (.ref a2)))(s2:∀H,SqT K H a2 ((["name"]:List Str).map V.str))(n3:PySem.W.nsIn K a "ride"=some (some (.ref a3)))(s3:∀H,SqT K H a3 ((["name","name","number","name","number","number"]:List Str).map V.str))(n4:PySem.W.nsIn K a "way"=some (some (.ref a4)))(s4:∀H,SqT K H a4 ((["name","name","name","number","number"]:List Str).map V.str))(n5:PySem.W.nsIn K a "group"=some (some (.ref a5)))(s5:∀H,SqT K H a5 ((["group name","name","number","number"]:List Str).map V.str)):∃aF,FormsP K w mg aF:=by
 refine⟨a,PySem.W.mg_of X G ha,⟨es,n,hl,hk,hs⟩,λz f hf=>?_⟩;unfold formOf at hf;by_cases e0:z="turns"
 ·rw[if_pos e0]at hf;cases hf;subst e0;exact⟨a0,n0,s0⟩
 rw[if_neg e0]at hf;by_cases e1:z="place"
 ·rw[if_pos e1]at hf;cases hf;subst e1;exact⟨a1,n1,s1⟩
 rw[if_neg e1]at hf;by_cases e2:z="home"
 ·rw[if_pos e2]at hf;cases hf;subst e2;exact⟨a2,n2,s2⟩
 rw[if_neg e2]at hf;by_cases e3:z="ride"
 ·rw[if_pos e3]at hf;cases hf;subst e3;exact⟨a3,n3,s3⟩
 rw[if_neg e3]at hf;by_cases e4:z="way"
 ·rw[if_pos e4]at hf;cases hf;subst e4;exact⟨a4,n4,s4⟩
 rw[if_neg e4]at hf;by_cases e5:z="group"
 ·rw[if_pos e5]at hf;cases hf;subst e5;exact⟨a5,n5,s5⟩
 rw[if_neg e5]at hf;cases hf
theorem parts_mk{K:PySem.W.Frag}{h:Heap}{mg:Str->Option Value}{w:World}{a:Addr}{t0 t1 t2 t3 t4 t5:Tok}{es:Array DictEntry}{n:Nat}(X:K.In h)(G:h.Ns mainGlobals mg)(ha:PySem.W.nsIn K mainGlobals "PARTS"=some (some (.ref a)))(hl:K.lookup a=some ⟨.type "dict",none,.dict es n,#[]⟩)(hk:PySem.W.KeysLit w.params es.toList)(n0:PySem.W.nsIn K a "turns"=some (some (.str "turns" t0)))(n1:PySem.W.nsIn K a "place"=some (some (.str "places" t1)))(n2:PySem.W.nsIn K a "home"=some (some (.str "places" t2)))(n3:PySem.W.nsIn K a "ride"=some (some (.str "rides" t3)))(n4:PySem.W.nsIn K a "way"=some (some (.str "ways" t4)))(n5:PySem.W.nsIn K a "group"=some (some (.str "groups" t5))):∃aP,PartsP K w mg aP:=by
 refine⟨a,PySem.W.mg_of X G ha,λj hj z hz=>?_⟩;have e:j=0\/j=1\/j=2\/j=3\/j=4:=by omega
 unfold headsOf at hz;rcases e with rfl|rfl|rfl|rfl|rfl
 ·obtain rfl:=List.mem_singleton.mp hz;exact⟨es,n,_,hl,hk,n0,⟨t0,rfl⟩⟩
 ·have hz:z∈(["place","home"]:List Str):=hz;simp only[List.mem_cons,List.not_mem_nil,or_false]at hz;rcases hz with rfl|rfl
  ·exact⟨es,n,_,hl,hk,n1,⟨t1,rfl⟩⟩
  ·exact⟨es,n,_,hl,hk,n2,⟨t2,rfl⟩⟩
 ·obtain rfl:=List.mem_singleton.mp hz;exact⟨es,n,_,hl,hk,n3,⟨t3,rfl⟩⟩
 ·obtain rfl:=List.mem_singleton.mp hz;exact⟨es,n,_,hl,hk,n4,⟨t4,rfl⟩⟩
 ·obtain rfl:=List.mem_singleton.mp hz;exact⟨es,n,_,hl,hk,n5,⟨t5,rfl⟩⟩
theorem tab_mk{K:PySem.W.Frag}{h:Heap}{mg:Str->Option Value}{C f1:Addr}{oc1:Value}{od1 an1:Option Addr}{osl1:Array (Option Value)}{kV1 doc1 pm1 cdv1 ct1:Value}(X:K.In h)(G:h.Ns mainGlobals mg)(aC:PySem.W.nsIn K mainGlobals "Table"=some (some (.ref C)))(pg:PySem.W.plainGet K C Str.empty=true)(hd:PySem.W.hasDictIn K C=true)(po:PySem.W.plainOver K C=true)(sa:PySem.W.findIn K (.ref C) "__setattr__"=some (some (.builtin "object.__setattr__")))(mk:PySem.W.makesIn K C=true)(kc:PySem.W.keepIn K (.ref C)=true)(y1:PySem.W.findIn K (.ref C) "turns"=some none)(y2:PySem.W.findIn K (.ref C) "places"=some none)(y3:PySem.W.findIn K (.ref C) "room_by_place"=some none)(y4:PySem.W.findIn K (.ref C) "rides"=some none)(y5:PySem.W.findIn K (.ref C) "ride_by_name"=some none)(y6:PySem.W.findIn K (.ref C) "ways"=some none)(y7:PySem.W.findIn K (.ref C) "way_by_name"=some none)(y8:PySem.W.findIn K (.ref C) "groups"=some none)(y9:PySem.W.findIn K (.ref C) "group_by_name"=some none)(a1:PySem.W.findIn K (.ref C) "__init__"=some (some (.ref f1)))(i1:PySem.W.isFn K (.ref f1)=true)(l1:K.lookup f1=some ⟨oc1,od1,.func (PySem.W.fnOf "__init__" "Table.__init__" (YD T.m_Table___init__) (ZX T.m_Table___init__) (Zg T.m_Table___init__) .none kV1 doc1 pm1 an1 cdv1 ct1),osl1⟩)(c1:PySem.W.codeIn K cdv1 "Table.__init__"=true)(k1:PySem.W.keepIn K (.ref f1)=true)(ha:PySem.W.findIn K (.ref C) "__class__"=some (some (.builtin "object.__class__")))(hn:PySem.W.specialIn K (.builtin "object.__class__") "__get__"=some (some (.builtin "getset_descriptor.__get__")))(htk:PySem.W.takesIn K (.builtin "object.__class__")=some true)(hm:PySem.W.mroIn K C (.type "object")=some true)(ms:Meths K C):∃C,TabF K mg C:=by have F:=Va (st:=T.m_Table___init__) l1 c1 k1;refine⟨C,⟨⟨pg,hd,po,sa⟩,λf hf=>?_⟩,⟨λH a dx fs e=>.ins e ⟨pg,hd,po,sa⟩ ha hn htk hm,by unfold PySem.W.kitOne;rw[if_pos (by simp)]⟩,⟨f1,_,⟨mk,a1,i1,kc⟩,F,F.binds λ_ _ _ _ _ _ us hl=>by obtain⟨_,_,_,_,_,_,rfl⟩:=len6 hl;rfl⟩,PySem.W.mg_of X G aC,ms⟩;unfold fields at hf;simp only[List.mem_cons,List.not_mem_nil,or_false]at hf;rcases hf with rfl|rfl|rfl|rfl|rfl|rfl|rfl|rfl|rfl<;>assumption
theorem walk{l:PySem.W.OpenLaw}{q:Program}{loose:List Str}{XP:(Str->Option Value)->Heap->Prop}{YP:World->Heap->Prop}{d:DefRec}{K:Params->PySem.W.Frag}(hn:l.most=some 63)(hdf:d.params.defaults=[])(hY:∀(w:World)(h:Heap),YP w h->(K w.params).In h)(F:∀(w:World)(mg:Str->Option Value)(fa:Addr)(h:Heap),(K w.params).In h->h.Ns mainGlobals mg->mg d.name=some (.ref fa) ->∃fd:FuncData,(∀(s:Shared)(u:Value),BindsTo s fd ⟨[u],[]⟩ [("_law_script",u)])/\∀base:Heap,(K w.params).In base->base.Ns mainGlobals mg->FnOk l.prog w (K w.params) mg base CX0 11 fa fd ["_law_script"] (N9 (K w.params))):PySem.W.WalkO q loose XP YP l.row.toRowW d [] (λf vs=>PySem.call f vs):=L2.KR (n:=63) (k:=11) (x:="_law_script") (CX:=λ_=>CX0) (sp:=λw=>N9 (K w.params)) hn (by decide) hdf ⟨rfl,by decide,by decide,rfl⟩ hY F (λ_ _ a ns hl _ hS=>⟨a,ns,rfl,hS,hl,λ_=>rfl⟩) λ_ _ _ _ _ z=>z
end TX
open PySem PySem.W PyProof.Rows
set_option hygiene false in
local macro_rules
|`(tactic| o_head $H)=>`(tactic| (
   refine holds_open (q:=RG.QV) (loose:=RG.LO) (Xt:=RG.XT) (XP:=XL RG.QV [])
    (Yf:=Hook.obs $H) (Ya:=Hook.val $H) (YP:=Hook.says $H) (N:=7030) ?hl (Hook.of $H) (Hook.keeps $H) (λs e=>xl_of s (Bool.and_eq_true_iff.mp e).1)
    XL.keeps (by rfl) (by rfl) (by rfl) (λs e=>recFacts_of (Bool.and_eq_true_iff.mp e).2) (by rfl) (by first|assumption|decide +kernel) (by decide +kernel)
    ⟨rfl,rfl,rfl,rfl,rfl,by decide +kernel⟩ ?hw ?hc
   case' hl=>exact RG.E2 (by kernel_rfl) (λs=>by kernel_rfl) RG.kfE (λw=>rfl)))
set_option maxRecDepth 100000 in
set_option maxHeartbeats 0 in
theorem PySem.Challenge.cw_homequay_k07_texts_there_and_back_holds : PySem.Challenge.rw_homequay_k07_texts_there_and_back.Holds := by
 w_on;o_law;o_head (kHook RG.hk.heap_39 RG.AS RG.eK);(case hw=>w_witness2);k_fill;refine TX.walk (l:=PySem.Challenge.rw_homequay_k07_texts_there_and_back) rfl rfl (λw h Y=>PySem.W.kIn_of Y) ?F;case F=>
  intro w mg fa h KX G hmg;have D:TX.Defs (L2.KOf KX) mg:=by dsimp only[L2.KOf];constructor<;>(refine' L2.Fe KX G ?a ?l ?c ?k ?b;(case a=>k_is);(case l=>k_is);(case c=>k_is);(case k=>k_is);(case b=>exact λ_ _ _ _ _ _ us hl=>by first|(obtain⟨_,rfl⟩:=L2.len1 hl;rfl)|(obtain⟨_,_,rfl⟩:=L2.len2 hl;rfl)|(obtain⟨_,_,_,rfl⟩:=L2.len3 hl;rfl)|(obtain⟨_,_,_,_,rfl⟩:=L2.len4 hl;rfl)|(obtain⟨_,_,_,_,_,rfl⟩:=L2.len5 hl;rfl)))
  have B:∀x∈WD.Blts,mg x=none:=by intro x hx;unfold WD.Blts at hx;simp only[List.mem_cons,List.not_mem_nil,or_false]at hx;rcases hx with rfl|rfl|rfl|rfl|rfl|rfl|rfl|rfl|rfl|rfl|rfl|rfl|rfl<;>(refine' PySem.W.mg_none_of KX G ?a;(case a=>k_is))
  have W:K1.Txt (L2.KOf KX) mg:=by constructor<;>((first|refine' PySem.W.mg_none_of KX G ?a|refine' L2.str_mk KX G ?a|refine' L2.int_mk KX G ?a);(case a=>k_is))
  have WN:K1.TxtN (L2.KOf KX) mg:=by constructor<;>((first|refine' PySem.W.mg_none_of KX G ?a|refine' L2.str_mk KX G ?a|refine' L2.int_mk KX G ?a);(case a=>k_is))
  have Gt:TB.Txt (L2.KOf KX) mg:=by constructor<;>((first|refine' PySem.W.mg_none_of KX G ?a|refine' L2.str_mk KX G ?a|refine' L2.int_mk KX G ?a);(case a=>k_is))
  have hF:∃aF,TX.FormsP (L2.KOf KX) w mg aF:=by dsimp only[L2.KOf];refine' TX.forms_mk KX G ?a ?l ?k ?s ?n0 (L2.UC ?l0 ?c0 ?d0 ?z0 ?v0) ?n1 (L2.UC ?l1 ?c1 ?d1 ?z1 ?v1) ?n2 (L2.UC ?l2 ?c2 ?d2 ?z2 ?v2) ?n3 (L2.UC ?l3 ?c3 ?d3 ?z3 ?v3) ?n4 (L2.UC ?l4 ?c4 ?d4 ?z4 ?v4) ?n5 (L2.UC ?l5 ?c5 ?d5 ?z5 ?v5);(case a=>k_is);(case l=>k_is);(case k=>k_keys);(case s=>rfl);(case n0=>k_is);(case l0=>k_is);(case c0=>rfl);(case d0=>rfl);(case z0=>decide);(case v0=>exact L2.vstr (.nil));(case n1=>k_is);(case l1=>k_is);(case c1=>rfl);(case d1=>rfl);(case z1=>decide);(case v1=>exact L2.vstr (L2.vstr (.nil)));(case n2=>k_is);(case l2=>k_is);(case c2=>rfl);(case d2=>rfl);(case z2=>decide);(case v2=>exact L2.vstr (.nil));(case n3=>k_is);(case l3=>k_is);(case c3=>rfl);(case d3=>rfl);(case z3=>decide);(case v3=>exact L2.vstr (L2.vstr (L2.vstr (L2.vstr (L2.vstr (L2.vstr (.nil)))))));(case n4=>k_is);(case l4=>k_is);(case c4=>rfl);(case d4=>rfl);(case z4=>decide);(case v4=>exact L2.vstr (L2.vstr (L2.vstr (L2.vstr (L2.vstr (.nil))))));(case n5=>k_is);(case l5=>k_is);(case c5=>rfl);(case d5=>rfl);(case z5=>decide);(case v5=>exact L2.vstr (L2.vstr (L2.vstr (L2.vstr (.nil)))))
  have hP:∃aP,TX.PartsP (L2.KOf KX) w mg aP:=by dsimp only[L2.KOf];refine' TX.parts_mk KX G ?a ?l ?k ?n0 ?n1 ?n2 ?n3 ?n4 ?n5;(case a=>k_is);(case l=>k_is);(case k=>k_keys);(case n0=>k_is);(case n1=>k_is);(case n2=>k_is);(case n3=>k_is);(case n4=>k_is);(case n5=>k_is)
  have Zs:TB.Sizes (L2.KOf KX) w mg:=by refine⟨?_⟩;dsimp only[L2.KOf];refine' L2.RT KX G ?a ?l ?k ?h1 ?h2 ?h3 ?h4;(case a=>k_is);(case l=>k_is);(case k=>k_keys);(case h1=>k_is);(case h2=>k_is);(case h3=>k_is);(case h4=>k_is)
  have Zm:TB.Mosts (L2.KOf KX) w mg:=by refine⟨?_⟩;dsimp only[L2.KOf];refine' L2.RT KX G ?a ?l ?k ?h1 ?h2 ?h3 ?h4;(case a=>k_is);(case l=>k_is);(case k=>k_keys);(case h1=>k_is);(case h2=>k_is);(case h3=>k_is);(case h4=>k_is)
  have hb:∃C,TX.BadF (L2.KOf KX) mg C:=by dsimp only[L2.KOf];refine' TX.bad_mk KX G ?a ?l ?n1 ?n1e ?n2 ?lq ?eq ?nq ?nqe ?iq ?lf ?cf ?cc ?ck ?sa ?ob ?ga ?gg ?hd ?be ?kp ?y1 ?y2 ?y3;(case a=>k_is);(case l=>k_is);(case n1=>k_is);(case n1e=>rfl);(case n2=>k_is);(case lq=>k_is);(case eq=>rfl);(case nq=>k_is);(case nqe=>rfl);(case iq=>k_is);(case lf=>k_is);(case cf=>rfl);(case cc=>k_is);(case ck=>k_is);(case sa=>k_is);(case ob=>k_is);(case ga=>k_is);(case gg=>k_is);(case hd=>k_is);(case be=>k_is);(case kp=>k_is);(case y1=>k_is);(case y2=>k_is);(case y3=>k_is)
  have ht:∃C,TX.TabF (L2.KOf KX) mg C:=by dsimp only[L2.KOf];refine' TX.tab_mk KX G ?aC ?pg ?hd ?po ?sa ?mk ?kc ?y1 ?y2 ?y3 ?y4 ?y5 ?y6 ?y7 ?y8 ?y9 ?a1 ?i1 ?l1 ?c1 ?k1 ?ha ?hn ?htk ?hm ?ms;(case aC=>k_is);(case pg=>k_is);(case hd=>k_is);(case po=>k_is);(case sa=>k_is);(case mk=>k_is);(case kc=>k_is);(case y1=>k_is);(case y2=>k_is);(case y3=>k_is);(case y4=>k_is);(case y5=>k_is);(case y6=>k_is);(case y7=>k_is);(case y8=>k_is);(case y9=>k_is);(case a1=>k_is);(case i1=>k_is);(case l1=>k_is);(case c1=>k_is);(case k1=>k_is);(case ha=>k_is);(case hn=>k_is);(case htk=>k_is);(case hm=>k_is);(case ms=>constructor<;>(refine' L2.Er ?za ?zi ?zl ?zc ?zk ?zb;(case za=>k_is);(case zi=>k_is);(case zl=>k_is);(case zc=>k_is);(case zk=>k_is);(case zb=>exact λ_ _ _ _ _ _ us hl=>by first|(obtain⟨_,rfl⟩:=L2.len1 hl;rfl)|(obtain⟨_,_,rfl⟩:=L2.len2 hl;rfl)|(obtain⟨_,_,_,rfl⟩:=L2.len3 hl;rfl)|(obtain⟨_,_,_,_,rfl⟩:=L2.len4 hl;rfl)|(obtain⟨_,_,_,_,_,rfl⟩:=L2.len5 hl;rfl))))
  refine' TX.law_fd KX G hmg W Gt Zs Zm B D ht hb WN hF hP ?fa ?fl ?fc ?fk;(case fa=>k_is);(case fl=>k_is);(case fc=>k_is);(case fk=>k_is)
