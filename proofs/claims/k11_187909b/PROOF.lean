import PyProof.Rows.All
import Wide.All
import OpenK.AllK
import Wide.FinOn
import Lean
import PyProof.EqAt
import PyProof.EqKinds
import PyProof.TupleCall
import KE.KIntText
import KE.IntTextLaws
import PyProof.ExcClass3
import PyProof.InstStoreFacts
import PyProof.ExcBaseAll.ValueError
import PyProof.NsDelKeeps
import PyProof.ExcAttrAll.ValueError
import OpenK.KTop
import PyProof.ZipIter
import PyProof.ListNew
import PyProof.ListRange
import PyProof.ReprRoads
import PyProof.Rows.FactsT3
import PyProof.Rows.SumAny
import PyProof.CompUse
import PyProof.EqLayable
import PyProof.CallFns
import PyProof.StrBlock
import PyProof.ReprLen
import PyProof.DictWalks
import PySem.Challenge.RW_homequay_k11_each_step
namespace RG
open PySem PySem.W PyProof.Rows
noncomputable def runG(thr ok:Thread->Bool)(st:SharedT->Thread->Option (SharedT×Thread))(n:Nat):SharedT->Thread->Option SharedT:=@Nat.rec (λ_=>SharedT->Thread->Option SharedT) (λ_ _=>none) (λ_ ih s t=>@Bool.rec (λ_=>Option SharedT) (@Bool.rec (λ_=>Option SharedT) none (@Option.rec (SharedT×Thread) (λ_=>Option SharedT) none (λx=>@Prod.rec SharedT Thread (λ_=>Option SharedT) (λs' t'=>ih s' t') x) (st s t)) (ok t)) (some s) (thr t)) n
theorem Pm{tb:String->Option Builtin}{p:Program}{w:World}{m:Nat}{ann:Option Value}:∀{n:Nat}{s r:SharedT}{t:Thread},runG through (stepOk m ann) (stepT (denote tb) p w) n s t=some r->topRun tb p w m ann n s.abs t=some r.abs
|0,_,_,_,h=>by cases h
|n+1,s,r,t,h=>by
  have h':@Bool.rec (λ_=>Option SharedT) (@Bool.rec (λ_=>Option SharedT) none (@Option.rec (SharedT×Thread) (λ_=>Option SharedT) none (λx=>@Prod.rec SharedT Thread (λ_=>Option SharedT) (λs' t'=>runG through (stepOk m ann) (stepT (denote tb) p w) n s' t') x) (stepT (denote tb) p w s t)) (stepOk m ann t)) (some s) (through t)=some r:=h;unfold topRun;cases ht:through t with
 |true=>rw[ht]at h';cases h';rfl
 |false=>
   rw[ht]at h';cases ho:stepOk m ann t with
  |false=>rw[ho]at h';cases h'
  |true=>
    rw[ho]at h';cases hs:stepT (denote tb) p w s t with
   |none=>rw[hs]at h';cases h'
   |some x=>obtain⟨s',t'⟩:=x;rw[hs]at h';rw[stepT_spec hs];exact Pm (n:=n) h'
noncomputable def mkT(l:List Obj):BT:=(l.foldl (λ(x:BT×Nat)o=>(x.1.ins x.2 o,x.2+1)) (BT.nil,0)).1
noncomputable def T0(w:World)(os:OsState):SharedT:=⟨mkT (boot_heap w.params).objs.toList,11,(boot_heap w.params).life,⟨[]⟩,boot_drawn,boot_toks,os⟩
theorem L9(w:World)(os:OsState):(T0 w os).abs=⟨boot_heap w.params,⟨[]⟩,boot_drawn,boot_toks,os⟩:=by kernel_rfl
theorem sz(w:World):((boot_heap w.params).isNs mainGlobals&&((⟨[]⟩:Array GenState).size==0),(boot_heap w.params).objs.size,(boot_heap w.params).nsMap mainGlobals "__annotations__")=(true,11,some (.ref 6)):=by kernel_rfl
noncomputable def go(p:Program)(n:Nat)(w:World)(os:OsState):Option SharedT:=runG through (PySem.W.Fast.tw6613529449190102663 11 (some (.ref 6))) (PySem.W.Fast.tw10156331382660048174 (PySem.W.Fast.tw11892475500146522536 PySem.W.Fast.tw14364793385576792824) p w) n (T0 w os) (topStub p)
theorem go_eq(p:Program)(n:Nat)(w:World)(os:OsState):go p n w os=runG through (stepOk 11 (some (.ref 6))) (stepT (denote treeTable) p w) n (T0 w os) (topStub p):=by unfold go;rw[PySem.W.Fast.te6613529449190102663,PySem.W.Fast.te10156331382660048174,PySem.W.Fast.te11892475500146522536,PySem.W.Fast.te14364793385576792824]
noncomputable def chk(p:Program)(w:World)(s:Shared):Bool:=staticsOk (importedModules p.main.body) (boot_heap w.params) s.heap&&namesBound p s.heap&&gensDone s&&laidKept (boot_heap w.params) s.heap
noncomputable def lk(p:Program){α:Type}(F:Shared->α)(n:Nat)(w:World)(os:OsState):Option α:=@Option.rec SharedT (λ_=>Option α) none (λr=>some (F r.abs)) (go p n w os)
noncomputable abbrev lkS(p q:Program)(loose:List Str)(Xt:Shared->Bool)(n:Nat)(w:World)(os:OsState):=lk p (λs=>(chk p w s,PySem.W.Fast.tw4187177175401517315 q loose (PySem.W.Fast.tw5923862056798008813 p.main.body) Xt true s)) n w os
theorem left{p q:Program}{loose:List Str}{Xt:Shared->Bool}{α:Type}{Yf:Shared->α}{Ya:World->α}{N:Nat}(row:String)(e1:opening p=plainProg p.main.scope.names)(e2:Nat.ble 600 N=true)(e3:∀s:Shared,fenceModules? p s=some s)(hf:∀(w:World)(os:OsState),lkS p q loose Xt N (w.withFollow row false) os=some (true,openGood q loose))(ht:∀(w:World)(os:OsState),lkS p q loose Xt N (w.withFollow row true) os=some (true,openGood q loose))(kf:∀(w:World)(os:OsState),lk p Yf N (w.withFollow row false) os=some (Ya (w.withFollow row false)))(kt:∀(w:World)(os:OsState),lk p Yf N (w.withFollow row true) os=some (Ya (w.withFollow row true))):LeftO p q loose Xt Yf Ya N:=λw=>by
 have hw:∀os:OsState,lkS p q loose Xt N w os=some (true,openGood q loose):=byRow2 row (P:=λw=>∀os:OsState,lkS p q loose Xt N w os=some (true,openGood q loose)) hf ht w;have kw:∀os:OsState,lk p Yf N w os=some (Ya w):=byRow2 row (P:=λw=>∀os:OsState,lk p Yf N w os=some (Ya w)) kf kt w;obtain⟨⟨h,gs,d,k,os⟩,e,e'⟩:=Option.map_eq_some_iff.mp (boot_open e1 e2 e3 w);obtain⟨rfl,rfl,rfl,rfl⟩:h=boot_heap w.params/\gs=⟨[]⟩/\d=boot_drawn/\k=boot_toks:=by simpa using e'
 obtain⟨z1,z2,z3⟩:_/\_/\_:=by simpa only[Prod.mk.injEq]using sz w
 have hl:=hw os;have kl:=kw os;unfold lkS lk at hl;unfold lk at kl;rw[<-PySem.W.Fast.te4187177175401517315,<-PySem.W.Fast.te5923862056798008813]at hl;cases hg:go p N w os with
|none=>rw[hg]at hl;cases hl
|some r=>
  rw[hg]at hl kl;have hl':(chk p w r.abs,openSeen q loose (importedModules p.main.body) Xt true r.abs)=(true,openGood q loose):=Option.some.inj hl;have kl':Yf r.abs=Ya w:=Option.some.inj kl;obtain⟨l1,l2⟩:=Prod.mk.inj hl';rw[go_eq]at hg;have hr:=Pm hg;rw[L9]at hr;have t:topFrom treeTable p w N ⟨boot_heap w.params,⟨[]⟩,boot_drawn,boot_toks,os⟩=some r.abs:=by
   unfold topFrom;dsimp only;rw[z1,z2,z3,hr];show(match chk p w r.abs with|true=>some r.abs|false=>none)=_
   rw[l1]
  unfold openEnds;rw[e];show(topFrom treeTable p w N _).map _=_;rw[t];exact congrArg some (Prod.ext l2 kl')
end RG
set_option Elab.async false
set_option linter.all false
set_option maxRecDepth 100000
set_option maxHeartbeats 4000000
namespace RG
open PySem PySem.W PyProof.Rows
noncomputable def tp(i:Nat):Stmt:=PySem.Challenge.pw_homequay_k11_each_step.main.body.getD i (.Pass ⟨0,0,0,0⟩)
noncomputable def QV:Program:={PySem.Challenge.pw_homequay_k11_each_step with main:={PySem.Challenge.pw_homequay_k11_each_step.main with body:=[tp 0,tp 2,tp 3,tp 4,tp 5,tp 6,tp 7,tp 8,tp 10,tp 11,tp 12,tp 13,tp 14,tp 15,tp 16,tp 17,tp 18,tp 19,tp 21,tp 22,tp 23,tp 24,tp 25,tp 26,tp 27,tp 28,tp 29,tp 30,tp 32,tp 33,tp 34,tp 35,tp 36,tp 37,tp 38,tp 39,tp 40,tp 41,tp 42,tp 43,tp 44,tp 45,tp 46,tp 47,tp 49,tp 50,tp 51,tp 52,tp 53,tp 54,tp 55,tp 56,tp 57,tp 58,tp 59,tp 60,tp 61,tp 62,tp 63,tp 64,tp 65,tp 66]}}
noncomputable abbrev LO:List Str:=["MOST_ROWS","ROW_SIZES"]
noncomputable abbrev XT:Shared->Bool:=λs=>xlAt QV [] s&&recOk (RowW.records (OpenRow.toRowW (PySem.Challenge.rw_homequay_k11_each_step.row))) s
noncomputable def p1{α β:Type}(x:α×β):α:=@Prod.rec α β (λ_=>α) (λa _=>a) x
noncomputable def p2{α β:Type}(x:α×β):β:=@Prod.rec α β (λ_=>β) (λ_ b=>b) x
theorem u5(w:World)(os:OsState):lk PySem.Challenge.pw_homequay_k11_each_step (λs=>p1 (p2 (p2 (p2 (p2 (p2 (PySem.W.Fast.tw4187177175401517315 QV LO (PySem.W.Fast.tw5923862056798008813 PySem.Challenge.pw_homequay_k11_each_step.main.body) XT true s))))))) 11032 (w.withFollow "special-get-raises" false) os=some ((openGood QV LO).2.2.2.2.2.1):=by kernel_rfl
theorem u2(w:World)(os:OsState):lk PySem.Challenge.pw_homequay_k11_each_step (λs=>p1 (p2 (p2 (PySem.W.Fast.tw4187177175401517315 QV LO (PySem.W.Fast.tw5923862056798008813 PySem.Challenge.pw_homequay_k11_each_step.main.body) XT true s)))) 11032 (w.withFollow "special-get-raises" false) os=some ((openGood QV LO).2.2.1):=by kernel_rfl
theorem u0(w:World)(os:OsState):lk PySem.Challenge.pw_homequay_k11_each_step (λs=>p1 (PySem.W.Fast.tw4187177175401517315 QV LO (PySem.W.Fast.tw5923862056798008813 PySem.Challenge.pw_homequay_k11_each_step.main.body) XT true s)) 11032 (w.withFollow "special-get-raises" false) os=some ((openGood QV LO).1):=by kernel_rfl
theorem u3(w:World)(os:OsState):lk PySem.Challenge.pw_homequay_k11_each_step (λs=>p1 (p2 (p2 (p2 (PySem.W.Fast.tw4187177175401517315 QV LO (PySem.W.Fast.tw5923862056798008813 PySem.Challenge.pw_homequay_k11_each_step.main.body) XT true s))))) 11032 (w.withFollow "special-get-raises" false) os=some ((openGood QV LO).2.2.2.1):=by kernel_rfl
theorem u7(w:World)(os:OsState):lk PySem.Challenge.pw_homequay_k11_each_step (λs=>p1 (p2 (p2 (p2 (p2 (p2 (p2 (p2 (PySem.W.Fast.tw4187177175401517315 QV LO (PySem.W.Fast.tw5923862056798008813 PySem.Challenge.pw_homequay_k11_each_step.main.body) XT true s))))))))) 11032 (w.withFollow "special-get-raises" false) os=some ((openGood QV LO).2.2.2.2.2.2.2.1):=by kernel_rfl
theorem uA(w:World)(os:OsState):lk PySem.Challenge.pw_homequay_k11_each_step (λs=>(p1 (p2 (p2 (p2 (p2 (PySem.W.Fast.tw4187177175401517315 QV LO (PySem.W.Fast.tw5923862056798008813 PySem.Challenge.pw_homequay_k11_each_step.main.body) XT true s))))),p1 (p2 (p2 (p2 (p2 (p2 (p2 (PySem.W.Fast.tw4187177175401517315 QV LO (PySem.W.Fast.tw5923862056798008813 PySem.Challenge.pw_homequay_k11_each_step.main.body) XT true s))))))),p2 (p2 (p2 (p2 (p2 (p2 (p2 (p2 (PySem.W.Fast.tw4187177175401517315 QV LO (PySem.W.Fast.tw5923862056798008813 PySem.Challenge.pw_homequay_k11_each_step.main.body) XT true s)))))))))) 11032 (w.withFollow "special-get-raises" false) os=some (((openGood QV LO).2.2.2.2.1,(openGood QV LO).2.2.2.2.2.2.1,(openGood QV LO).2.2.2.2.2.2.2.2)):=by kernel_rfl
theorem uB(w:World)(os:OsState):lk PySem.Challenge.pw_homequay_k11_each_step (λs=>(chk PySem.Challenge.pw_homequay_k11_each_step (w.withFollow "special-get-raises" false) s,p1 (p2 (PySem.W.Fast.tw4187177175401517315 QV LO (PySem.W.Fast.tw5923862056798008813 PySem.Challenge.pw_homequay_k11_each_step.main.body) XT true s)))) 11032 (w.withFollow "special-get-raises" false) os=some ((true,(openGood QV LO).2.1)):=by kernel_rfl
theorem gE(w:World)(os:OsState):go PySem.Challenge.pw_homequay_k11_each_step 11032 (w.withFollow "special-get-raises" true) os=go PySem.Challenge.pw_homequay_k11_each_step 11032 (w.withFollow "special-get-raises" false) os:=by kernel_rfl
theorem nine{A B C D E F G H I:Type}(x y:A×B×C×D×E×F×G×H×I)(h0:p1 x=y.1)(h1:p1 (p2 x)=y.2.1)(h2:p1 (p2 (p2 x))=y.2.2.1)(h3:p1 (p2 (p2 (p2 x)))=y.2.2.2.1)(h4:p1 (p2 (p2 (p2 (p2 x))))=y.2.2.2.2.1)(h5:p1 (p2 (p2 (p2 (p2 (p2 x)))))=y.2.2.2.2.2.1)(h6:p1 (p2 (p2 (p2 (p2 (p2 (p2 x))))))=y.2.2.2.2.2.2.1)(h7:p1 (p2 (p2 (p2 (p2 (p2 (p2 (p2 x)))))))=y.2.2.2.2.2.2.2.1)(h8:p2 (p2 (p2 (p2 (p2 (p2 (p2 (p2 x)))))))=y.2.2.2.2.2.2.2.2):x=y:=by obtain⟨a,b,c,d,e,f,g,h,i⟩:=x;obtain⟨a',b',c',d',e',f',g',h',i'⟩:=y;obtain rfl:a=a':=h0;obtain rfl:b=b':=h1;obtain rfl:c=c':=h2;obtain rfl:d=d':=h3;obtain rfl:e=e':=h4;obtain rfl:f=f':=h5;obtain rfl:g=g':=h6;obtain rfl:h=h':=h7;obtain rfl:i=i':=h8;rfl
section
variable {p:Program}{n:Nat}{w:World}{os:OsState}{α β:Type}
theorem La{F:Shared->α}{G:Shared->β}{x:α}{y:β}(h1:lk p F n w os=some x)(h2:lk p G n w os=some y):lk p (λs=>(F s,G s)) n w os=some (x,y):=by
 unfold lk at h1 h2 ⊢;cases hg:go p n w os with
|none=>rw[hg]at h1;cases h1
|some r=>rw[hg]at h1 h2;exact congrArg some (congr (congrArg Prod.mk (Option.some.inj h1)) (Option.some.inj h2))
theorem QI{F:Shared->α}{G:Shared->β}{x:α}{y:β}(h:lk p (λs=>(F s,G s)) n w os=some (x,y)):lk p F n w os=some x:=by
 unfold lk at h ⊢;cases hg:go p n w os with
|none=>rw[hg]at h;cases h
|some r=>rw[hg]at h;exact congrArg some (Prod.mk.inj (Option.some.inj h)).1
theorem NO{F:Shared->α}{G:Shared->β}{x:α}{y:β}(h:lk p (λs=>(F s,G s)) n w os=some (x,y)):lk p G n w os=some y:=by
 unfold lk at h ⊢;cases hg:go p n w os with
|none=>rw[hg]at h;cases h
|some r=>rw[hg]at h;exact congrArg some (Prod.mk.inj (Option.some.inj h)).2
theorem Lb{A B C D E F G H I:Type}{X:Shared->A×B×C×D×E×F×G×H×I}{y:A×B×C×D×E×F×G×H×I}(h0:lk p (λs=>p1 (X s)) n w os=some y.1)(h1:lk p (λs=>p1 (p2 (X s))) n w os=some y.2.1)(h2:lk p (λs=>p1 (p2 (p2 (X s)))) n w os=some y.2.2.1)(h3:lk p (λs=>p1 (p2 (p2 (p2 (X s))))) n w os=some y.2.2.2.1)(h4:lk p (λs=>p1 (p2 (p2 (p2 (p2 (X s)))))) n w os=some y.2.2.2.2.1)(h5:lk p (λs=>p1 (p2 (p2 (p2 (p2 (p2 (X s))))))) n w os=some y.2.2.2.2.2.1)(h6:lk p (λs=>p1 (p2 (p2 (p2 (p2 (p2 (p2 (X s)))))))) n w os=some y.2.2.2.2.2.2.1)(h7:lk p (λs=>p1 (p2 (p2 (p2 (p2 (p2 (p2 (p2 (X s))))))))) n w os=some y.2.2.2.2.2.2.2.1)(h8:lk p (λs=>p2 (p2 (p2 (p2 (p2 (p2 (p2 (p2 (X s))))))))) n w os=some y.2.2.2.2.2.2.2.2):lk p X n w os=some y:=by
 unfold lk at *;cases hg:go p n w os with
|none=>rw[hg]at h0;cases h0
|some r=>rw[hg]at h0 h1 h2 h3 h4 h5 h6 h7 h8;exact congrArg some (nine _ _ (Option.some.inj h0) (Option.some.inj h1) (Option.some.inj h2) (Option.some.inj h3) (Option.some.inj h4) (Option.some.inj h5) (Option.some.inj h6) (Option.some.inj h7) (Option.some.inj h8))
end
theorem lg(w:World)(os:OsState):lk PySem.Challenge.pw_homequay_k11_each_step (λs=>PySem.W.Fast.tw4187177175401517315 QV LO (PySem.W.Fast.tw5923862056798008813 PySem.Challenge.pw_homequay_k11_each_step.main.body) XT true s) 11032 (w.withFollow "special-get-raises" false) os=some (openGood QV LO):=Lb (u0 w os) (NO (uB w os)) (u2 w os) (u3 w os) (QI (uA w os)) (u5 w os) (QI (NO (uA w os))) (u7 w os) (NO (NO (uA w os)))
theorem lf(w:World)(os:OsState):lkS PySem.Challenge.pw_homequay_k11_each_step QV LO XT 11032 (w.withFollow "special-get-raises" false) os=some (true,openGood QV LO):=La (QI (uB w os)) (lg w os)
theorem EH{p:Program}{n:Nat}{w w':World}{os:OsState}{α:Type}{F:Shared->α}(h:go p n w os=go p n w' os):lk p F n w os=lk p F n w' os:=by unfold lk;rw[h]
theorem lkE{α:Type}(F:Shared->α)(w:World)(os:OsState):lk PySem.Challenge.pw_homequay_k11_each_step F 11032 (w.withFollow "special-get-raises" true) os=lk PySem.Challenge.pw_homequay_k11_each_step F 11032 (w.withFollow "special-get-raises" false) os:=EH (gE w os)
theorem chkE(w:World):chk PySem.Challenge.pw_homequay_k11_each_step (w.withFollow "special-get-raises" true)=chk PySem.Challenge.pw_homequay_k11_each_step (w.withFollow "special-get-raises" false):=rfl
theorem lt(w:World)(os:OsState):lkS PySem.Challenge.pw_homequay_k11_each_step QV LO XT 11032 (w.withFollow "special-get-raises" true) os=some (true,openGood QV LO):=by have h:=lf w os;unfold lkS at h ⊢;rw[lkE,chkE];exact h
theorem EI{α:Type}{Yf:Shared->α}{Ya:World->α}(e1:opening PySem.Challenge.pw_homequay_k11_each_step=plainProg PySem.Challenge.pw_homequay_k11_each_step.main.scope.names)(e3:∀s:Shared,fenceModules? PySem.Challenge.pw_homequay_k11_each_step s=some s)(kf:∀(w:World)(os:OsState),lk PySem.Challenge.pw_homequay_k11_each_step Yf 11032 (w.withFollow "special-get-raises" false) os=some (Ya (w.withFollow "special-get-raises" false)))(hv:∀w:World,Ya (w.withFollow "special-get-raises" true)=Ya (w.withFollow "special-get-raises" false)):LeftO PySem.Challenge.pw_homequay_k11_each_step QV LO XT Yf Ya 11032:=left "special-get-raises" e1 (by decide) e3 lf lt kf λw os=>by rw[lkE,kf w os,hv w]
end RG
section
open PySem PySem.W PyProof.Rows
set_option hygiene false in
local macro_rules
|`(tactic| o_head $H)=>`(tactic| (have HH:=$H;exact z.elim))
set_option maxRecDepth 100000 in
set_option maxHeartbeats 0 in
theorem RG.hk(z:False):PySem.Challenge.rw_homequay_k11_each_step.Holds:=by w_on;o_law;k_head
end
namespace RG
open PySem PySem.W PyProof.Rows
noncomputable def AS:List Addr:=[2,3,15,17,18,20,21,22,29,30,31,32,35,42,44,45,47,48,49,50,51,54,61,63,64,66,67,68,69,70,73,80,82,83,85,86,87,88,89,92,99,101,102,104,105,106,107,108,111,118,120,121,123,124,125,126,127,130,137,139,140,142,143,144,145,146,149,151,152,154,155,156,158,159,161,162,163,166,167,168,170,171,173,174,175,177,178,180,181,189,191,192,194,195,196,198,199,201,202,203,205,206,208,209,210,212,213,215,216,217,219,220,222,223,224,226,227,229,230,231,232,233,234,235,238,245,247,248,250,251,252,253,254,257,264,266,267,269,270,271,272,273,276,283,285,286,288,289,290,291,292,295,302,304,305,307,308,309,310,311,314,316,317,319,320,321,323,324,326,327,328,330,331,333,334,335,337,338,340,341,342,344,345,347,348,349,350,351,353,354,356,357,358,360,361,363,364,365,367,368,370,371,372,374,375,377,378,379,381,382,384,385,386,388,389,391,392,393,395,396,398,399,400,402,403,405,406,407,409,410,412,413,421,423,424,426,427,428,430,431,433,434,435,437,438,440,441,442,444,445,447,448,449,451,452,454,455,456,458,459,461,462,463,465,466,468,469,470,472,473,475,476,477,479,480,482,483,484,486,487,489,490,491,493,494,496,497,498,500,501,503,504,505,507,508,510,511,512,514,515,517,518,519,521,522,524,525,526,528,529,531,532,533,536,537,538,540,541,543,544,545,547,548,550,551,552,554,555,557,558,559,561,562,564,565,566,568,569,571,572,573,575,576,578,579,580,582,583,585,586,587,589,590,592,593,594,595,596,597,598,608,610,611,613,614,615,617,618,620,621,622,625,626,627,629,630,632,633,634,636,637,639,640,641,644,645,646,648,649,651,652,653,655,656,658,659,660,662,663,665,666,667,670,671,672,674,675,677,678,679,681,682,684,685,686,689,690,691,694,695,696,698,699,701,702,703,706,707,708,711,712]
theorem eK(P:Params):AS=(RG.hk.heap_39 P).map (·.1):=by kernel_rfl
theorem kfE(w:World)(os:OsState):lk PySem.Challenge.pw_homequay_k11_each_step (λs=>AS.map s.heap.get?) 11032 (w.withFollow "special-get-raises" false) os=some ((RG.hk.heap_39 (w.withFollow "special-get-raises" false).params).map λp=>some p.2):=by kernel_rfl
end RG
namespace L2
open PySem PySem.Spec PyProof.Rows
noncomputable abbrev Key:=Sum Int Str
noncomputable def Ga:Key->Value->Bool
|.inl k,v=>Value.isInt k v
|.inr x,v=>Value.isStrOf x v
noncomputable def keyH(w:World):Key->Int
|.inl k=>hashInt k
|.inr x=>hashStr w x
theorem ZP:∀{k:Key}{v:Value},Ga k v=true->(∃i t,k=Sum.inl i/\v=Value.int i t)\/(∃x t,k=Sum.inr x/\v=Value.str x t)
|.inl i,v,h=>by obtain⟨t,e⟩:=Value.isInt_shape (k:=i) (v:=v) h;exact .inl ⟨i,t,rfl,e⟩
|.inr x,v,h=>by obtain⟨t,e⟩:=Value.isStrOf_shape (x:=x) (v:=v) h;exact .inr ⟨x,t,rfl,e⟩
theorem SQ(i:Int)(t:Tok):Ga (.inl i) (.int i t)=true:=by simp[Ga,Value.isInt]
theorem SO(x:Str)(t:Tok):Ga (.inr x) (.str x t)=true:=by simp[Ga,Value.isStrOf]
theorem D2(a b:Int):decide ((Sum.inl a:Key)=Sum.inl b)=(a==b):=by
 by_cases e:a=b
 ·subst e;simp
 ·have h:¬(Sum.inl a:Key)=Sum.inl b:=λq=>e (Sum.inl.inj q);rw[decide_eq_false h];exact(beq_eq_false_iff_ne.mpr e).symm
theorem DY(a b:Str):decide ((Sum.inr a:Key)=Sum.inr b)=decide (a=b):=by
 by_cases e:a=b
 ·subst e;simp
 ·have h:¬(Sum.inr a:Key)=Sum.inr b:=λq=>e (Sum.inr.inj q);rw[decide_eq_false h,decide_eq_false e]
theorem D1(a:Int)(b:Str):decide ((Sum.inl a:Key)=Sum.inr b)=false:=decide_eq_false (λq=>nomatch q)
theorem DZ(a:Str)(b:Int):decide ((Sum.inr a:Key)=Sum.inl b)=false:=decide_eq_false (λq=>nomatch q)
noncomputable def ZX(prog:Program)(w:World):PySem.KeyKind prog w Key where
 is:=Ga
 hash:=keyH w
 inj:=λv a b ha hb=>by
  rcases ZP ha with⟨i,t,rfl,rfl⟩|⟨x,t,rfl,rfl⟩
  ·rcases ZP hb with⟨j,u,rfl,e⟩|⟨y,u,rfl,e⟩
   ·injection e with e1 _;rw[e1]
   ·exact nomatch e
  ·rcases ZP hb with⟨j,u,rfl,e⟩|⟨y,u,rfl,e⟩
   ·exact nomatch e
   ·injection e with e1 _;rw[e1]
 byValue:=λk v h=>by rcases ZP h with⟨i,t,rfl,rfl⟩|⟨x,t,rfl,rfl⟩<;>rfl
 pyHash:=λhv h=>by
  rcases ZP hv with⟨i,t,rfl,rfl⟩|⟨x,t,rfl,rfl⟩
  ·exact wpAny_pyHash_int h
  ·exact wpAny_pyHash_str h
 eqBool:=λhu hv h=>by
  rcases ZP hu with⟨i,t,rfl,rfl⟩|⟨x,t,rfl,rfl⟩
  ·rcases ZP hv with⟨j,u,rfl,rfl⟩|⟨y,u,rfl,rfl⟩
   ·rw[D2]at h;exact wpAny_eqBool_int h
   ·rw[D1]at h;exact SeqAt.EqAt.int_str i t y u _ _ _ _ h
  ·rcases ZP hv with⟨j,u,rfl,rfl⟩|⟨y,u,rfl,rfl⟩
   ·rw[DZ]at h;exact SeqAt.EqAt.str_int x t j u _ _ _ _ h
   ·rw[DY]at h;exact wpAny_eqBool_str h
 «strs»:=λk x t v h=>by
  rcases ZP h with⟨i,u,rfl,e⟩|⟨y,u,rfl,e⟩
  ·exact nomatch e
  ·injection e with e1 _
   subst e1
   cases v<;>rfl
theorem Py(prog:Program)(w:World)(i:Int)(t:Tok):(ZX prog w).is (.inl i) (.int i t)=true:=SQ i t
theorem Px(prog:Program)(w:World)(x:Str)(t:Tok):(ZX prog w).is (.inr x) (.str x t)=true:=SO x t
open PySem PySem.Spec PyProof.Rows
inductive V where
|non|bl (b:Bool)|int (i:Int)|str (x:Str)|byt (b:Array UInt8)|flt (b:UInt64)|ref (a:Addr)|ty (n:String)
 deriving DecidableEq
noncomputable def RelV:V->Value->Prop
|.non,u=>u=Value.none
|.bl b,u=>u=Value.bool b
|.int i,u=>∃t,u=Value.int i t
|.str x,u=>∃t,u=Value.str x t
|.byt b,u=>∃t,u=Value.bytes b t
|.flt b,u=>∃t,u=Value.float b t
|.ref a,u=>u=Value.ref a
|.ty n,u=>u=Value.type n
noncomputable abbrev Vals:List V->List Value->Prop:=Paired RelV
theorem Vals.length{xs:List V}{us:List Value}(r:Vals xs us):xs.length=us.length:=Paired.length r
theorem Vals.get:∀{xs:List V}{us:List Value}{i:Nat}{x:V},Vals xs us->xs[i]?=some x->∃u,us[i]?=some u/\RelV x u
|_,_,_,_,.nil,e=>by simp at e
|_,_,0,_,.cons r _,e=>by simp at e;subst e;exact⟨_,rfl,r⟩
|_,_,i+1,x,.cons _ t,e=>by obtain⟨u,h1,h2⟩:=Vals.get (i:=i) (x:=x) t (by simpa using e);exact⟨u,by simpa using h1,h2⟩
theorem Vals.set{x:V}{u:Value}(r:RelV x u):∀{xs:List V}{us:List Value}(i:Nat),Vals xs us->Vals (xs.set i x) (us.set i u)
|_,_,_,.nil=>.nil
|_,_,0,.cons _ t=>.cons r t
|_,_,i+1,.cons q t=>.cons q (Vals.set r i t)
theorem Vals.append:∀{xs ys:List V}{us ws:List Value},Vals xs us->Vals ys ws->Vals (xs++ys) (us++ws)
|_,_,_,_,.nil,s=>s
|_,_,_,_,.cons r t,s=>.cons r (Vals.append t s)
theorem Vals.take:∀{xs:List V}{us:List Value}(n:Nat),Vals xs us->Vals (xs.take n) (us.take n)
|_,_,0,_=>.nil
|_,_,_+1,.nil=>.nil
|_,_,n+1,.cons r t=>.cons r (Vals.take n t)
theorem Vals.drop:∀{xs:List V}{us:List Value}(n:Nat),Vals xs us->Vals (xs.drop n) (us.drop n)
|_,_,0,r=>r
|_,_,_+1,.nil=>.nil
|_,_,n+1,.cons _ t=>Vals.drop n t
noncomputable def RelO:Option V->Option Value->Prop
|some v,some u=>RelV v u
|none,none=>True
|_,_=>False
noncomputable def KV{κ:Type}:List (κ×V)->List (κ×Value)->Prop:=Paired λ(p:κ×V)(q:κ×Value)=>p.1=q.1/\RelV p.2 q.2
noncomputable def kV:Key->V
|.inl i=>.int i
|.inr x=>.str x
inductive HO where
|lst (xs:List V)
|tup (xs:List V)
|dK (kvs:List (Key×V))|dT (kvs:List (List Key×V))
|set (S:Int->Bool) (n:Nat)
|ins (C dx:Addr) (fs:List (Str×V))
|own (x:Addr)
|xd (fs:List (Str×V))
|met (f x:Addr)
|rng (lo hi:Int)
|frz (o:Obj) (u:HO)
|tbl (ps:Array Value)
|ext (φ:Heap->Prop)
noncomputable abbrev Hp:=Addr->Option HO
noncomputable def upd(H:Hp)(a:Addr)(o:HO):Hp:=λb=>if b=a then some o else H b
theorem Ze{H:Hp}{a:Addr}{o:HO}:upd H a o a=some o:=by unfold upd;rw[if_pos rfl]
theorem Zj{H:Hp}{a b:Addr}{o:HO}(h:b≠a):upd H a o b=H b:=by unfold upd;rw[if_neg h]
theorem Rn{H:Hp}{a:Addr}{o u:HO}:upd (upd H a o) a u=upd H a u:=by funext b;unfold upd;split<;>rfl
theorem ne_of{H:Hp}{a b:Addr}{o u:HO}(h:H a=some o)(h':H b=some u)(d:o≠u):a≠b:=by intro e;subst e;rw[h]at h';exact d (Option.some.inj h')
theorem Zk{H:Hp}{a b:Addr}{o:HO}(h:H a=some o)(h':H b=none):a≠b:=by intro e;subst e;rw[h]at h';cases h'
section
variable (P:Program)(w:World)
noncomputable def ZG(H:Hp)(h:Heap)(a:Addr):HO->Prop
|.lst xs=>xs.length<=sizeLine/\∃(its:List Value)(n:Nat),Vals xs its/\h.get? a=some {cls:=.type "list",data:=.seq its.toArray n}
|.tup xs=>xs.length<=sizeLine/\∃its:List Value,Vals xs its/\IsTup h a its.toArray
|.dK kvs=>kvs.length<=sizeLine/\(a==sysModules)=false/\∃vs,KV kvs vs/\h.DictOf (ZX P w) a vs
|.dT kvs=>kvs.length<=sizeLine/\(a==sysModules)=false/\∃xs:List (List Key×Addr×Value),Paired (λ(p:List Key×V)(q:List Key×Addr×Value)=>p.1=q.1/\H q.2.1=some (.tup (p.1.map kV))/\RelV p.2 q.2.2) kvs xs /\∃o es ep,h.get? a=some o/\o.ExactDict/\o.data=.dict es ep/\es.toList=xs.map (entryOfKey (tupleKind (ZX P w)))/\(xs.map (·.1)).Nodup
|.set S n=>h.SetOf (intKind P w) a S n
|.ins C dx fs=>H dx=some (.own a)/\fs.length<=1000/\dx≠a/\h.get? a=some (PySem.W.instObj C dx) /\∃mA,h.Ns1 dx mA/\(∀f,RelO (fs.lookup f) (mA f))/\PySem.Within mA (fs.map (·.1))
|.own _=>∃o,h.get? a=some o
|.xd fs=>∃mA,h.Ns1 a mA/\∀f,RelO (fs.lookup f) (mA f)
|.rng lo hi=>∃t u v,h.get? a=some {cls:=.type "range",data:=.fields #[.int lo t,.int hi u,.int 1 v]}
|.frz o u=>h.get? a=some o/\ZG H h a u
|.tbl ps=>h.get? a=some {cls:=.none,data:=.fields ps}
|.met f x=>h.get? a=some (PySem.W.methodObj (.ref f) (.ref x))
|.ext φ=>φ h/\(∃o,h.get? a=some o)/\∀h1 h2:Heap,φ h1->(∀o,h1.get? a=some o->h2.get? a=some o)->φ h2
def HOk(H:Hp)(h:Heap):Prop:=∀a o,H a=some o->ZG P w H h a o
end
section
variable {P:Program}{w:World}{H H':Hp}{h h':Heap}{a:Addr}{o:HO}
theorem ZG.lt(x:ZG P w H h a o):a<h.objs.size:=by
 cases o with
|lst xs=>obtain⟨_,_,_,_,e⟩:=x;exact Heap.lt_size e
|tup xs=>obtain⟨_,_,_,p⟩:=x;exact p.lt
|dK kvs=>obtain⟨_,_,_,_,o,_,_,e,_⟩:=x;exact Heap.lt_size e
|dT kvs=>obtain⟨_,_,_,_,o,_,_,e,_⟩:=x;exact Heap.lt_size e
|set S n=>obtain⟨o,_,_,_,e,_⟩:=x;exact Heap.lt_size e
|ins C dx fs=>obtain⟨_,_,_,e,_⟩:=x;exact Heap.lt_size e
|own y=>obtain⟨_,e⟩:=x;exact Heap.lt_size e
|xd fs=>obtain⟨_,⟨_,_,_,e,_⟩,_⟩:=x;exact Heap.lt_size e
|rng lo hi=>obtain⟨_,_,_,e⟩:=x;exact Heap.lt_size e
|frz ob u=>obtain⟨e,_⟩:=x;exact Heap.lt_size e
|tbl ps=>exact Heap.lt_size (show h.get? a=some _ from x)
|met f y=>exact Heap.lt_size (show h.get? a=some _ from x)
|ext φ=>obtain⟨_,⟨_,e⟩,_⟩:=x;exact Heap.lt_size e
theorem Paired.mapP{α β:Type}{F G:α->β->Prop}:∀{l₁:List α}{l₂:List β},Paired F l₁ l₂->(∀a b,F a b->G a b)->Paired G l₁ l₂
|_,_,.nil,_=>.nil
|_,_,.cons r t,f=>.cons (f _ _ r) (Paired.mapP t f)
theorem ZG.stay(x:ZG P w H h a o)(k:∀b u,(b=a\/H b=some (.own a))->h.get? b=some u->h'.get? b=some u)(ho:∀b,H b=some (.own a)->H' b=some (.own a))(ht:∀b xs,H b=some (.tup xs)->H' b=some (.tup xs)):ZG P w H' h' a o:=by
 induction o with
|lst xs=>obtain⟨z,its,n,r,e⟩:=x;exact⟨z,its,n,r,k _ _ (.inl rfl) e⟩
|tup xs=>obtain⟨z,its,r,ob,e,c⟩:=x;exact⟨z,its,r,ob,k _ _ (.inl rfl) e,c⟩
|dK kvs=>obtain⟨z,y,vs,r,ob,es,ep,e,c⟩:=x;exact⟨z,y,vs,r,ob,es,ep,k _ _ (.inl rfl) e,c⟩
|dT kvs=>obtain⟨z,y,xs,r,ob,es,ep,e,c⟩:=x;exact⟨z,y,xs,Paired.mapP r λp q z=>⟨z.1,ht _ _ z.2.1,z.2.2⟩,ob,es,ep,k _ _ (.inl rfl) e,c⟩
|set S n=>obtain⟨ob,es,ep,t,e,c⟩:=x;exact⟨ob,es,ep,t,k _ _ (.inl rfl) e,c⟩
|ins C dx fs=>obtain⟨d,z,ne,e,mA,⟨od,es,ep,e2,c⟩,r⟩:=x;exact⟨ho _ d,z,ne,k _ _ (.inl rfl) e,mA,⟨od,es,ep,k _ _ (.inr d) e2,c⟩,r⟩
|own y=>obtain⟨ob,e⟩:=x;exact⟨ob,k _ _ (.inl rfl) e⟩
|xd fs=>obtain⟨mA,⟨od,es,ep,e,c⟩,r⟩:=x;exact⟨mA,⟨od,es,ep,k _ _ (.inl rfl) e,c⟩,r⟩
|rng lo hi=>obtain⟨t,u,v,e⟩:=x;exact⟨t,u,v,k _ _ (.inl rfl) e⟩
|frz ob u ih=>obtain⟨e,q⟩:=x;exact⟨k _ _ (.inl rfl) e,ih q⟩
|tbl ps=>have e:h.get? a=some {cls:=.none,data:=.fields ps}:=x;show h'.get? a=some {cls:=.none,data:=.fields ps};exact k a _ (.inl rfl) e
|met f y=>have e:h.get? a=some (PySem.W.methodObj (.ref f) (.ref y)):=x;show h'.get? a=some (PySem.W.methodObj (.ref f) (.ref y));exact k a _ (.inl rfl) e
|ext φ=>obtain⟨p,⟨o,e⟩,st⟩:=x;exact⟨st _ _ p λo q=>k _ _ (.inl rfl) q,⟨o,k _ _ (.inl rfl) e⟩,st⟩
theorem HOk.lt(x:HOk P w H h)(e:H a=some o):a<h.objs.size:=(x a o e).lt
theorem HOk.fresh(x:HOk P w H h)(e:h.objs.size<=a):H a=none:=by
 cases q:H a with
|none=>rfl
|some u=>exact absurd (Nat.lt_of_lt_of_le (x.lt q) e) (Nat.lt_irrefl _)
theorem HOk.kept(x:HOk P w H h)(k:∀b u,h.get? b=some u->h'.get? b=some u):HOk P w H h':=λa o e=>(x a o e).stay (λb u _ q=>k b u q) (λ_ q=>q) λ_ _ q=>q
theorem HOk.laid(x:HOk P w H h)(k:∀b u,h.get? b=some u->h'.get? b=some u)(hp:h.objs.size<=a)(new:ZG P w (upd H a o) h' a o):HOk P w (upd H a o) h':=λb u e=>by
 have hn:=x.fresh hp;by_cases hb:b=a
 ·subst hb;rw[Ze]at e;cases e;exact new
 ·rw[Zj hb]at e;exact(x b u e).stay (λc v _ q=>k c v q) (λc q=>by rw[Zj (Zk q hn)];exact q) λc xs q=>by rw[Zj (Zk q hn)];exact q
end
def Rd(H:Hp)(a:Addr)(u:HO):Prop:=H a=some u\/∃o,H a=some (.frz o u)
theorem Rd.ok{P:Program}{w:World}{H:Hp}{h:Heap}{a:Addr}{u:HO}(r:Rd H a u)(x:HOk P w H h):ZG P w H h a u:=by
 rcases r with r|⟨o,r⟩
 ·exact x a u r
 ·obtain⟨_,q⟩:=x a _ r;exact q
noncomputable def Mut:Option HO->Prop
|some (.lst _)=>True
|some (.dK _)=>True
|some (.dT _)=>True
|some (.set _ _)=>True
|some (.ins _ _ _)=>True
|some (.ext _)=>True
|_=>False
section
variable {P:Program}{w:World}{H:Hp}{h h':Heap}{x e:Addr}{o':HO}
theorem HOk.write(ok:HOk P w H h)(mu:Mut (H x))(he:e=x\/H e=some (.own x))(k:∀b u,b≠e->h.get? b=some u->h'.get? b=some u)(heo:∃u,h'.get? e=some u)(new:ZG P w (upd H x o') h' x o'):HOk P w (upd H x o') h':=λb u q=>by
 have nown:∀c y,H c=some (.own y)->c≠x:=λc y r z=>by subst z;rw[r]at mu;exact mu
 have ntup:∀c xs,H c=some (.tup xs)->c≠x:=λc xs r z=>by subst z;rw[r]at mu;exact mu
 by_cases hb:b=x
 ·subst hb;rw[Ze]at q;cases q;exact new
 ·rw[Zj hb]at q;by_cases hbe:b=e
  ·have q':H b=some (.own x):=by
    rcases he with z|z
    ·exact absurd (hbe.trans z) hb
    ·rw[hbe];exact z
   rw[q]at q';cases q';obtain⟨v,hv⟩:=heo;exact⟨v,by rw[hbe];exact hv⟩
  ·refine(ok b u q).stay (λc v hc r=>k c v ?_ r) (λc r=>by rw[Zj (nown c b r)];exact r) λc xs r=>by rw[Zj (ntup c xs r)];exact r
   rcases hc with rfl|hc
   ·exact hbe
   ·rintro rfl;rcases he with z|z
    ·exact nown c b hc z
    ·rw[hc]at z;cases z;exact hb rfl
end
structure Un(fs ex:List Addr)(H H':Hp)(h h':Heap):Prop where
 keep:∀b o,h.get? b=some o->H b=none->b∉fs->b∉ex->h'.get? b=some o
 slot:∀b o,h.get? b=some o->H b=none->b∈fs->b∉ex->∃sl,h'.get? b=some {o with slots:=sl}
 free:∀b o,h.get? b=some o->H b=none->b∉ex->H' b=none
 there:∀b o,h.get? b=some o->b∉ex->∃o',h'.get? b=some o'
 tups:∀b xs,H b=some (.tup xs)->H' b=some (.tup xs)
 frzs:∀b o u,H b=some (.frz o u)->H' b=some (.frz o u)
 tbls:∀b ps,H b=some (.tbl ps)->∃more,H' b=some (.tbl (ps++more))
section
variable {fs fs' ex ex':List Addr}{H H1 H2:Hp}{h h1 h2 h':Heap}{a x e:Addr}{o:HO}
theorem Un.any(u:Un fs ex H H1 h h1){b:Addr}{ob:Obj}(q:h.get? b=some ob)(n:H b=none)(hx:b∉ex):∃sl,h1.get? b=some {ob with slots:=sl}:=by
 by_cases hb:b∈fs
 ·exact u.slot b ob q n hb hx
 ·exact⟨ob.slots,u.keep b ob q n hb hx⟩
theorem Un.kept(k:∀b u,h.get? b=some u->h'.get? b=some u):Un fs ex H H h h':=⟨λb ob q _ _ _=>k b ob q,λb ob q _ _ _=>⟨ob.slots,k b ob q⟩,λ_ _ _ n _=>n,λb ob q _=>⟨ob,k b ob q⟩,λ_ _ q=>q,λ_ _ _ q=>q,λ_ ps q=>⟨#[],by rw[q];simp⟩⟩
theorem Un.refl:Un fs ex H H h h:=Un.kept λ_ _ q=>q
theorem Un.laid(k:∀b u,h.get? b=some u->h'.get? b=some u)(hp:h.objs.size<=a)(hn:H a=none):Un fs ex H (upd H a o) h h' where
 keep:=λb u q _ _ _=>k b u q
 slot:=λb u q _ _ _=>⟨u.slots,k b u q⟩
 free:=λb u q n _=>by rw[Zj (Nat.ne_of_lt (Nat.lt_of_lt_of_le (Heap.lt_size q) hp))];exact n
 there:=λb u q _=>⟨u,k b u q⟩
 tups:=λb xs q=>by rw[Zj (Zk q hn)];exact q
 frzs:=λb u xs q=>by rw[Zj (Zk q hn)];exact q
 tbls:=λb ps q=>⟨#[],by rw[Zj (Zk q hn),q];simp⟩
theorem Un.write(mu:Mut (H x))(he:e=x\/H e=some (.own x))(k:∀b u,b≠e->h.get? b=some u->h'.get? b=some u)(heo:∃u,h'.get? e=some u):Un fs ex H (upd H x o) h h':=by
 have hx:∀b,H b=none->b≠x:=λb n z=>by subst z;rw[n]at mu;exact mu
 have hb:∀b,H b=none->b≠e:=λb n z=>by
  subst z;rcases he with r|r
  ·exact hx b n r
  ·rw[n]at r;cases r
 have hm:∀b u,H b=some u->¬Mut (some u)->b≠x:=λb u q nm z=>by subst z;rw[q]at mu;exact nm mu
 refine⟨λb u q n _ _=>k b u (hb b n) q,λb u q n _ _=>⟨u.slots,k b u (hb b n) q⟩,λb u q n _=>by rw[Zj (hx b n)];exact n,λb u q _=>?_,
  λb xs q=>by rw[Zj (hm b _ q λz=>z)];exact q,λb u xs q=>by rw[Zj (hm b _ q λz=>z)];exact q,λb ps q=>⟨#[],by rw[Zj (hm b _ q λz=>z),q];simp⟩⟩;by_cases hbe:b=e
 ·subst hbe;exact heo
 ·exact⟨u,k b u hbe q⟩
end
noncomputable def trk(h:Heap)(H:Hp):List Addr:=(List.range h.objs.size).filter λa=>(H a).isSome
noncomputable def hidT(h:Heap)(H:Hp):Heap:=PySem.W.hideAll h (trk h H)
theorem SU(h:Heap)(H:Hp):(hidT h H).objs.size=h.objs.size:=PySem.W.hideAll_size _ _
theorem W3{h:Heap}{H:Hp}{b:Addr}{o:Obj}(e:h.get? b=some o)(n:H b=none):(hidT h H).get? b=some o:=PySem.W.hideAll_get _ e λhm=>by have q:(H b).isSome=true:=(List.mem_filter.mp hm).2;rw[n]at q;simp at q
theorem K7{h:Heap}{H:Hp}{b:Addr}{o:Obj}(e:(hidT h H).get? b=some o):h.get? b=some o/\H b=none:=by
 have e':h.get? b=some o:=PySem.W.of_hideAll (trk h H) e;refine⟨e',?_⟩;cases q:H b with
|none=>rfl
|some x=>have hm:b∈trk h H:=List.mem_filter.mpr ⟨List.mem_range.mpr (Heap.lt_size e'),by simp[q]⟩;have z:(hidT h H).get? b=none:=PySem.W.hideAll_none (trk h H) hm;rw[z]at e;cases e
noncomputable def Lv(g h:Heap)(L:Addr):List (Addr×Obj):=(List.range h.objs.size).filterMap λa=>if a=L\/(g.get? a).isSome=true then none else(h.get? a).map λo=>(a,o)
noncomputable def rest(g h:Heap)(L d:Addr):List (Addr×Obj):=(Lv g h L).filter λp=>decide (p.1≠d)
open PySem PySem.Spec PyProof.Rows
structure Mod(K:PySem.W.Frag)(mg:Str->Option Value)(base:Heap):Prop where
 kin:K.In base
 glob:base.Ns mainGlobals mg
 blt:∃mb,base.Ns builtinsNs mb/\∀x:Str,x≠"__name__"->mb x=bootBuiltins x
 nolimit:base.NoLimit
structure Cx where
 prog:Program
 w:World
 K:PySem.W.Frag
 mg:Str->Option Value
 base:Heap
 A:Around
 N:List Str
 s₀:Shared
 H₀:Hp
 env:Env
 outer:List Env
 stack:List Env
 ex:List Addr
 fn:Str->Bool
 calm:Bool
 pn:List (Addr×Obj)
 xe:Value->Shared->Prop
noncomputable def frs(l:List Env):List Addr:=l.filterMap (·.frame)
noncomputable abbrev Cx.fs(X:Cx):List Addr:=frs X.outer
def Vis(sc:Scope)(x:Str):Prop:=sc.names.lookup x=some .local\/sc.names.lookup x=some .cell\/sc.names.lookup x=some .free
def Loc(sc:Scope)(x:Str):Prop:=sc.names.lookup x=some .local\/sc.names.lookup x=some .cell
def Look(env:Env)(h:Heap)(m:Str->Option Value)(x:Str)(u:Value):Prop:=(env.kindOf x=some .local/\m x=some u)\/((env.kindOf x=some .cell\/env.kindOf x=some .free)/\∃c,env.cells.lookup x=some c/\h.IsCell c (some u))
structure Cx.Ok(X:Cx):Prop where
 mod:Mod X.K X.mg X.base
 kind:X.env.scope.kind=.function
 glob:X.env.globals=mainGlobals
 blt:X.env.builtins=builtinsNs
 above:X.s₀.heap.objs.size<=X.env.locals
 inj:∀x y c,X.env.cells.lookup x=some c->X.env.cells.lookup y=some c->x=y
 has:∀x,(X.env.kindOf x=some .cell\/X.env.kindOf x=some .free)->∃c,X.env.cells.lookup x=some c
 cab:∀x c,X.fn x=true->X.env.cells.lookup x=some c->X.s₀.heap.objs.size<=c
 hd:X.calm=true->X.A.handled=none
 frames:X.A.frames=some X.stack
 stk:X.stack=X.outer\/(X.stack=X.env::X.outer/\X.env.frame=some X.env.locals)
 exf:∀b∈X.ex,b≠X.env.locals/\∀x c,X.env.cells.lookup x=some c->c≠b
 bs:∀b o,X.base.get? b=some o->X.s₀.heap.get? b=some o/\X.H₀ b=none
 bsz:X.base.objs.size<=X.s₀.heap.objs.size
 noex:∀b o,X.base.get? b=some o->b∉X.ex
 exfs:∀b∈X.ex,b∉X.fs
 funs:X.s₀.heap.FunFrames X.base X.outer
 frf:∀b∈X.fs,X.H₀ b=none
structure Inv(X:Cx)(pins:List (Addr×Obj))(σ:List (Option V))(H:Hp)(s:Shared):Prop where
 ok:X.Ok
 os:s.os=X.s₀.os
 bare:AllBare s.gens
 base:Un X.fs X.ex X.H₀ H X.s₀.heap s.heap
 loc:∃m,s.heap.Ns X.env.locals m/\∀(i:Nat)(x:Str)(v:V),X.N[i]?=some x->σ[i]?=some (some v)->Vis X.env.scope x->∃u,RelV v u/\Look X.env s.heap m x u
 cell:∀x c,X.env.cells.lookup x=some c->∃v,s.heap.IsCell c v
 free:H X.env.locals=none
 freeC:∀x c,X.env.cells.lookup x=some c->H c=none
 pin:∀p∈X.pn++pins,s.heap.get? p.1=some p.2/\H p.1=none/\p.1≠X.env.locals/\p.1∉X.fs/\∀v,p.2.data≠.cell v
 hok:HOk X.prog X.w H s.heap
 len:σ.length=X.N.length
section
variable {X:Cx}{pins:List (Addr×Obj)}{σ:List (Option V)}{H H':Hp}{s:Shared}{h':Heap}
theorem Cx.Ok.nofr(ok:X.Ok){b:Addr}{o:Obj}(e:X.base.get? b=some o):b∉X.fs:=λhb=>by have:=(ok.funs.mem hb).1;rw[e]at this;cases this
theorem Inv.bs(I:Inv X pins σ H s):∀b o,X.base.get? b=some o->s.heap.get? b=some o/\H b=none:=λb o e=>⟨I.base.keep b o (I.ok.bs b o e).1 (I.ok.bs b o e).2 (I.ok.nofr e) (I.ok.noex b o e),I.base.free b o (I.ok.bs b o e).1 (I.ok.bs b o e).2 (I.ok.noex b o e)⟩
theorem Inv.bk(I:Inv X pins σ H s):∀b o,X.base.get? b=some o->s.heap.get? b=some o:=λb o e=>(I.bs b o e).1
theorem Inv.mod(I:Inv X pins σ H s):Mod X.K X.mg X.base:=I.ok.mod
theorem Inv.kIn(I:Inv X pins σ H s):X.K.In s.heap:=I.ok.mod.kin.keeps I.bk
theorem Inv.lt(I:Inv X pins σ H s):X.env.locals<s.heap.objs.size:=let ⟨_,hn,_⟩:=I.loc;hn.lt
theorem Inv.sz(I:Inv X pins σ H s):X.s₀.heap.objs.size<=s.heap.objs.size:=Nat.le_trans I.ok.above (Nat.le_of_lt I.lt)
theorem Inv.nofs(I:Inv X pins σ H s){a:Addr}(h:s.heap.objs.size<=a):a∉X.fs:=λhb=>by obtain⟨_,o,ho,_⟩:=I.ok.funs.mem hb;exact absurd (Nat.lt_of_lt_of_le (Heap.lt_size ho) (Nat.le_trans I.sz h)) (Nat.lt_irrefl _)
theorem Inv.cne(I:Inv X pins σ H s):∀x c,X.env.cells.lookup x=some c->c≠X.env.locals:=λx c e z=>by obtain⟨v,o,ho,hd⟩:=I.cell x c e;obtain⟨m,⟨o',es,ep,ho',hd',_⟩,_⟩:=I.loc;rw[z,ho']at ho;cases ho;rw[hd']at hd;cases hd
theorem Inv.funs(I:Inv X pins σ H s):s.heap.FunFrames X.base X.outer:=by
 have all:∀(l:List Env),(∀b∈frs l,b∈X.fs)->X.s₀.heap.FunFrames X.base l->s.heap.FunFrames X.base l:=by
  intro l;induction l with
 |nil=>intro _ _;trivial
 |cons env r ih=>intro hs hl;obtain⟨hk,⟨L,o,hf,hn,ho,hd⟩,hr⟩:=hl;have hL:L∈X.fs:=hs L (by unfold frs;rw[List.filterMap_cons,hf];exact List.mem_cons_self);obtain⟨sl,e⟩:=I.base.slot L o ho (I.ok.frf L hL) hL λz=>I.ok.exfs L z hL;exact⟨hk,⟨L,_,hf,hn,e,hd⟩,ih (λb hb=>hs b (by unfold frs;rw[List.filterMap_cons,hf];exact List.mem_cons_of_mem _ hb)) hr⟩
 exact all X.outer (λ_ hb=>hb) I.ok.funs
theorem Inv.stack(I:Inv X pins σ H s):s.heap.FunFrames X.base X.stack:=by
 rcases I.ok.stk with e|⟨e,hf⟩
 ·rw[e];exact I.funs
 ·rw[e];obtain⟨m,hn,_⟩:=I.loc;refine .cons (by rw[I.ok.kind];decide) hf hn ?_ I.funs;exact Heap.get?_none_of_le (Nat.le_trans I.ok.bsz I.ok.above)
theorem Inv.stkSub(I:Inv X pins σ H s):∀b∈frs X.stack,b∈X.env.locals::X.fs:=λb hb=>by
 rcases I.ok.stk with e|⟨e,hf⟩
 ·rw[e]at hb;exact List.mem_cons_of_mem _ hb
 ·rw[e]at hb;unfold frs at hb;rw[List.filterMap_cons,hf]at hb;exact hb
theorem Inv.stkFree(I:Inv X pins σ H s):∀b∈frs X.stack,H b=none:=λb hb=>by
 rcases List.mem_cons.mp (I.stkSub b hb)with e|hb
 ·rw[e];exact I.free
 ·obtain⟨_,o,ho,_⟩:=I.ok.funs.mem hb;exact I.base.free b o ho (I.ok.frf b hb) λz=>I.ok.exfs b z hb
theorem Inv.step{g':Array GenState}{t':Nat}{d':Drawn}{ch:List Addr}(I:Inv X pins σ H s)(hch:∀b∈ch,(b∈X.ex\/X.s₀.heap.objs.size<=b)/\b≠X.env.locals/\(∀x c,X.env.cells.lookup x=some c->c≠b)/\∀p∈X.pn++pins,p.1≠b)(keep:∀b o,b≠X.env.locals->b∉X.fs->b∉ch->s.heap.get? b=some o->H b=none->h'.get? b=some o)(slot:∀b o,b≠X.env.locals->b∈X.fs->b∉ch->s.heap.get? b=some o->H b=none->∃sl,h'.get? b=some {o with slots:=sl})(free:∀b o,b∉ch->s.heap.get? b=some o->H b=none->H' b=none)(there:∀b o,b∉ch->s.heap.get? b=some o->∃o',h'.get? b=some o')(tups:∀b xs,H b=some (.tup xs)->H' b=some (.tup xs))(frzs:∀b o u,H b=some (.frz o u)->H' b=some (.frz o u))(tbls:∀b ps,H b=some (.tbl ps)->∃more,H' b=some (.tbl (ps++more)))(ns:∀m,s.heap.Ns X.env.locals m->h'.Ns X.env.locals m)(hok:HOk X.prog X.w H' h')(hg:AllBare g'):Inv X pins σ H' {s with heap:=h',gens:=g',drawn:=d',toks:=t'}:=by
 have neL:∀b o,X.s₀.heap.get? b=some o->b≠X.env.locals:=λb o e=>Nat.ne_of_lt (Nat.lt_of_lt_of_le (Heap.lt_size e) I.ok.above);have neC:∀b o,X.s₀.heap.get? b=some o->b∉X.ex->b∉ch:=λb o e hx hb=>by
  rcases(hch b hb).1 with z|z
  ·exact hx z
  ·exact absurd (Nat.lt_of_lt_of_le (Heap.lt_size e) z) (Nat.lt_irrefl _)
 have cellK:∀x c,X.env.cells.lookup x=some c->∀v,s.heap.IsCell c v->h'.IsCell c v:=λx c e v⟨o,ho,hd⟩=>by
  have nch:c∉ch:=λz=>(hch c z).2.2.1 x c e rfl;by_cases hc:c∈X.fs
  ·obtain⟨sl,q⟩:=slot c o (I.cne x c e) hc nch ho (I.freeC x c e);exact⟨_,q,hd⟩
  ·exact⟨o,keep c o (I.cne x c e) hc nch ho (I.freeC x c e),hd⟩
 refine⟨I.ok,I.os,hg,⟨λb o e n hb hx=>?_,λb o e n hb hx=>?_,λb o e n hx=>?_,λb o e hx=>?_,λb xs e=>tups b xs (I.base.tups b xs e),λb o xs e=>frzs b o xs (I.base.frzs b o xs e),λb ps e=>?_⟩,?_,λx c e=>?_,?_,λx c e=>?_,λp hp=>?_,hok,I.len⟩
 ·exact keep b o (neL b o e) hb (neC b o e hx) (I.base.keep b o e n hb hx) (I.base.free b o e n hx)
 ·obtain⟨sl,e1⟩:=I.base.slot b o e n hb hx;obtain⟨sl',e2⟩:=slot b _ (neL b o e) hb (neC b o e hx) e1 (I.base.free b o e n hx);exact⟨sl',e2⟩
 ·obtain⟨o',e1⟩:=I.base.there b o e hx;exact free b o' (neC b o e hx) e1 (I.base.free b o e n hx)
 ·obtain⟨o',e1⟩:=I.base.there b o e hx;exact there b o' (neC b o e hx) e1
 ·obtain⟨m1,e1⟩:=I.base.tbls b ps e;obtain⟨m2,e2⟩:=tbls b _ e1;exact⟨m1++m2,by rw[e2,Array.append_assoc]⟩
 ·obtain⟨m,hn,hl⟩:=I.loc;refine⟨m,ns m hn,λi x v e1 e2 e3=>?_⟩;obtain⟨u,r,l⟩:=hl i x v e1 e2 e3;refine⟨u,r,?_⟩;rcases l with l|⟨k,c,e,z⟩
  ·exact .inl l
  ·exact .inr ⟨k,c,e,cellK x c e _ z⟩
 ·obtain⟨v,z⟩:=I.cell x c e;exact⟨v,cellK x c e v z⟩
 ·obtain⟨m,⟨o,_,_,ho,_⟩,_⟩:=I.loc;exact free _ o (λz=>(hch _ z).2.1 rfl) ho I.free
 ·obtain⟨v,o,ho,hd⟩:=I.cell x c e;exact free c o (λz=>(hch c z).2.2.1 x c e rfl) ho (I.freeC x c e)
 ·obtain⟨e,n,ne,nf,d⟩:=I.pin p hp;have nch:p.1∉ch:=λz=>(hch p.1 z).2.2.2 p hp rfl;exact⟨keep p.1 p.2 ne nf nch e n,free p.1 p.2 nch e n,ne,nf,d⟩
theorem Inv.un{t':Nat}(I:Inv X pins σ H s)(u:Un X.fs [] H H' s.heap h')(hok:HOk X.prog X.w H' h'):Inv X pins σ H' {s with heap:=h',toks:=t'}:=by
 obtain⟨m,⟨o,es,ep,ho,r⟩,_⟩:=id I.loc;obtain⟨sl,hL⟩:=u.any ho I.free (by simp);exact I.step (g':=s.gens) (d':=s.drawn) (ch:=[]) (λ_ z=>nomatch z) (λb o _ hb _ e n=>u.keep b o e n hb (by simp)) (λb o _ hb _ e n=>u.slot b o e n hb (by simp)) (λb o _ e n=>u.free b o e n (by simp)) (λb o _ e=>u.there b o e (by simp)) u.tups u.frzs u.tbls (λm' hm=>by obtain⟨o',es',ep',ho',r'⟩:=hm;rw[ho]at ho';cases ho';exact⟨_,es',ep',hL,r'⟩) hok I.bare
theorem Inv.call{g':Array GenState}{t':Nat}{d':Drawn}{ch:List Addr}(I:Inv X pins σ H s)(u:Un (frs X.stack) ch H H' s.heap h')(hok:HOk X.prog X.w H' h')(hg:AllBare g')(hch:∀b∈ch,(b∈X.ex\/X.s₀.heap.objs.size<=b)/\b≠X.env.locals/\(∀x c,X.env.cells.lookup x=some c->c≠b)/\∀p∈X.pn++pins,p.1≠b):Inv X pins σ H' {s with heap:=h',gens:=g',drawn:=d',toks:=t'}:=by
 obtain⟨m,⟨o,es,ep,ho,r⟩,_⟩:=id I.loc;obtain⟨sl,hL⟩:=u.any ho I.free λz=>(hch _ z).2.1 rfl;exact I.step (ch:=ch) hch (λb o hL hb hc e n=>u.keep b o e n (λz=>(List.mem_cons.mp (I.stkSub b z)).elim hL hb) hc) (λb o _ _ hc e n=>u.any e n hc) (λb o hc e n=>u.free b o e n hc) (λb o hc e=>u.there b o e hc) u.tups u.frzs u.tbls (λm' hm=>by obtain⟨o',es',ep',ho',r'⟩:=hm;rw[ho]at ho';cases ho';exact⟨_,es',ep',hL,r'⟩) hok hg
theorem Inv.turned{t':Nat}{it:Addr}(I:Inv X pins σ H s)(k:∀b o,b≠it->s.heap.get? b=some o->h'.get? b=some o)(hn:H it=none)(hL:it≠X.env.locals)(h1:it∈X.ex\/X.s₀.heap.objs.size<=it)(h2:∀x c,X.env.cells.lookup x=some c->c≠it)(h3:∀p∈X.pn++pins,p.1≠it):Inv X pins σ H {s with heap:=h',toks:=t'}:=by
 have nit:∀b u,H b=some u->b≠it:=λb u e z=>by rw[z,hn]at e;cases e
 refine I.step (g':=s.gens) (d':=s.drawn) (ch:=[it]) (λb hb=>?_) (λb o _ _ hc e _=>k b o (λz=>hc (by simp[z])) e) (λb o _ _ hc e _=>⟨o.slots,k b o (λz=>hc (by simp[z])) e⟩) (λ_ _ _ _ n=>n) (λb o hc e=>⟨o,k b o (λz=>hc (by simp[z])) e⟩) (λ_ _ e=>e) (λ_ _ _ e=>e) (λb ps e=>⟨#[],by rw[e];simp⟩) (λm hm=>?_) (λb u e=>?_) I.bare
 ·have e:b=it:=by simpa using hb
  subst e;exact⟨h1,hL,h2,h3⟩
 ·obtain⟨o,es,ep,ho,r⟩:=hm;exact⟨o,es,ep,k _ o (Ne.symm hL) ho,r⟩
 ·refine(I.hok b u e).stay (λc v hc q=>k c v ?_ q) (λ_ q=>q) λ_ _ q=>q;rcases hc with z|z
  ·rw[z];exact nit b u e
  ·exact nit c _ z
theorem Inv.tok(I:Inv X pins σ H s)(t:Nat):Inv X pins σ H {s with toks:=t}:=I.un (h':=s.heap) (t':=t) Un.refl I.hok
theorem Inv.kept{t':Nat}(I:Inv X pins σ H s)(k:∀b u,s.heap.get? b=some u->h'.get? b=some u):Inv X pins σ H {s with heap:=h',toks:=t'}:=I.un (Un.kept k) (I.hok.kept k)
theorem Inv.laid{a:Addr}{o:HO}{t':Nat}(I:Inv X pins σ H s)(k:∀b u,s.heap.get? b=some u->h'.get? b=some u)(hp:s.heap.objs.size<=a)(new:ZG X.prog X.w (upd H a o) h' a o):Inv X pins σ (upd H a o) {s with heap:=h',toks:=t'}:=I.un (Un.laid k hp (I.hok.fresh hp)) (I.hok.laid k hp new)
theorem Inv.write{x e:Addr}{o:HO}{t':Nat}(I:Inv X pins σ H s)(mu:Mut (H x))(he:e=x\/H e=some (.own x))(k:∀b u,b≠e->s.heap.get? b=some u->h'.get? b=some u)(heo:∃u,h'.get? e=some u)(new:ZG X.prog X.w (upd H x o) h' x o):Inv X pins σ (upd H x o) {s with heap:=h',toks:=t'}:=I.un (Un.write mu he k heo) (I.hok.write mu he k heo new)
theorem Inv.pins_of{pins':List (Addr×Obj)}(I:Inv X pins σ H s)(h:∀p∈pins',s.heap.get? p.1=some p.2/\H p.1=none/\p.1≠X.env.locals/\p.1∉X.fs/\∀v,p.2.data≠.cell v):Inv X pins' σ H s:=⟨I.ok,I.os,I.bare,I.base,I.loc,I.cell,I.free,I.freeC,λp hp=>(List.mem_append.mp hp).elim (λz=>I.pin p (List.mem_append_left _ z)) (h p),I.hok,I.len⟩
theorem G9{N:List Str}(hN:N.Nodup){i j:Nat}{x:Str}(a:N[i]?=some x)(b:N[j]?=some x):i=j:=by obtain⟨h1,e1⟩:=List.getElem?_eq_some_iff.mp a;obtain⟨h2,e2⟩:=List.getElem?_eq_some_iff.mp b;exact(List.getElem_inj hN).mp (e1.trans e2.symm)
theorem MO{M:Model}{A:Around}{E:Value->Shared->Prop}{i:Nat}{x:Str}{v:V}{u:Value}{Q:Unit->Shared->Prop}(I:Inv X pins σ H s)(hN:X.N.Nodup)(hi:X.N[i]?=some x)(hx:Loc X.env.scope x)(r:RelV v u)(h:∀s',Inv X pins (σ.set i (some v)) H s'->(∃a,Heap.SameBut a s.heap s'.heap/\(a=X.env.locals\/X.env.cells.lookup x=some a))->Q () s')(hf:X.fn x=true\/X.env.scope.names.lookup x=some .local:=by first|exact .inl rfl|exact .inr rfl|assumption):wpAny M A (storeName X.env x u) Q E s:=by
 obtain⟨m,hn,hl⟩:=id I.loc;have hcls:(X.env.scope.kind==.class||(X.env.scope.kind==.module&&X.env.locals != X.env.globals))=false:=by rw[I.ok.kind];rfl
 have hiσ:i<σ.length:=by rw[I.len];exact(List.getElem?_eq_some_iff.mp hi).1
 have cne:=I.cne;have tracked:∀{a:Addr}{h':Heap},(∃o,s.heap.get? a=some o/\H a=none)->Heap.SameBut a s.heap h'->HOk X.prog X.w H h':=λ{a h'}ha hs b ob e=>by
  obtain⟨_,_,hfree⟩:=ha;refine(I.hok b ob e).stay (λc w' hc q=>(hs.2 c ?_).trans q) (λ_ q=>q) λ_ _ q=>q;rintro rfl;rcases hc with rfl|hc
  ·rw[hfree]at e;cases e
  ·rw[hfree]at hc;cases hc
 rcases hx with hk|hk
 ·refine wpAny_storeName_local hk hn (λh' hn' hs=>?_) hcls;obtain⟨oL,_,_,hoL,_⟩:=id hn;refine h _ ⟨I.ok,I.os,I.bare,⟨λb o e n hb hx=>?_,λb o e n hb hx=>?_,I.base.free,λb o e hx=>?_,I.base.tups,I.base.frzs,I.base.tbls⟩,⟨_,hn',λj y v' e1 e2 e3=>?_⟩,λy c e=>?_,I.free,I.freeC,λp hp=>?_,tracked ⟨oL,hoL,I.free⟩ hs,by simpa using I.len⟩ ⟨_,hs,.inl rfl⟩
  ·exact(hs.2 b (Nat.ne_of_lt (Nat.lt_of_lt_of_le (Heap.lt_size e) I.ok.above))).trans (I.base.keep b o e n hb hx)
  ·obtain⟨sl,e1⟩:=I.base.slot b o e n hb hx;exact⟨sl,(hs.2 b (Nat.ne_of_lt (Nat.lt_of_lt_of_le (Heap.lt_size e) I.ok.above))).trans e1⟩
  ·obtain⟨o',e1⟩:=I.base.there b o e hx;exact⟨o',(hs.2 b (Nat.ne_of_lt (Nat.lt_of_lt_of_le (Heap.lt_size e) I.ok.above))).trans e1⟩
  ·by_cases hj:j=i
   ·subst hj;rw[hi]at e1;cases e1;rw[List.getElem?_set_self hiσ]at e2;cases e2;exact⟨u,r,.inl ⟨hk,by simp⟩⟩
   ·rw[List.getElem?_set_ne (Ne.symm hj)]at e2;obtain⟨u',r',q⟩:=hl j y v' e1 e2 e3;refine⟨u',r',?_⟩;rcases q with⟨k,e⟩|⟨k,c,e,z⟩
    ·refine .inl ⟨k,?_⟩;have:y≠x:=λe=>hj (G9 hN e1 (e▸hi));simp[this,e]
    ·exact .inr ⟨k,c,e,z.sameBut hs (cne y c e)⟩
  ·obtain⟨w',z⟩:=I.cell y c e;exact⟨w',z.sameBut hs (cne y c e)⟩
  ·obtain⟨e,n,ne,nf,d⟩:=I.pin p hp;exact⟨(hs.2 p.1 ne).trans e,n,ne,nf,d⟩
 ·have hfn:X.fn x=true:=by
   rcases hf with z|z
   ·exact z
   ·rw[z]at hk;cases hk
  obtain⟨c,hc⟩:=I.ok.has x (.inl hk);obtain⟨w',z⟩:=I.cell x c hc;refine wpAny_storeName_cell I.ok.kind hk hc z (λh' hc' hs=>?_);obtain⟨oc,hoc,hocd⟩:=id z;refine h {s with heap:=h'} ⟨I.ok,I.os,I.bare,⟨λb o e n hb hx=>?_,λb o e n hb hx=>?_,I.base.free,λb o e hx=>?_,I.base.tups,I.base.frzs,I.base.tbls⟩,⟨m,hn.sameBut hs (Ne.symm (cne x c hc)),λj y v' e1 e2 e3=>?_⟩,λy c' e=>?_,I.free,I.freeC,λp hp=>?_,tracked ⟨oc,hoc,I.freeC x c hc⟩ hs,by simpa using I.len⟩ ⟨c,hs,.inr hc⟩
  ·exact(hs.2 b (Nat.ne_of_lt (Nat.lt_of_lt_of_le (Heap.lt_size e) (I.ok.cab x c hfn hc)))).trans (I.base.keep b o e n hb hx)
  ·obtain⟨sl,e1⟩:=I.base.slot b o e n hb hx;exact⟨sl,(hs.2 b (Nat.ne_of_lt (Nat.lt_of_lt_of_le (Heap.lt_size e) (I.ok.cab x c hfn hc)))).trans e1⟩
  ·obtain⟨o',e1⟩:=I.base.there b o e hx;exact⟨o',(hs.2 b (Nat.ne_of_lt (Nat.lt_of_lt_of_le (Heap.lt_size e) (I.ok.cab x c hfn hc)))).trans e1⟩
  ·by_cases hj:j=i
   ·subst hj;rw[hi]at e1;cases e1;rw[List.getElem?_set_self hiσ]at e2;cases e2;exact⟨u,r,.inr ⟨.inl hk,c,hc,hc'⟩⟩
   ·rw[List.getElem?_set_ne (Ne.symm hj)]at e2;obtain⟨u',r',q⟩:=hl j y v' e1 e2 e3;refine⟨u',r',?_⟩;rcases q with q|⟨k,c',e,z'⟩
    ·exact .inl q
    ·refine .inr ⟨k,c',e,z'.sameBut hs ?_⟩;rintro rfl;exact hj (G9 hN e1 (I.ok.inj _ _ _ e hc▸hi))
  ·by_cases hcc:c'=c
   ·subst hcc;exact⟨_,hc'⟩
   ·obtain⟨w2,z2⟩:=I.cell y c' e;exact⟨w2,z2.sameBut hs hcc⟩
  ·obtain⟨e,n,ne,nf,d⟩:=I.pin p hp;refine⟨(hs.2 p.1 ?_).trans e,n,ne,nf,d⟩;intro q;rw[q,hoc]at e;have q':oc=p.2:=Option.some.inj e;exact d w' (by rw[<-q'];exact hocd)
theorem GJ{M:Model}{A:Around}{E:Value->Shared->Prop}{i:Nat}{x:Str}{v:V}{u:Value}{Q:Unit->Shared->Prop}(I:Inv X pins σ H s)(hN:X.N.Nodup)(hi:X.N[i]?=some x)(hx:Loc X.env.scope x)(r:RelV v u)(h:∀s',Inv X pins (σ.set i (some v)) H s'->Q () s')(hf:X.fn x=true\/X.env.scope.names.lookup x=some .local:=by first|exact .inl rfl|exact .inr rfl|assumption):wpAny M A (storeName X.env x u) Q E s:=MO I hN hi hx r (λs' I' _=>h s' I') hf
theorem Inv.call'{s':Shared}{ch:List Addr}(I:Inv X pins σ H s)(ho:s'.os=s.os)(u:Un (frs X.stack) ch H H' s.heap s'.heap)(hok:HOk X.prog X.w H' s'.heap)(hg:AllBare s'.gens)(hch:∀b∈ch,(b∈X.ex\/X.s₀.heap.objs.size<=b)/\b≠X.env.locals/\(∀x c,X.env.cells.lookup x=some c->c≠b)/\∀p∈X.pn++pins,p.1≠b):Inv X pins σ H' s':=by obtain⟨h',g',d',t',o'⟩:=s';have e:o'=s.os:=ho;subst e;exact I.call (g':=g') (t':=t') (d':=d') u hok hg hch
end
noncomputable abbrev XK:=Value->Option Addr->Hp->Prop
noncomputable abbrev St:=List (Option V)
noncomputable abbrev VK:=V->Hp->Prop
noncomputable abbrev TE:=St->Hp->VK->Prop
noncomputable abbrev TT:=St->Hp->(Bool->Hp->Prop)->Prop
noncomputable abbrev TA:=St->Hp->(List V->Hp->Prop)->Prop
structure Ends where
 nx:St->Hp->Prop
 rt:VK
 bk:St->Hp->Prop:=λ_ _=>False
 ct:St->Hp->Prop:=λ_ _=>False
noncomputable abbrev TS:=Ends->St->Hp->Prop
def EP(X:Cx)(pins:List (Addr×Obj))(σ:St)(Q:VK)(u:Value)(s':Shared):Prop:=∃v H',Inv X pins σ H' s'/\RelV v u/\Q v H'
def TP(X:Cx)(pins:List (Addr×Obj))(σ:St)(Q:Bool->Hp->Prop)(b:Bool)(s':Shared):Prop:=∃H',Inv X pins σ H' s'/\Q b H'
def AP(X:Cx)(pins:List (Addr×Obj))(σ:St)(Q:List V->Hp->Prop)(us:List Value)(s':Shared):Prop:=∃vs H',Inv X pins σ H' s'/\Vals vs us/\Q vs H'
def SP(X:Cx)(pins:List (Addr×Obj))(D:Ends)(f:Flow)(s':Shared):Prop:=match f with
|.next=>∃σ' H',Inv X pins σ' H' s'/\D.nx σ' H'
|.brk=>∃σ' H',Inv X pins σ' H' s'/\D.bk σ' H'
|.cont=>∃σ' H',Inv X pins σ' H' s'/\D.ct σ' H'
|.ret u=>∃v σ' H',Inv X pins σ' H' s'/\RelV v u/\D.rt v H'
def PE(X:Cx)(e:Expr)(t:TE):Prop:=∀(pins:List (Addr×Obj))(s:Shared)(σ:St)(H:Hp)(Q:VK),Inv X pins σ H s->t σ H Q->wpAny (model X.prog X.w) X.A (eval e X.env) (EP X pins σ Q) X.xe s
def PT(X:Cx)(e:Expr)(t:TT):Prop:=∀(pins:List (Addr×Obj))(s:Shared)(σ:St)(H:Hp)(Q:Bool->Hp->Prop),Inv X pins σ H s->t σ H Q->wpAny (model X.prog X.w) X.A (isTrue e X.env (eval e X.env)) (TP X pins σ Q) X.xe s
def PW(X:Cx)(e:Expr)(t:TT):Prop:=∀(whole:Sem Value)(pins:List (Addr×Obj))(s:Shared)(σ:St)(H:Hp)(Q:Bool->Hp->Prop),Inv X pins σ H s->t σ H Q->wpAny (model X.prog X.w) X.A (isTrue e X.env whole) (TP X pins σ Q) X.xe s
theorem PW.pt{X:Cx}{e:Expr}{t:TT}(h:PW X e t):PT X e t:=h _
def PA(X:Cx)(es:List Expr)(t:TA):Prop:=∀(pos:Pos)(pins:List (Addr×Obj))(s:Shared)(σ:St)(H:Hp)(Q:List V->Hp->Prop),Inv X pins σ H s->t σ H Q->wpAny (model X.prog X.w) X.A (spliced (backTo pos (starEach es X.env))) (AP X pins σ Q) X.xe s
def PS(X:Cx)(st:Stmt)(t:TS):Prop:=∀(pins:List (Addr×Obj))(s:Shared)(σ:St)(H:Hp)(D:Ends),Inv X pins σ H s->t D σ H->wpAny (model X.prog X.w) X.A (exec st X.env) (SP X pins D) X.xe s
def PSs(X:Cx)(st:List Stmt)(t:TS):Prop:=∀(pins:List (Addr×Obj))(s:Shared)(σ:St)(H:Hp)(D:Ends),Inv X pins σ H s->t D σ H->wpAny (model X.prog X.w) X.A (execs st X.env) (SP X pins D) X.xe s
theorem thn{α:Type}{t:Sem α}{Q Q':α->Shared->Prop}{M:Model}{A:Around}{E:Value->Shared->Prop}{s:Shared}(h:wpAny M A t Q E s)(hQ:∀a s,Q a s->Q' a s):wpAny M A t Q' E s:=wpAny_mono h hQ λ_ _ x=>x
open PySem PySem.Spec PyProof.Rows
section
variable {X:Cx}
theorem bin{a b:Expr}{ta tb:TE}(ha:PE X a ta)(hb:PE X b tb){pins:List (Addr×Obj)}{s:Shared}{σ:St}{H:Hp}{R:V->V->Hp->Prop}(I:Inv X pins σ H s)(h:ta σ H λx H1=>tb σ H1 λy H2=>R x y H2){α:Type}{Q:α->Shared->Prop}{f:Value->Value->Sem α}(hf:∀v u s2 x y H2,Inv X pins σ H2 s2->RelV x v->RelV y u->R x y H2->wpAny (model X.prog X.w) X.A (f v u) Q X.xe s2):wpAny (model X.prog X.w) X.A (eval a X.env) (λv s₁=>wpAny (model X.prog X.w) X.A (eval b X.env) (λu s₂=>wpAny (model X.prog X.w) X.A (f v u) Q X.xe s₂) X.xe s₁) X.xe s:=by refine thn (ha pins s σ H _ I h) λv s1⟨x,H1,I1,r1,q1⟩=>?_;refine thn (hb pins s1 σ H1 _ I1 q1) λu s2⟨y,H2,I2,r2,q2⟩=>?_;exact hf v u s2 x y H2 I2 r1 r2 q2
def tVar(i:Nat):TE:=λσ H Q=>∃v,σ[i]?=some (some v)/\Q v H
def tC(v:V):TE:=λ_ H Q=>Q v H
theorem Ji{i:Nat}{x:Str}{pos:Pos}(hN:X.N[i]?=some x)(hv:Vis X.env.scope x)(hd:(x==("__debug__":Str))=false:=by decide)(hcd:(x==("__classdict__":Str))=false:=by decide):PE X (.Name x pos) (tVar i):=by
 intro pins s σ H Q I h;obtain⟨v,e,h⟩:=h;obtain⟨m,hn,hl⟩:=I.loc;obtain⟨u,r,l⟩:=hl i x v hN e hv;have fin:EP X pins σ Q u s:=⟨v,H,I,r,h⟩;rcases l with⟨hk,hm⟩|⟨hk,c,hc,hcell⟩
 ·exact wpAny_Name (wpAny_loadName_local I.ok.kind hk hn hm fin) hd
 ·rcases hk with hk|hk
  ·exact wpAny_Name (wpAny_loadName_cell I.ok.kind hk hc hcell fin) hd
  ·exact wpAny_Name (wpAny_loadName_free I.ok.kind hk hc hcell fin hcd) hd
theorem Zc{i j pos}:PE X (.Constant (.int i) j pos) (tC (.int i)):=λ_ _ _ H _ I h=>wpAny_Constant_int ⟨.int i,H,I.tok _,⟨_,rfl⟩,h⟩
theorem J5{b j pos}:PE X (.Constant (.bool b) j pos) (tC (.bl b)):=λ_ _ _ H _ I h=>Constant_bool ⟨.bl b,H,I,rfl,h⟩
theorem ZI{j pos}:PE X (.Constant .none j pos) (tC .non):=λ_ _ _ H _ I h=>Constant_none ⟨.non,H,I,rfl,h⟩
theorem Zr{x j pos}:PE X (.Constant (.str x) j pos) (tC (.str x)):=λ_ _ _ H _ I h=>Calls.Constant_str ⟨.str x,H,I.tok _,⟨_,rfl⟩,h⟩
def Gl(X:Cx)(x:Str):Prop:=X.env.kindOf x=some .globalImplicit
theorem Jm{E:Value->Shared->Prop}{pins:List (Addr×Obj)}{s:Shared}{σ:St}{H:Hp}{x:Str}{u:Value}{pos:Pos}{Q:Value->Shared->Prop}(I:Inv X pins σ H s)(hg:Gl X x)(hm:X.mg x=some u)(h:Q u s)(hd:(x==("__debug__":Str))=false:=by decide):wpAny (model X.prog X.w) X.A (eval (.Name x pos) X.env) Q E s:=Calls.Name_function_global I.ok.kind hg (Calls.loadGlobal_global (by rw[I.ok.glob];exact I.mod.glob.keeps I.bk) hm h) hd
theorem JE{E:Value->Shared->Prop}{pins:List (Addr×Obj)}{s:Shared}{σ:St}{H:Hp}{x:Str}{u:Value}{pos:Pos}{Q:Value->Shared->Prop}(I:Inv X pins σ H s)(hg:Gl X x)(hm:X.mg x=none)(hv:bootBuiltins x=some u)(h:Q u s)(hn:x≠"__name__":=by decide)(hd:(x==("__debug__":Str))=false:=by decide):wpAny (model X.prog X.w) X.A (eval (.Name x pos) X.env) Q E s:=by obtain⟨mb,h1,h2⟩:=I.mod.blt;exact Calls.Name_function_global I.ok.kind hg (Calls.loadGlobal_builtin (by rw[I.ok.glob];exact I.mod.glob.keeps I.bk) hm (by rw[I.ok.blt];exact h1.keeps I.bk) ((h2 x hn).trans hv) h) hd
theorem ZO{x:Str}{v:V}{u:Value}{pos:Pos}(hg:Gl X x)(hm:X.mg x=some u)(r:RelV v u)(hd:(x==("__debug__":Str))=false:=by decide):PE X (.Name x pos) (tC v):=λ_ _ _ H _ I h=>Jm I hg hm ⟨v,H,I,r,h⟩ hd
theorem Jj{x:Str}{v:V}{u:Value}{pos:Pos}(hg:Gl X x)(hm:X.mg x=none)(hv:bootBuiltins x=some u)(r:RelV v u)(hn:x≠"__name__":=by decide)(hd:(x==("__debug__":Str))=false:=by decide):PE X (.Name x pos) (tC v):=λ_ _ _ H _ I h=>JE I hg hm hv ⟨v,H,I,r,h⟩ hn hd
variable {a b:Expr}{ta tb:TE}{pos:Pos}
def PC(X:Cx)(op:CmpOp)(a b:Expr)(t:TE):Prop:=∀(pins:List (Addr×Obj))(s:Shared)(σ:St)(H:Hp)(Q:VK),Inv X pins σ H s->t σ H Q ->wpAny (model X.prog X.w) X.A (eval a X.env) (λv s₁=>wpAny (model X.prog X.w) X.A (eval b X.env) (λu s₂=>wpAny (model X.prog X.w) X.A (compareOp op v u) (EP X pins σ Q) X.xe s₂) X.xe s₁) X.xe s
theorem Pw(b:Expr){op:CmpOp}(h:op≠.In)(h2:op≠.NotIn):behindInMarks op b=false:=by
 have e1:(op==CmpOp.In)=false:=by cases op<;>first|rfl|exact absurd rfl h
 have e2:(op==CmpOp.NotIn)=false:=by cases op<;>first|rfl|exact absurd rfl h2
 cases b<;>simp[behindInMarks,e1,e2]
def tB(t:TE):TT:=λσ H Q=>t σ H λx H1=>∃c,x=.bl c/\Q c H1
theorem Du{op:CmpOp}{t:TE}(h:PC X op a b t)(h1:behindInMarks op b=false:=by first|exact Pw _ (by decide) (by decide)|rfl):PE X (.Compare a [op] [b] pos) t:=λpins s σ H Q I hw=>wpAny_Compare1 (h pins s σ H Q I hw) h1
theorem Dp{op:CmpOp}{t:TE}(h:PC X op a b t)(h1:behindInMarks op b=false:=by first|exact Pw _ (by decide) (by decide)|rfl):PT X (.Compare a [op] [b] pos) (tB t):=by intro pins s σ H Q I hw;refine wpAny_isTrue_Compare1 (thn (h pins s σ H _ I hw) λv s1 h1=>thn h1 λu s2 h2=>thn h2 λc s3⟨x,H1,I1,r1,q1⟩=>?_) h1;obtain⟨d,rfl,q⟩:=q1;cases r1;exact wpAny_truthy_bool ⟨H1,I1,q⟩
theorem ZD{e:Expr}{t:TE}(h:PE X e t)(he:∀whole,isTrue e X.env whole=(do let v <-whole;standAt e.pos;holding [v] (truthy v)):=by intro _;rfl):PT X e (tB t):=by
 intro pins s σ H Q I hw
 refine isTrue_plain (thn (h pins s σ H _ I hw) λv s1⟨x,H1,I1,r1,q1⟩=>?_) (he _)
 obtain⟨d,rfl,q⟩:=q1
 cases r1
 exact wpAny_truthy_bool ⟨H1,I1,q⟩
variable {tA tB':TT}{rest:List Expr}
def tAnd(t u:TT):TT:=λσ H Q=>t σ H λc H1=>if c=true then u σ H1 Q else Q false H1
def tOr(t u:TT):TT:=λσ H Q=>t σ H λc H1=>if c=true then Q true H1 else u σ H1 Q
def tNot(t:TT):TT:=λσ H Q=>t σ H λc H1=>Q (!c) H1
theorem VB(ha:PT X a tA):PW X (.BoolOp .And [a] pos) tA:=by
 intro wh pins s σ H Q I h;refine isTrue_and (thn (ha pins s σ H Q I h) λc s1 e=>?_);cases c with
|true=>exact isTrue_and_nil e
|false=>exact e
theorem Jf(ha:PT X a tA):PW X (.BoolOp .Or [a] pos) tA:=by
 intro wh pins s σ H Q I h;refine isTrue_or (thn (ha pins s σ H Q I h) λc s1 e=>?_);cases c with
|false=>exact isTrue_or_nil e
|true=>exact e
theorem UJ(ha:PT X a tA)(hb:PW X (.BoolOp .And (b::rest) pos) tB'):PW X (.BoolOp .And (a::b::rest) pos) (tAnd tA tB'):=by
 intro wh pins s σ H Q I h;refine isTrue_and (thn (ha pins s σ H _ I h) λc s1⟨H1,I1,q1⟩=>?_);cases c with
|true=>exact hb wh pins s1 σ H1 Q I1 q1
|false=>exact⟨H1,I1,q1⟩
theorem VA(ha:PT X a tA)(hb:PW X (.BoolOp .Or (b::rest) pos) tB'):PW X (.BoolOp .Or (a::b::rest) pos) (tOr tA tB'):=by
 intro wh pins s σ H Q I h;refine isTrue_or (thn (ha pins s σ H _ I h) λc s1⟨H1,I1,q1⟩=>?_);cases c with
|true=>exact⟨H1,I1,q1⟩
|false=>exact hb wh pins s1 σ H1 Q I1 q1
theorem ZQ(ha:PT X a tA):PT X (.UnaryOp .Not a pos) (tNot tA):=by intro pins s σ H Q I h;exact isTrue_not (ha pins s σ H (λc H1=>Q (!c) H1) I h)
def Es(ta tb:TE):TE:=λσ H Q=>ta σ H λx H1=>∃c,x=.bl c/\if c=true then tb σ H1 Q else Q (.bl false) H1
def Ej(ta:TE):TE:=λσ H Q=>ta σ H λx H1=>∃c,x=.bl c/\Q (.bl (!c)) H1
theorem Y9{op}{t:TE}(h:PE X a t):PE X (.BoolOp op [a] pos) t:=λpins s σ H Q I hw=>BoolOp_one (h pins s σ H Q I hw)
theorem JD(ha:PE X a ta)(hb:PE X (.BoolOp .And (b::rest) pos) tb):PE X (.BoolOp .And (a::b::rest) pos) (Es ta tb):=by
 intro pins s σ H Q I h;refine BoolOp_and (thn (ha pins s σ H _ I h) λv s1⟨x,H1,I1,r1,q1⟩=>?_);obtain⟨c,rfl,q1⟩:=q1;cases r1;refine wpAny_truthy_bool ?_;cases c with
|true=>exact hb pins s1 σ H1 Q I1 q1
|false=>exact⟨.bl false,H1,I1,rfl,q1⟩
theorem Dt(ha:PE X a ta):PE X (.UnaryOp .Not a pos) (Ej ta):=by intro pins s σ H Q I h;refine UnaryOp_ (thn (ha pins s σ H _ I h) λv s1⟨x,H1,I1,r1,q1⟩=>?_);obtain⟨c,rfl,q1⟩:=q1;cases r1;exact not_of (wpAny_truthy_bool ⟨.bl (!c),H1,I1,rfl,q1⟩)
def tIf(t:TT)(ta tb:TE):TE:=λσ H Q=>t σ H λc H1=>if c=true then ta σ H1 Q else tb σ H1 Q
theorem VH{c:Expr}(hc:PT X c tA)(ha:PE X a ta)(hb:PE X b tb):PE X (.IfExp c a b pos) (tIf tA ta tb):=by
 intro pins s σ H Q I h;refine wpAny_IfExp (thn (hc pins s σ H _ I h) λd s1⟨H1,I1,q1⟩=>?_);cases d with
|true=>exact ha pins s1 σ H1 Q I1 q1
|false=>exact hb pins s1 σ H1 Q I1 q1
end
open PySem PySem.Spec PyProof.Rows
def SqL(K:PySem.W.Frag)(H:Hp)(a:Addr)(xs:List V):Prop:=Rd H a (.lst xs) \/∃(o:Obj)(its:Array Value)(n:Nat),K.lookup a=some o/\o.cls=.type "list"/\o.dict=none/\o.data=.seq its n/\its.size<=sizeLine/\Vals xs its.toList
def SqT(K:PySem.W.Frag)(H:Hp)(a:Addr)(xs:List V):Prop:=Rd H a (.tup xs) \/∃(o:Obj)(its:Array Value)(n:Nat),K.lookup a=some o/\o.cls=.type "tuple"/\o.data=.seq its n/\its.size<=sizeLine/\Vals xs its.toList
noncomputable def absV:Value->Option V
|.none=>some .non
|.bool b=>some (.bl b)
|.int i _=>some (.int i)
|.str x _=>some (.str x)
|.bytes b _=>some (.byt b)
|.float b _=>some (.flt b)
|.ref a=>some (.ref a)
|.type n=>some (.ty n)
|_=>none
theorem RelV.abs{x:V}{u:Value}(r:RelV x u):absV u=some x:=by
 cases x with
|non=>cases r;rfl
|bl _=>cases r;rfl
|int _=>obtain⟨t,rfl⟩:=r;rfl
|str _=>obtain⟨t,rfl⟩:=r;rfl
|byt _=>obtain⟨t,rfl⟩:=r;rfl
|flt _=>obtain⟨t,rfl⟩:=r;rfl
|ref _=>cases r;rfl
|ty _=>cases r;rfl
theorem RelV.inj{x y:V}{u:Value}(r:RelV x u)(q:RelV y u):x=y:=Option.some.inj (r.abs.symm.trans q.abs)
theorem Vals.inj:∀{xs ys:List V}{us:List Value},Vals xs us->Vals ys us->xs=ys
|_,_,_,.nil,.nil=>rfl
|_,_,_,.cons r t,.cons r' t'=>by rw[r.inj r',Vals.inj t t']
section
variable {X:Cx}{pins:List (Addr×Obj)}{σ:St}{H:Hp}{s:Shared}{a:Addr}{xs ys:List V}
theorem SqL.of{K:PySem.W.Frag}(h:H a=some (.lst xs)):SqL K H a xs:=.inl (.inl h)
theorem SqT.of{K:PySem.W.Frag}(h:H a=some (.tup xs)):SqT K H a xs:=.inl (.inl h)
theorem Inv.list(I:Inv X pins σ H s)(h:SqL X.K H a xs):∃its:List Value,Vals xs its/\PlainL s.heap a its.toArray/\xs.length<=sizeLine:=by
 rcases h with h|⟨o,its,n,hk,hc,hd,hs,hz,r⟩
 ·obtain⟨z,its,n,r,e⟩:=h.ok I.hok;exact⟨its,r,⟨_,n,e,rfl,rfl,rfl⟩,z⟩
 ·refine⟨its.toList,r,⟨o,n,I.kIn a o hk,hc,hd,by simpa using hs⟩,?_⟩;have e:=r.length;simp only[Array.length_toList]at e;omega
theorem Inv.tuple(I:Inv X pins σ H s)(h:SqT X.K H a xs):∃its:List Value,Vals xs its/\IsTup s.heap a its.toArray/\xs.length<=sizeLine:=by
 rcases h with h|⟨o,its,n,hk,hc,hs,hz,r⟩
 ·obtain⟨z,its,r,p⟩:=h.ok I.hok;exact⟨its,r,p,z⟩
 ·refine⟨its.toList,r,⟨o,I.kIn a o hk,hc,n,by simpa using hs⟩,?_⟩;have e:=r.length;simp only[Array.length_toList]at e;omega
theorem Inv.list_inj(I:Inv X pins σ H s)(h:SqL X.K H a xs)(h':SqL X.K H a ys):xs=ys:=by
 obtain⟨its,r,⟨o,n,e,_,_,d⟩,_⟩:=I.list h;obtain⟨its',r',⟨o',n',e',_,_,d'⟩,_⟩:=I.list h';rw[e]at e';cases e';rw[d]at d';injection d' with d1 _;have:its=its':=by simpa using congrArg Array.toList d1
 subst this;exact r.inj r'
theorem Inv.tuple_inj(I:Inv X pins σ H s)(h:SqT X.K H a xs)(h':SqT X.K H a ys):xs=ys:=by
 obtain⟨its,r,⟨o,e,_,n,d⟩,_⟩:=I.tuple h;obtain⟨its',r',⟨o',e',_,n',d'⟩,_⟩:=I.tuple h';rw[e]at e';cases e';rw[d]at d';injection d' with d1 _;have:its=its':=by simpa using congrArg Array.toList d1
 subst this;exact r.inj r'
end
noncomputable abbrev Cx.wish(X:Cx)(E:Value->Shared->Prop):Cx:={X with xe:=E}
noncomputable abbrev Cx.nox(X:Cx):Cx:=X.wish λ_ _=>False
theorem Cx.Ok.wish{X:Cx}(ok:X.Ok)(E:Value->Shared->Prop):(X.wish E).Ok:=⟨ok.mod,ok.kind,ok.glob,ok.blt,ok.above,ok.inj,ok.has,ok.cab,ok.hd,ok.frames,ok.stk,ok.exf,ok.bs,ok.bsz,ok.noex,ok.exfs,ok.funs,ok.frf⟩
theorem Cx.Ok.unwish{X:Cx}{E:Value->Shared->Prop}(ok:(X.wish E).Ok):X.Ok:=⟨ok.mod,ok.kind,ok.glob,ok.blt,ok.above,ok.inj,ok.has,ok.cab,ok.hd,ok.frames,ok.stk,ok.exf,ok.bs,ok.bsz,ok.noex,ok.exfs,ok.funs,ok.frf⟩
section
variable {X:Cx}{pins:List (Addr×Obj)}{σ:St}{H:Hp}{s:Shared}{E:Value->Shared->Prop}
theorem Inv.wish(I:Inv X pins σ H s)(E:Value->Shared->Prop):Inv (X.wish E) pins σ H s:=⟨I.ok.wish E,I.os,I.bare,I.base,I.loc,I.cell,I.free,I.freeC,I.pin,I.hok,I.len⟩
theorem Inv.unwish(I:Inv (X.wish E) pins σ H s):Inv X pins σ H s:=⟨I.ok.unwish,I.os,I.bare,I.base,I.loc,I.cell,I.free,I.freeC,I.pin,I.hok,I.len⟩
theorem SP.unwish{D:Ends}{f:Flow}{s':Shared}(h:SP (X.wish E) pins D f s'):SP X pins D f s':=by
 cases f with
|next=>obtain⟨σ',H',I,q⟩:=h;exact⟨σ',H',I.unwish,q⟩
|brk=>obtain⟨σ',H',I,q⟩:=h;exact⟨σ',H',I.unwish,q⟩
|cont=>obtain⟨σ',H',I,q⟩:=h;exact⟨σ',H',I.unwish,q⟩
|ret u=>obtain⟨v,σ',H',I,r,q⟩:=h;exact⟨v,σ',H',I.unwish,r,q⟩
theorem PSs.nox{st:List Stmt}{t:TS}(h:PSs X.nox st t):PSs X st t:=λpins s σ H D I hw=>wpAny_mono (h pins s σ H D (I.wish _) hw) (λ_ _ q=>q.unwish) λ_ _ z=>False.elim z
end
section
variable {X:Cx}{st:Stmt}{rest:List Stmt}{t u:TS}{e:Expr}{te:TE}{pos:Pos}
def Ek:TS:=λD σ H=>D.nx σ H
def tSeq(t u:TS):TS:=λD σ H=>t {D with nx:=u D} σ H
theorem Zv:PSs X [] Ek:=λ_ _ σ H _ I h=>wpAny_execs_nil ⟨σ,H,I,h⟩
theorem Zd(h1:PS X st t)(h2:PSs X rest u):PSs X (st::rest) (tSeq t u):=by
 intro pins s σ H D I h;refine wpAny_execs_cons (thn (h1 pins s σ H {D with nx:=u D} I h) λf s1 q=>?_);cases f with
|next=>obtain⟨σ',H',I',q⟩:=q;exact h2 pins s1 σ' H' D I' q
|ret v=>exact q
|brk=>exact q
|cont=>exact q
theorem Zi(h1:PS X st t):PSs X [st] t:=by
 intro pins s σ H D I h;refine wpAny_execs_cons (thn (h1 pins s σ H D I h) λf s1 q=>?_);cases f with
|next=>exact wpAny_execs_nil q
|ret v=>exact q
|brk=>exact q
|cont=>exact q
theorem Inv.quiet{pins:List (Addr×Obj)}{σ:St}{H:Hp}{s:Shared}(I:Inv X pins σ H s):interactive X.env=false:=by simp[interactive,I.ok.kind]
def Ep(te:TE):TS:=λD σ H=>te σ H λ_ H1=>D.nx σ H1
theorem Yz(he:PE X e te)(hs:swapsWith e none pos.line X.env=pure false:=by rfl):PS X (.Expr e pos) (Ep te):=by intro pins s σ H D I h;exact wpAny_Expr_any (thn (he pins s σ H _ I h) λv s1⟨x,H1,I1,r1,q1⟩=>⟨σ,H1,I1,q1⟩) I.quiet hs
def tRet(te:TE):TS:=λD σ H=>te σ H D.rt
theorem Zo(he:PE X e te):PS X (.Return (some e) pos) (tRet te):=by intro pins s σ H D I h;exact wpAny_Return_some (thn (he pins s σ H _ I h) λv s1⟨x,H1,I1,r1,q1⟩=>⟨x,σ,H1,I1,r1,q1⟩)
def tIfS(c:TT)(t u:TS):TS:=λD σ H=>c σ H λb H1=>if b=true then t D σ H1 else u D σ H1
theorem ZH{c:Expr}{a b:List Stmt}{tc:TT}(hc:PT X c tc)(ha:PSs X a t)(hb:PSs X b u):PS X (.If c a b pos) (tIfS tc t u):=by
 intro pins s σ H D I h;refine wpAny_If (thn (hc pins s σ H _ I h) λd s1⟨H1,I1,q1⟩=>?_);cases d with
|true=>exact ha pins s1 σ H1 D I1 q1
|false=>exact hb pins s1 σ H1 D I1 q1
def LY:TS:=λ_ _ _=>False
theorem VD:PS X st LY:=λ_ _ _ _ _ _ h=>h.elim
end
noncomputable abbrev TG:=V->St->Hp->(St->Hp->Prop)->Prop
noncomputable abbrev TGs:=List V->St->Hp->(St->Hp->Prop)->Prop
def PG(X:Cx)(target:Expr)(t:TG):Prop:=∀(pins:List (Addr×Obj))(s:Shared)(σ:St)(H:Hp)(v:V)(u:Value)(Q:St->Hp->Prop),Inv X pins σ H s->RelV v u->t v σ H Q ->wpAny (model X.prog X.w) X.A (assign target X.env u) (λ_ s'=>∃σ' H',Inv X pins σ' H' s'/\Q σ' H') X.xe s
def PGs(X:Cx)(ts:List Expr)(t:TGs):Prop:=∀(pins:List (Addr×Obj))(s:Shared)(σ:St)(H:Hp)(vs:List V)(us:List Value)(Q:St->Hp->Prop),Inv X pins σ H s->Vals vs us->t vs σ H Q ->wpAny (model X.prog X.w) X.A (assignInOrder ((assignEach ts X.env).map (·.2)) us) (λ_ s'=>∃σ' H',Inv X pins σ' H' s'/\Q σ' H') X.xe s
noncomputable abbrev TSet:=V->V->V->Hp->(Hp->Prop)->Prop
def PSet(X:Cx)(t:TSet):Prop:=∀(pins:List (Addr×Obj))(s:Shared)(σ:St)(H:Hp)(o i v:V)(ov iv u:Value)(Q:Hp->Prop),Inv X pins σ H s->RelV o ov->RelV i iv->RelV v u->t o i v H Q ->wpAny (model X.prog X.w) X.A (setItem ov iv u) (λ_ s'=>∃H',Inv X pins σ H' s'/\Q H') X.xe s
section
variable {X:Cx}{pos:Pos}
def RV(i:Nat):TG:=λv σ H Q=>Q (σ.set i (some v)) H
theorem Zp{i:Nat}{x:Str}(hN:X.N.Nodup)(hi:X.N[i]?=some x)(hx:Loc X.env.scope x)(hf:X.fn x=true\/X.env.scope.names.lookup x=some .local:=by first|exact .inl rfl|exact .inr rfl|assumption):PG X (.Name x pos) (RV i):=by intro pins s σ H v u Q I r h;exact wpAny_assign_Name (GJ I hN hi hx r (λs' I'=>⟨_,H,I',h⟩) hf)
noncomputable def gNil:TGs:=λvs σ H Q=>vs=[]/\Q σ H
noncomputable def EU(t:TG)(u:TGs):TGs:=λvs σ H Q=>∃v r,vs=v::r/\t v σ H λσ' H'=>u r σ' H' Q
theorem Yt:PGs X [] gNil:=by intro pins s σ H vs us Q I r h;obtain⟨e,h⟩:=h;subst e;cases r;exact assignInOrder_nil ⟨σ,H,I,h⟩
theorem Zt{e:Expr}{es:List Expr}{t:TG}{u:TGs}(h1:PG X e t)(h2:PGs X es u)(hs:(assignEach (e::es) X.env).map (·.2)=assign e X.env::(assignEach es X.env).map (·.2):=by rfl):PGs X (e::es) (EU t u):=by
 intro pins s σ H vs us Q I r h;obtain⟨v,vr,e1,h⟩:=h;subst e1;cases r with
|cons r rr=>rw[hs];refine assignInOrder_cons (thn (h1 pins s σ H _ _ _ I r h) λ_ s1⟨σ1,H1,I1,q1⟩=>?_);exact h2 pins s1 σ1 H1 _ _ Q I1 rr q1
def gTup(K:PySem.W.Frag)(n:Nat)(t:TGs):TG:=λv σ H Q=>∃a xs,v=.ref a/\SqT K H a xs/\xs.length=n/\t xs σ H Q
theorem Xj{es:List Expr}{k:Nat}{t:TGs}{n:Nat}(hc:X.calm=true)(h:PGs X es t)(hn:(assignEach es X.env).length=n:=by rfl)(hst:(assignEach es X.env).findIdx? (·.1)=none:=by rfl):PG X (.Tuple es k pos) (gTup X.K n t):=by intro pins s σ H v u Q I r hw;obtain⟨a,xs,e1,hq,hl,hw⟩:=hw;subst e1;cases r;obtain⟨its,rv,ht,hz⟩:=I.tuple hq;refine assign_Tuple_tuple (I.ok.hd hc) ht (by simp[hn,<-hl,rv.length]) hst λh' hx=>?_;have I1:Inv X pins σ H {s with heap:=h'}:=I.kept (t':=s.toks) λb o e=>hx b o (Nat.ne_of_lt (Heap.lt_size e)) e;exact h pins _ σ H xs _ Q I1 (by simpa using rv) hw
def gSub(to ti:TE)(t:TSet):TG:=λv σ H Q=>to σ H λo H1=>ti σ H1 λi H2=>t o i v H2 λH3=>Q σ H3
theorem Wv{o i:Expr}{to ti:TE}{t:TSet}(ho:PE X o to)(hi:PE X i ti)(hs:PSet X t)
  (ha:∀v,assign (.Subscript o i pos) X.env v=(do
   let ov <-holding [v] (eval o X.env)
   let iv <-holding [v,ov] (eval i X.env)
   standAt pos
   holding [v,ov,iv] (setItem ov iv v)
   release [v,ov,iv] []):=by intro _;rfl):PG X (.Subscript o i pos) (gSub to ti t):=by
 intro pins s σ H v u Q I r h
 rw[ha]
 refine wpAny_bind (wpAny_holding (thn (ho pins s σ H _ I h) λov s1⟨x,H1,I1,r1,q1⟩=>?_))
 refine wpAny_bind (wpAny_holding (thn (hi pins s1 σ H1 _ I1 q1) λiv s2⟨y,H2,I2,r2,q2⟩=>?_))
 refine wpAny_bind (wpAny_standAt (wpAny_bind (wpAny_holding (thn (hs pins s2 σ H2 x y v ov iv u _ I2 r1 r2 r q2) λ_ s3⟨H3,I3,q3⟩=>?_))))
 exact wpAny_release ⟨σ,H3,I3,q3⟩
def tAsg(te:TE)(g:TG):TS:=λD σ H=>te σ H λx H1=>g x σ H1 D.nx
theorem UK{tg e:Expr}{te:TE}{g:TG}(he:PE X e te)(hg:PG X tg g)(hs:swapsWithSole [tg] e pos.line X.env=pure false:=by rfl)(hw:swappedStores [tg] e X.env=pure none:=by rfl)(h1:(assignEach [tg] X.env).map (·.2)=[assign tg X.env]:=by rfl):PS X (.Assign [tg] e pos) (tAsg te g):=by intro pins s σ H D I h;refine wpAny_Assign_stores (thn (he pins s σ H _ I h) λv s1⟨x,H1,I1,r1,q1⟩=>?_) hs hw;rw[h1];exact thn (hg pins s1 σ H1 x v _ I1 r1 q1) λ_ s2 q=>q
theorem Yl{i:Nat}{x:Str}{e:Expr}{te:TE}{pos':Pos}(hN:X.N.Nodup)(hi:X.N[i]?=some x)(hx:Loc X.env.scope x)(he:PE X e te)(hs:swapsWith e (some (.Name x pos')) pos.line X.env=pure false:=by rfl)(hf:X.fn x=true\/X.env.scope.names.lookup x=some .local:=by first|exact .inl rfl|exact .inr rfl|assumption):PS X (.Assign [.Name x pos'] e pos) (tAsg te (RV i)):=by intro pins s σ H D I h;refine wpAny_Assign_Name (thn (he pins s σ H _ I h) λv s1⟨y,H1,I1,r1,q1⟩=>?_) hs;exact GJ I1 hN hi hx r1 (λs2 I2=>⟨_,H1,I2,q1⟩) hf
end
structure It where
 go:Nat->Hp->Prop
 yld:Nat->Hp->V->Hp->Prop
 stop:Nat->Hp->Prop
def FpOk(X:Cx)(pins:List (Addr×Obj))(H:Hp)(b:Addr):Prop:=H b=none/\b≠X.env.locals/\b∉X.fs/\(b∈X.ex\/X.s₀.heap.objs.size<=b)/\(∀x c,X.env.cells.lookup x=some c->c≠b)/\∀p∈X.pn++pins,p.1≠b
theorem Inv.fpOk{X:Cx}{pins:List (Addr×Obj)}{σ:St}{H H':Hp}{s:Shared}{b:Addr}(I:Inv X pins σ H s)(hb:s.heap.objs.size<=b)(hn:H' b=none):FpOk X pins H' b:=by
 refine⟨hn,Nat.ne_of_gt (Nat.lt_of_lt_of_le I.lt hb),I.nofs hb,.inr (Nat.le_trans I.sz hb),λx c e z=>?_,λp hp z=>?_⟩
 ·obtain⟨v,q⟩:=I.cell x c e;exact absurd (Nat.lt_of_lt_of_le q.lt (by rw[z];exact hb)) (Nat.lt_irrefl _)
 ·exact absurd (Nat.lt_of_lt_of_le (Heap.lt_size (I.pin p hp).1) (by rw[z];exact hb)) (Nat.lt_irrefl _)
structure Turn(P:Program)(w:World)(K:PySem.W.Frag)(tg:Expr)(J:It)(fp:List Addr)(it:Addr)(tn:Nat->Heap->Prop):Prop where
 mem:it∈fp
 obj:∀i h,tn i h->∀b∈fp,∃o,h.get? b=some o/\∀v,o.data≠.cell v
 keep:∀i h h',tn i h->(∀b∈fp,∀o,h.get? b=some o->h'.get? b=some o)->tn i h'
 item:∀(X:Cx),X.prog=P->X.w=w->X.K=K->X.calm=true->∀(i:Nat)(pins:List (Addr×Obj))(s:Shared)(σ:St)(H:Hp)(E:Value->Shared->Prop),Inv X pins σ H s->(∀b∈fp,FpOk X pins H b)->tn i s.heap->J.go i H ->
  wpAny (model P w) X.A (pyNext (.ref it)) (λr s1=>∃u,r=some u /\
   wpAny (model P w) X.A (letOwnedTupleGo tg (.ref it) u) (λ_ s2=>∃x H',Inv X pins σ H' s2/\RelV x u/\J.yld i H x H'/\tn (i+1) s2.heap/\∀b∈fp,H' b=none) E s1) E s
 done:∀(X:Cx),X.prog=P->X.w=w->X.K=K->X.calm=true->∀(i:Nat)(pins:List (Addr×Obj))(s:Shared)(σ:St)(H:Hp)(E:Value->Shared->Prop),Inv X pins σ H s->(∀b∈fp,FpOk X pins H b)->tn i s.heap->J.stop i H ->
  wpAny (model P w) X.A (pyNext (.ref it)) (λr s1=>r=none/\Inv X pins σ H s1) E s
 self:∀(A:Around)(i:Nat)(s:Shared)(Q:Value->Shared->Prop)(E:Value->Shared->Prop),tn i s.heap->Q (.ref it) s->wpAny (model P w) A (pyIter (.ref it)) Q E s
noncomputable abbrev TI:=St->Hp->(It->Hp->Prop)->Prop
def PIE(X:Cx)(pins:List (Addr×Obj))(σ:St)(tg:Expr)(R:It->Hp->Prop)(itv:Value)(s2:Shared):Prop:=∃(it:Addr)(fp:List Addr)(tn:Nat->Heap->Prop)(J:It)(H':Hp),itv=.ref it/\Inv X pins σ H' s2/\Turn X.prog X.w X.K tg J fp it tn/\tn 0 s2.heap/\(∀b∈fp,FpOk X pins H' b)/\R J H'
def PI(X:Cx)(tg iter:Expr)(wi:TI):Prop:=∀(pins:List (Addr×Obj))(s:Shared)(σ:St)(H:Hp)(R:It->Hp->Prop),Inv X pins σ H s->wi σ H R ->wpAny (model X.prog X.w) X.A (eval iter X.env) (λv s1=>wpAny (model X.prog X.w) X.A (pyIter v) (PIE X pins σ tg R) X.xe s1) X.xe s
theorem RT{M:Model}{A:Around}{E:Value->Shared->Prop}{s:Shared}{tg:Expr}{it:Addr}{u:Value}{o:Obj}{n:String}{vs:Array Value}{Q:Unit->Shared->Prop}(ho:s.heap.get? it=some o)(hc:o.cls=.type n)(hd:o.data=.fields vs)(hn:["enumerate","zip","dict_itemiterator","dict_reverseitemiterator","odict_iterator","itertools.zip_longest","itertools.pairwise"].contains n=false)(hQ:Q () s):wpAny M A (letOwnedTupleGo tg (.ref it) u) Q E s:=by
 unfold letOwnedTupleGo;cases tg<;>first
 |exact wpAny_pure hQ
 |(cases u<;>first
   |exact wpAny_pure hQ
   |(refine wpAny_bind (wpAny_load ho ?_);rw[hc,hd];show wpAny M A (if(["enumerate","zip","dict_itemiterator","dict_reverseitemiterator","odict_iterator","itertools.zip_longest","itertools.pairwise"].contains n&&vs[0]?==some (rawInt _))=true then _ else _) Q E s;rw[if_neg (by intro h;rw[hn,Bool.false_and]at h;cases h)];exact wpAny_pure hQ))
noncomputable def Itl(K:PySem.W.Frag)(a:Addr):It:=⟨λi H=>∃xs x,SqL K H a xs/\xs[i]?=some x,λi H x H'=>H'=H/\∀xs,SqL K H a xs->xs[i]?=some x,λi H=>∃xs,SqL K H a xs/\xs.length<=i⟩
noncomputable def Itt(K:PySem.W.Frag)(a:Addr):It:=⟨λi H=>∃xs x,SqT K H a xs/\xs[i]?=some x,λi H x H'=>H'=H/\∀xs,SqT K H a xs->xs[i]?=some x,λi H=>∃xs,SqT K H a xs/\xs.length<=i⟩
noncomputable def Itr(lo:Int)(n:Nat):It:=⟨λi _=>i<n,λi H x H'=>H'=H/\x=.int (lo+i),λi _=>n<=i⟩
theorem Sr{P:Program}{w:World}{K:PySem.W.Frag}{tg:Expr}(a it:Addr):Turn P w K tg (Itl K a) [it] it (λi h=>h.IsListIter it a i) where
 mem:=by simp
 obj:=λi h st b hb=>by
  have e:b=it:=by simpa using hb
  subst e
  obtain⟨o,e,c,d⟩:=st
  exact⟨o,e,λv z=>by rw[d]at z;cases z⟩
 keep:=λi h h' st k=>st.at λo e=>k it (by simp) o e
 item:=by
  intro X hP hw hK hc i pins s σ H E I hf st hg
  subst hP hw hK
  obtain⟨xs,x,hq,hx⟩:=hg
  obtain⟨its,rv,p,hz⟩:=I.list hq
  obtain⟨u,hu,ru⟩:=rv.get hx
  obtain⟨f0,f1,f2,f3,f4,f5⟩:=hf it (by simp)
  refine wpAny_pyNext_list_item st p.isList (x:=u) (by simpa using hu) λh' st' sb=>?_
  have I1:Inv X pins σ H {s with heap:=h'}:=I.turned (t':=s.toks) (λb o hb e=>(sb.2 b hb).trans e) f0 f1 f3 f4 f5
  obtain⟨o,e,c,d⟩:=id st'
  exact⟨u,rfl,RT (s:={s with heap:=h'}) e c d (by decide) ⟨x,H,I1,ru,⟨rfl,λys hy=>by rw[I.list_inj hy hq];exact hx⟩,st',λb hb=>(hf b hb).1⟩⟩
 done:=by
  intro X hP hw hK hc i pins s σ H E I hf st hg
  subst hP hw hK
  obtain⟨xs,hq,hx⟩:=hg
  obtain⟨its,rv,p,hz⟩:=I.list hq
  obtain⟨f0,f1,f2,f3,f4,f5⟩:=hf it (by simp)
  have hl:=rv.length
  exact wpAny_pyNext_list_end (I.ok.hd hc) st p.isList (by simp;omega) λh' eb=>⟨rfl,I.turned (t':=s.toks) (λb o hb e=>eb b o hb e) f0 f1 f3 f4 f5⟩
 self:=λ_ _ _ _ _ st h=>wpAny_pyIter_listiter st h
theorem Qj{P:Program}{w:World}{K:PySem.W.Frag}{tg:Expr}(a it:Addr):Turn P w K tg (Itt K a) [it] it (λi h=>h.IsTupleIter it a i) where
 mem:=by simp
 obj:=λi h st b hb=>by
  have e:b=it:=by simpa using hb
  subst e
  obtain⟨o,e,c,d⟩:=st
  exact⟨o,e,λv z=>by rw[d]at z;cases z⟩
 keep:=λi h h' st k=>st.at λo e=>k it (by simp) o e
 item:=by
  intro X hP hw hK hc i pins s σ H E I hf st hg
  subst hP hw hK
  obtain⟨xs,x,hq,hx⟩:=hg
  obtain⟨its,rv,p,hz⟩:=I.tuple hq
  obtain⟨u,hu,ru⟩:=rv.get hx
  obtain⟨f0,f1,f2,f3,f4,f5⟩:=hf it (by simp)
  refine wpAny_pyNext_tuple_item st (show s.heap.IsTuple a its.toArray from p) (x:=u) (by simpa using hu) λh' st' sb=>?_
  have I1:Inv X pins σ H {s with heap:=h'}:=I.turned (t':=s.toks) (λb o hb e=>(sb.2 b hb).trans e) f0 f1 f3 f4 f5
  obtain⟨o,e,c,d⟩:=id st'
  exact⟨u,rfl,RT (s:={s with heap:=h'}) e c d (by decide) ⟨x,H,I1,ru,⟨rfl,λys hy=>by rw[I.tuple_inj hy hq];exact hx⟩,st',λb hb=>(hf b hb).1⟩⟩
 done:=by
  intro X hP hw hK hc i pins s σ H E I hf st hg
  subst hP hw hK
  obtain⟨xs,hq,hx⟩:=hg
  obtain⟨its,rv,p,hz⟩:=I.tuple hq
  obtain⟨f0,f1,f2,f3,f4,f5⟩:=hf it (by simp)
  have hl:=rv.length
  exact wpAny_pyNext_tuple_end (I.ok.hd hc) st (show s.heap.IsTuple a its.toArray from p) (by simp;omega) λh' eb=>⟨rfl,I.turned (t':=s.toks) (λb o hb e=>eb b o hb e) f0 f1 f3 f4 f5⟩
 self:=λ_ _ _ _ _ st h=>wpAny_pyIter_tupleiter st h
theorem Qk{P:Program}{w:World}{K:PySem.W.Frag}{tg:Expr}(it:Addr)(lo:Int)(n:Nat):Turn P w K tg (Itr lo n) [it] it (λi h=>IsRangeIter h it (lo+(i:Nat)*1) ((n:Int)-(i:Nat)) 1) where
 mem:=by simp
 obj:=λi h st b hb=>by
  have e:b=it:=by simpa using hb
  subst e
  exact⟨_,st,λv z=>by
   have z':Data.fields _=Data.cell v:=z
   cases z'⟩
 keep:=λi h h' st k=>k it (by simp) _ st
 item:=by
  intro X hP hw hK hc i pins s σ H E I hf st hg
  subst hP hw hK
  obtain⟨f0,f1,f2,f3,f4,f5⟩:=hf it (by simp)
  have W:=Walks.range (prog:=X.prog) (w:=X.w) (I.ok.hd hc) it lo 1 n
  refine W.item i s _ _ hg st λv h' tk hv st' kk=>?_
  obtain⟨t,rfl⟩:=hv
  have I1:Inv X pins σ H {s with heap:=h',toks:=tk}:=I.turned (λb o hb e=>kk b o (by simpa using hb) e) f0 f1 f3 f4 f5
  refine⟨_,rfl,RT (s:={s with heap:=h',toks:=tk}) (n:="range_iterator") st' rfl rfl (by decide) ⟨.int (lo+i),H,I1,⟨t,?_⟩,⟨rfl,rfl⟩,st',λb hb=>(hf b hb).1⟩⟩
  rw[Int.mul_one]
 done:=by
  intro X hP hw hK hc i pins s σ H E I hf st hg
  subst hP hw hK
  obtain⟨f0,f1,f2,f3,f4,f5⟩:=hf it (by simp)
  exact wpAny_pyNext_range_end (I.ok.hd hc) st (by have:n<=i:=hg;omega) λh' eb=>⟨rfl,I.turned (t':=s.toks) (λb o hb e=>eb b o hb e) f0 f1 f3 f4 f5⟩
 self:=λ_ _ _ _ _ st h=>wpAny_pyIter_rangeiter st h
open PySem PySem.Spec PyProof.Rows
section
variable {X:Cx}{tg:Expr}
noncomputable def ER(K:PySem.W.Frag)(tl:TE):TI:=λσ H R=>tl σ H λx H1=>∃a,x=.ref a/\(∃xs,SqL K H1 a xs)/\R (Itl K a) H1
noncomputable def iTup(K:PySem.W.Frag)(tl:TE):TI:=λσ H R=>tl σ H λx H1=>∃a,x=.ref a/\(∃xs,SqT K H1 a xs)/\R (Itt K a) H1
theorem Yo{l:Expr}{tl:TE}(hl:PE X l tl):PI X tg l (ER X.K tl):=by
 intro pins s σ H R I h;refine thn (hl pins s σ H _ I h) λv s1⟨x,H1,I1,r1,q1⟩=>?_;obtain⟨a,e,⟨xs,hq⟩,q⟩:=q1;subst e;cases r1;obtain⟨its,rv,p,hz⟩:=I1.list hq;refine wpAny_pyIter_list p.isList ?_;refine⟨s1.heap.objs.size,[s1.heap.objs.size],_,_,H1,rfl,I1.kept (t':=s1.toks) λb o e=>Heap.get?_push_of_some _ e,Sr a _,⟨_,Heap.get?_push_size _ rfl,rfl,rfl⟩,λb hb=>?_,q⟩;have e:b=s1.heap.objs.size:=by simpa using hb
 subst e;exact I1.fpOk (Nat.le_refl _) (I1.hok.fresh (Nat.le_refl _))
theorem Dr{l:Expr}{tl:TE}(hl:PE X l tl):PI X tg l (iTup X.K tl):=by
 intro pins s σ H R I h;refine thn (hl pins s σ H _ I h) λv s1⟨x,H1,I1,r1,q1⟩=>?_;obtain⟨a,e,⟨xs,hq⟩,q⟩:=q1;subst e;cases r1;obtain⟨its,rv,p,hz⟩:=I1.tuple hq;refine wpAny_pyIter_tuple (show s1.heap.IsTuple a its.toArray from p) ?_;refine⟨s1.heap.objs.size,[s1.heap.objs.size],_,_,H1,rfl,I1.kept (t':=s1.toks) λb o e=>Heap.get?_push_of_some _ e,Qj a _,⟨_,Heap.get?_push_size _ rfl,rfl,rfl⟩,λb hb=>?_,q⟩;have e:b=s1.heap.objs.size:=by simpa using hb
 subst e;exact I1.fpOk (Nat.le_refl _) (I1.hok.fresh (Nat.le_refl _))
theorem Po{pins:List (Addr×Obj)}{σ:St}{H:Hp}{s:Shared}{R:It->Hp->Prop}{E:Value->Shared->Prop}{lo hi:Int}{t u v:Tok}{tk:Nat}(I:Inv X pins σ H s)(h1:-(2 ^ 62)<=lo)(h2:lo<2 ^ 62)(h3:-(2 ^ 62)<=hi)(h4:hi<2 ^ 62)(q:R (Itr lo (hi-lo).toNat) H):wpAny (model X.prog X.w) X.A (pyIter (.ref s.heap.objs.size)) (PIE X pins σ tg R) E {s with heap:=s.heap.push {cls:=.type "range",data:=.fields #[.int lo t,.int hi u,.int 1 v]},toks:=tk}:=by
 refine wpAny_pyIter_range (IsRange.new ..) (small_one h1 h2 h3 h4) ?_;have I1:Inv X pins σ H {s with heap:=s.heap.push {cls:=.type "range",data:=.fields #[.int lo t,.int hi u,.int 1 v]},toks:=tk}:=I.kept λb o e=>Heap.get?_push_of_some _ e;refine⟨(s.heap.push {cls:=.type "range",data:=.fields #[.int lo t,.int hi u,.int 1 v]}).objs.size,[(s.heap.push {cls:=.type "range",data:=.fields #[.int lo t,.int hi u,.int 1 v]}).objs.size],_,_,H,rfl,I1.kept (t':=tk) λb o e=>Heap.get?_push_of_some _ e,Qk _ lo (hi-lo).toNat,?_,λb hb=>?_,q⟩
 ·have e1:lo+((0:Nat):Int)*1=lo:=by simp
  have e2:(((hi-lo).toNat:Nat):Int)-((0:Nat):Int)=Builtin.Range.rangeSize lo hi 1:=by rw[rangeSize_one];split<;>omega
  show IsRangeIter _ _ (lo+((0:Nat):Int)*1) ((((hi-lo).toNat:Nat):Int)-((0:Nat):Int)) 1;rw[e1,e2];exact Heap.get?_push_size _ rfl
 ·have e:b=(s.heap.push {cls:=.type "range",data:=.fields #[.int lo t,.int hi u,.int 1 v]}).objs.size:=by simpa using hb
  subst e;exact I1.fpOk (Nat.le_refl _) (I1.hok.fresh (Nat.le_refl _))
noncomputable def EO(ta:TA):TI:=λσ H R=>ta σ H λvs H1=>∃j:Int,vs=[.int j]/\-(2 ^ 62)<=j/\j<2 ^ 62/\R (Itr 0 j.toNat) H1
noncomputable def EN(ta:TA):TI:=λσ H R=>ta σ H λvs H1=>∃i j:Int,vs=[.int i,.int j]/\(-(2 ^ 62)<=i/\i<2 ^ 62/\-(2 ^ 62)<=j/\j<2 ^ 62)/\R (Itr i (j-i).toNat) H1
theorem Yy{a:Expr}{ta:TA}{p pos:Pos}(hg:Gl X "range")(hm:X.mg "range"=none)(ha:PA X [a] ta)(hs:starEach [a] X.env=[(false,eval a X.env)]:=by rfl):PI X tg (.Call (.Name "range" p) [a] [] pos) (EO ta):=by
 intro pins s σ H R I h;refine Call_ (JE I hg hm boot_range (PyProof.Rows.callWith_type1 (thn (ha pos pins s σ H _ I h) λus s1⟨vs,H1,I1,r1,q1⟩=>?_) hs rfl));obtain⟨j,e,q1,q2,q⟩:=q1;subst e;cases r1 with
|cons r rr=>cases rr;obtain⟨t,rfl⟩:=r;exact call_range_1 (Po I1 (by omega) (by omega) q1 q2 (by simpa using q))
theorem SI{a b:Expr}{ta:TA}{p pos:Pos}(hg:Gl X "range")(hm:X.mg "range"=none)(ha:PA X [a,b] ta)(hs:starEach [a,b] X.env=[(false,eval a X.env),(false,eval b X.env)]:=by rfl)(hs2:starEach [b] X.env=[(false,eval b X.env)]:=by rfl):PI X tg (.Call (.Name "range" p) [a,b] [] pos) (EN ta):=by
 intro pins s σ H R I h;refine Call_ (JE I hg hm boot_range (PyProof.Rows.callWith_type1 (thn (ha pos pins s σ H _ I h) λus s1⟨vs,H1,I1,r1,q1⟩=>?_) (by rw[hs,hs2]) (by rw[hs2];rfl)));obtain⟨i,j,e,⟨q1,q2,q3,q4⟩,q⟩:=q1;subst e;cases r1 with
|cons r rr=>
  cases rr with
 |cons r' rr=>cases rr;obtain⟨t,rfl⟩:=r;obtain⟨t',rfl⟩:=r';exact call_range_2 (Po I1 q1 q2 q3 q4 q)
def tFor(wi:TI)(g:TG)(tb:TS):TS:=λD σ H=>wi σ H λJ H1=>∃W:Nat->Nat->St->Hp->Prop,(∃m,W 0 m σ H1)/\∀i m σ H,W i m σ H ->(J.stop i H/\D.nx σ H)\/(J.go i H/\∃N:St->Hp->Prop,(∀σ' H',N σ' H'->∃m',m'<m/\W (i+1) m' σ' H')/\∀x H',J.yld i H x H'->g x σ H' λσ2 H2=>tb {D with nx:=N,ct:=N,bk:=D.nx} σ2 H2)
noncomputable def UL(fp:List Addr)(h:Heap):List (Addr×Obj):=fp.filterMap λb=>(h.get? b).map λo=>(b,o)
theorem mem_pinsAt{fp:List Addr}{h:Heap}{b:Addr}{o:Obj}(hb:b∈fp)(e:h.get? b=some o):(b,o)∈UL fp h:=List.mem_filterMap.mpr ⟨b,hb,by rw[e];rfl⟩
theorem SJ{fp:List Addr}{h:Heap}{p:Addr×Obj}(hp:p∈UL fp h):p.1∈fp/\h.get? p.1=some p.2:=by
 obtain⟨b,hb,e⟩:=List.mem_filterMap.mp hp;cases q:h.get? b with
|none=>rw[q]at e;cases e
|some o=>rw[q]at e;have e':(b,o)=p:=Option.some.inj e;subst e';exact⟨hb,q⟩
theorem Inv.pinned{pins:List (Addr×Obj)}{σ:St}{H:Hp}{s:Shared}{fp:List Addr}(I:Inv X pins σ H s)(hf:∀b∈fp,FpOk X pins H b)(ho:∀b∈fp,∃o,s.heap.get? b=some o/\∀v,o.data≠.cell v):Inv X (pins++UL fp s.heap) σ H s:=I.pins_of λp hp=>(List.mem_append.mp hp).elim (λz=>I.pin p (List.mem_append_right _ z)) λz=>by obtain⟨hb,e⟩:=SJ z;obtain⟨f0,f1,f2,_⟩:=hf p.1 hb;obtain⟨o,e',d⟩:=ho p.1 hb;rw[e]at e';cases e';exact⟨e,f0,f1,f2,d⟩
theorem Inv.unpinned{pins pl:List (Addr×Obj)}{σ:St}{H:Hp}{s:Shared}(I:Inv X (pins++pl) σ H s):Inv X pins σ H s:=I.pins_of λp hp=>I.pin p (List.mem_append_right _ (List.mem_append_left _ hp))
theorem YO{iter:Expr}{body:List Stmt}{wi:TI}{g:TG}{tb:TS}{pos:Pos}(hp:PassesOwn (model X.prog X.w) X.A X.env X.xe)(hc:X.calm=true)(hi:PI X tg iter wi)(hg:PG X tg g)(hb:PSs X body tb)(hs:∀x,foldedSetIterable iter X.env x=pure x:=by intro _;rfl):PS X (.For tg iter body [] pos) (tFor wi g tb):=by
 intro pins s σ H D I h;refine wpAny_For (thn (hi pins s σ H _ I h) λv s1 h1=>thn h1 λitv s2 h2=>?_) hs;obtain⟨it,fp,tn,J,H2,e,I2,T,st2,f2,W,⟨m0,w0⟩,turn⟩:=h2;subst e;have stat:∀{H':Hp},(∀b∈fp,H' b=none)->∀b∈fp,FpOk X pins H' b:=λhn b hb=>⟨hn b hb,(f2 b hb).2⟩;refine codeAny_forLoop_any (λn s'=>∃i σ' H',Inv X pins σ' H' s'/\tn i s'.heap/\(∀b∈fp,H' b=none)/\W i n σ' H') ?_ m0 ⟨0,σ,H2,I2,st2,λb hb=>(f2 b hb).1,w0⟩;rintro n s3 ⟨i,σ3,H3,I3,st3,fr3,w3⟩;rcases turn i n σ3 H3 w3 with⟨stop,qn⟩|⟨go,N,hN,step⟩
 ·refine wpAny_passesOwn hp (thn (T.done X rfl rfl rfl hc i pins s3 σ3 H3 X.xe I3 (stat fr3) st3 stop) λr s4⟨hr,I4⟩=>?_);subst hr;exact wpAny_execs_nil ⟨σ3,H3,I4,qn⟩
 ·refine wpAny_passesOwn hp (thn (T.item X rfl rfl rfl hc i pins s3 σ3 H3 X.xe I3 (stat fr3) st3 go) λr s4⟨u,hr,h4⟩=>?_);subst hr;refine wpAny_passesOwn hp (thn h4 λ_ s5⟨x,H5,I5,r5,y5,st5,fr5⟩=>?_);have I5':=I5.pinned (stat fr5) (T.obj _ _ st5);refine wpAny_passesOwn hp (thn (hg _ s5 σ3 H5 x u _ I5' r5 (step x H5 y5)) λ_ s6⟨σ6,H6,I6,q6⟩=>?_);refine wpAny_passesOwn hp (thn (hb _ s6 σ6 H6 _ I6 q6) λf s7 q7=>?_);have again:∀{σ7:St}{H7:Hp},Inv X (pins++UL fp s5.heap) σ7 H7 s7->N σ7 H7->∃m,m<n/\∃i σ' H',Inv X pins σ' H' s7/\tn i s7.heap/\(∀b∈fp,H' b=none)/\W i m σ' H':=λ{σ7 H7}I7 n7=>by obtain⟨m',hm,w7⟩:=hN σ7 H7 n7;refine⟨m',hm,i+1,σ7,H7,I7.unpinned,T.keep _ _ _ st5 λb hb o e=>(I7.pin (b,o) (List.mem_append_right _ (List.mem_append_right _ (mem_pinsAt hb e)))).1,λb hb=>?_,w7⟩;obtain⟨o,e,d⟩:=T.obj _ _ st5 b hb;exact(I7.pin (b,o) (List.mem_append_right _ (List.mem_append_right _ (mem_pinsAt hb e)))).2.1
  cases f with
 |next=>obtain⟨σ7,H7,I7,n7⟩:=q7;exact again I7 n7
 |cont=>obtain⟨σ7,H7,I7,n7⟩:=q7;exact again I7 n7
 |brk=>obtain⟨σ7,H7,I7,q7⟩:=q7;exact⟨σ7,H7,I7.unpinned,q7⟩
 |ret v=>obtain⟨x7,σ7,H7,I7,r7,q7⟩:=q7;exact⟨x7,σ7,H7,I7.unpinned,r7,q7⟩
end
theorem PL{K:PySem.W.Frag}{a:Addr}{xs:List V}{g:TG}{tb:TS}{D:Ends}{σ:St}{H:Hp}(Pv:Nat->St->Hp->Prop)(h0:Pv 0 σ H)(hl:∀i σ H,i<=xs.length->Pv i σ H->SqL K H a xs)(hs:∀i x σ H,xs[i]?=some x->Pv i σ H->g x σ H λσ2 H2=>tb {D with nx:=Pv (i+1),ct:=Pv (i+1),bk:=D.nx} σ2 H2)(hd:∀σ H,Pv xs.length σ H->D.nx σ H):∃W:Nat->Nat->St->Hp->Prop,(∃m,W 0 m σ H)/\∀i m σ H,W i m σ H ->((Itl K a).stop i H/\D.nx σ H)\/((Itl K a).go i H/\∃N:St->Hp->Prop,(∀σ' H',N σ' H'->∃m',m'<m/\W (i+1) m' σ' H')/\∀x H',(Itl K a).yld i H x H'->g x σ H' λσ2 H2=>tb {D with nx:=N,ct:=N,bk:=D.nx} σ2 H2):=by
 refine⟨λi m σ H=>m=xs.length-i/\i<=xs.length/\Pv i σ H,⟨xs.length,by simp,Nat.zero_le _,h0⟩,?_⟩;rintro i m σ H ⟨rfl,hi,p⟩;have q:=hl i σ H hi p;by_cases hlt:i<xs.length
 ·refine .inr ⟨⟨xs,xs[i],q,by simp[hlt]⟩,Pv (i+1),λσ' H' p'=>⟨xs.length-(i+1),by omega,rfl,hlt,p'⟩,λx H' y=>?_⟩;obtain⟨e,y⟩:=y;subst e;exact hs i x σ _ (y xs q) p
 ·have e:i=xs.length:=by omega
  subst e;exact .inl ⟨⟨xs,q,Nat.le_refl _⟩,hd σ H p⟩
theorem JV{lo:Int}{n:Nat}{g:TG}{tb:TS}{D:Ends}{σ:St}{H:Hp}(Pv:Nat->St->Hp->Prop)(h0:Pv 0 σ H)(hs:∀i σ H,i<n->Pv i σ H->g (.int (lo+i)) σ H λσ2 H2=>tb {D with nx:=Pv (i+1),ct:=Pv (i+1),bk:=D.nx} σ2 H2)(hd:∀σ H,Pv n σ H->D.nx σ H):∃W:Nat->Nat->St->Hp->Prop,(∃m,W 0 m σ H)/\∀i m σ H,W i m σ H ->((Itr lo n).stop i H/\D.nx σ H)\/((Itr lo n).go i H/\∃N:St->Hp->Prop,(∀σ' H',N σ' H'->∃m',m'<m/\W (i+1) m' σ' H')/\∀x H',(Itr lo n).yld i H x H'->g x σ H' λσ2 H2=>tb {D with nx:=N,ct:=N,bk:=D.nx} σ2 H2):=by
 refine⟨λi m σ H=>m=n-i/\i<=n/\Pv i σ H,⟨n,by simp,Nat.zero_le _,h0⟩,?_⟩;rintro i m σ H ⟨rfl,hi,p⟩;by_cases hlt:i<n
 ·refine .inr ⟨hlt,Pv (i+1),λσ' H' p'=>⟨n-(i+1),by omega,rfl,hlt,p'⟩,λx H' y=>?_⟩;obtain⟨e,y⟩:=y;subst e y;exact hs i σ _ hlt p
 ·have e:i=n:=by omega
  subst e;exact .inl ⟨Nat.le_refl _,hd σ H p⟩
open PySem PySem.Spec PyProof.Rows
noncomputable abbrev R2:=V->V->Hp->VK->Prop
def OpR(X:Cx)(f:Value->Value->Sem Value)(r:R2):Prop:=∀(pins:List (Addr×Obj))(s:Shared)(σ:St)(H:Hp)(x y:V)(v u:Value)(Q:VK),Inv X pins σ H s->RelV x v->RelV y u->r x y H Q ->wpAny (model X.prog X.w) X.A (f v u) (EP X pins σ Q) X.xe s
def UnR(X:Cx)(f:Value->Sem Value)(r:V->Hp->VK->Prop):Prop:=∀(pins:List (Addr×Obj))(s:Shared)(σ:St)(H:Hp)(x:V)(v:Value)(Q:VK),Inv X pins σ H s->RelV x v->r x H Q ->wpAny (model X.prog X.w) X.A (f v) (EP X pins σ Q) X.xe s
def YK(X:Cx)(f:Value)(r:List V->Hp->VK->Prop):Prop:=∀(pins:List (Addr×Obj))(s:Shared)(σ:St)(H:Hp)(xs:List V)(us:List Value)(Q:VK),Inv X pins σ H s->Vals xs us->r xs H Q ->wpAny (model X.prog X.w) X.A (call f us) (EP X pins σ Q) X.xe s
def TruR(X:Cx)(r:V->Hp->(Bool->Hp->Prop)->Prop):Prop:=∀(pins:List (Addr×Obj))(s:Shared)(σ:St)(H:Hp)(x:V)(v:Value)(Q:Bool->Hp->Prop),Inv X pins σ H s->RelV x v->r x H Q ->wpAny (model X.prog X.w) X.A (truthy v) (TP X pins σ Q) X.xe s
def tOp(r:R2)(ta tb:TE):TE:=λσ H Q=>ta σ H λx H1=>tb σ H1 λy H2=>r x y H2 Q
def tUn(r:V->Hp->VK->Prop)(ta:TE):TE:=λσ H Q=>ta σ H λx H1=>r x H1 Q
def rI(C:Int->Int->Prop)(g:Int->Int->V):R2:=λx y H Q=>∃i j,x=.int i/\y=.int j/\C i j/\Q (g i j) H
def rI0(g:Int->Int->V):R2:=λx y H Q=>∃i j,x=.int i/\y=.int j/\Q (g i j) H
noncomputable def rU(g:Int->V):V->Hp->VK->Prop:=λx H Q=>∃i,x=.int i/\Q (g i) H
section
variable {X:Cx}{a b c:Expr}{ta tb tc:TE}{pos:Pos}
theorem binT(ha:PE X a ta)(hb:PE X b tb){pins:List (Addr×Obj)}{s:Shared}{σ:St}{H:Hp}{R:V->V->Hp->Prop}(I:Inv X pins σ H s)(h:ta σ H λx H1=>tb σ H1 λy H2=>R x y H2){Q:Value->Shared->Prop}{f:Value->Value->Sem Value}(hf:∀v u s2 x y H2,Inv X pins σ H2 s2->RelV x v->RelV y u->R x y H2->wpAny (model X.prog X.w) X.A (f v u) Q X.xe s2):wpAny (model X.prog X.w) X.A (eval a X.env) (λv s₁=>wpAny (model X.prog X.w) X.A (eval b X.env) (λu s₂=>wpAny (model X.prog X.w) X.A (f v u) Q X.xe s₂) X.xe s₁) X.xe s:=by refine thn (ha pins s σ H _ I h) λv s1⟨x,H1,I1,r1,q1⟩=>?_;refine thn (hb pins s1 σ H1 _ I1 q1) λu s2⟨y,H2,I2,r2,q2⟩=>?_;exact hf v u s2 x y H2 I2 r1 r2 q2
theorem Zx{op:Operator}{r:R2}(ho:OpR X (binaryOp op) r)(ha:PE X a ta)(hb:PE X b tb):PE X (.BinOp a op b pos) (tOp r ta tb):=by intro pins s σ H Q I h;exact wpAny_BinOp (binT ha hb I h λv u s2 x y H2 I2 rx ry q=>ho pins s2 σ H2 x y v u Q I2 rx ry q)
theorem VF{op:UnaryOp}{r:V->Hp->VK->Prop}(ho:UnR X (unaryOp op) r)(ha:PE X a ta):PE X (.UnaryOp op a pos) (tUn r ta):=by intro pins s σ H Q I h;exact UnaryOp_ (thn (ha pins s σ H _ I h) λv s1⟨x,H1,I1,r1,q1⟩=>ho pins s1 σ H1 x v Q I1 r1 q1)
theorem opI{f:Value->Value->Sem Value}{C:Int->Int->Prop}{g:Int->Int->Int}(rule:∀(i j:Int)(t u:Tok)(s:Shared)(Q:Value->Shared->Prop)(E:Value->Shared->Prop),C i j->Q (.int (g i j) s.toks) {s with toks:=s.toks+1}->wpAny (model X.prog X.w) X.A (f (.int i t) (.int j u)) Q E s):OpR X f (rI C λi j=>.int (g i j)):=by intro pins s σ H x y v u Q I rx ry h;obtain⟨i,j,rfl,rfl,hc,q⟩:=h;obtain⟨t,rfl⟩:=rx;obtain⟨t',rfl⟩:=ry;exact rule i j t t' s _ _ hc ⟨.int (g i j),H,I.tok _,⟨_,rfl⟩,q⟩
theorem opI0{f:Value->Value->Sem Value}{g:Int->Int->Int}(rule:∀(i j:Int)(t u:Tok)(s:Shared)(Q:Value->Shared->Prop)(E:Value->Shared->Prop),Q (.int (g i j) s.toks) {s with toks:=s.toks+1}->wpAny (model X.prog X.w) X.A (f (.int i t) (.int j u)) Q E s):OpR X f (rI0 λi j=>.int (g i j)):=by intro pins s σ H x y v u Q I rx ry h;obtain⟨i,j,rfl,rfl,q⟩:=h;obtain⟨t,rfl⟩:=rx;obtain⟨t',rfl⟩:=ry;exact rule i j t t' s _ _ ⟨.int (g i j),H,I.tok _,⟨_,rfl⟩,q⟩
theorem opB0{f:Value->Value->Sem Value}{g:Int->Int->Bool}(rule:∀(i j:Int)(t u:Tok)(s:Shared)(Q:Value->Shared->Prop)(E:Value->Shared->Prop),Q (.bool (g i j)) s->wpAny (model X.prog X.w) X.A (f (.int i t) (.int j u)) Q E s):OpR X f (rI0 λi j=>.bl (g i j)):=by intro pins s σ H x y v u Q I rx ry h;obtain⟨i,j,rfl,rfl,q⟩:=h;obtain⟨t,rfl⟩:=rx;obtain⟨t',rfl⟩:=ry;exact rule i j t t' s _ _ ⟨.bl (g i j),H,I,rfl,q⟩
def CDiv(i j:Int):Prop:=0<j/\j<1073741824
def CPow(i j:Int):Prop:=0<=j/\j<=1000000/\i.natAbs<2 ^ 64
def CMul(i j:Int):Prop:=(-(2 ^ 64)<i/\i<2 ^ 64)\/(-(2 ^ 64)<j/\j<2 ^ 64)
theorem CMul.ok{i j:Int}(h:CMul i j):IntMulOk i j:=by
 rcases h with⟨h1,h2⟩|⟨h1,h2⟩
 ·exact .of_left (intBits_le_64 h1 h2)
 ·exact .of_right (intBits_le_64 h1 h2)
theorem Z3:OpR X (binaryOp .Add) (rI0 λi j=>.int (i+j)):=opI0 λ_ _ _ _ _ _ _ q=>add_int q
theorem Jk:OpR X (binaryOp .Sub) (rI0 λi j=>.int (i-j)):=opI0 λ_ _ _ _ _ _ _ q=>sub_int q
theorem UN:OpR X (binaryOp .Mult) (rI CMul λi j=>.int (i*j)):=opI λ_ _ _ _ _ _ _ hc q=>mul_int q hc.ok
theorem KZ:OpR X (binaryOp .FloorDiv) (rI CDiv λi j=>.int (i / j)):=opI λi j _ _ _ _ _ hc q=>by have h1:(0:Int)<j:=hc.1;have h2:j<1073741824:=hc.2;exact floordiv_int (by omega) (by rw[Int.fdiv_eq_ediv_of_nonneg i (by omega)];exact q) (.inl (PyProof.noPylong_small (by omega)))
theorem XN:OpR X (binaryOp .Mod) (rI (λ_ j=>0<j) λi j=>.int (i % j)):=opI λi j _ _ _ _ _ hc q=>by have h1:(0:Int)<j:=hc;exact mod_int' (by omega) (by rw[Int.fmod_eq_emod_of_nonneg i (by omega)];exact q)
theorem Dv:OpR X (binaryOp .Pow) (rI CPow λi j=>.int (i ^ j.toNat)):=opI λ_ _ _ _ _ _ _ hc q=>pow_int_small hc.1 hc.2.1 hc.2.2 q
theorem unI{f:Value->Sem Value}{g:Int->Int}(rule:∀(i:Int)(t:Tok)(s:Shared)(Q:Value->Shared->Prop)(E:Value->Shared->Prop),Q (.int (g i) s.toks) {s with toks:=s.toks+1}->wpAny (model X.prog X.w) X.A (f (.int i t)) Q E s):UnR X f (rU λi=>.int (g i)):=by intro pins s σ H x v Q I rx h;obtain⟨i,rfl,q⟩:=h;obtain⟨t,rfl⟩:=rx;exact rule i t s _ _ ⟨.int (g i),H,I.tok _,⟨_,rfl⟩,q⟩
theorem Jd:UnR X (unaryOp .USub) (rU λi=>.int (-i)):=unI λ_ _ _ _ _ q=>neg_int q
noncomputable def scal:V->V->Bool
|.non,.non=>true|.non,.int _=>true|.int _,.non=>true|.non,.bl _=>true|.bl _,.non=>true|.non,.str _=>true|.str _,.non=>true
|.int _,.int _=>true|.bl _,.bl _=>true|.str _,.str _=>true|.byt _,.byt _=>true
|.int _,.str _=>true|.str _,.int _=>true|.bl _,.str _=>true|.str _,.bl _=>true
|_,_=>false
def rEq:R2:=λx y H Q=>scal x y=true/\Q (.bl (decide (x=y))) H
def rNe:R2:=λx y H Q=>scal x y=true/\Q (.bl (!decide (x=y))) H
theorem Sb{i j:Int}:decide (V.int i=V.int j)=(i==j):=by rw[Bool.eq_iff_iff];simp
theorem W7{i j:Bool}:decide (V.bl i=V.bl j)=(i==j):=by rw[Bool.eq_iff_iff];simp
theorem Sa{i j:Str}:decide (V.str i=V.str j)=(i==j):=by rw[Bool.eq_iff_iff];simp
theorem Sd{i j:Array UInt8}:decide (V.byt i=V.byt j)=(i.toList==j.toList):=by rw[Bool.eq_iff_iff];cases i;cases j;simp
theorem ZM{pins:List (Addr×Obj)}{σ:St}{H:Hp}{s:Shared}{Q:VK}{k k':Bool}(I:Inv X pins σ H s)(q:Q (.bl k) H)(e:k=k'):EP X pins σ Q (.bool k') s:=by subst e;exact⟨.bl k,H,I,rfl,q⟩
theorem X4:OpR X (compareOp .Eq) rEq:=by
 intro pins s σ H x y v u Q I rx ry h;obtain⟨hs,q⟩:=h;cases x with
|non=>
  cases rx;cases y with
 |non=>cases ry;exact PySem.EqNone.eq_none_none (ZM I q (by simp))
 |bl j=>cases ry;exact PySem.EqNone.eq_none_bool (ZM I q (by simp))
 |int j=>obtain⟨t',rfl⟩:=ry;exact PySem.EqNone.eq_none_int (ZM I q (by simp))
 |str j=>obtain⟨t',rfl⟩:=ry;exact PySem.EqNone.eq_none_str (ZM I q (by simp))
 |_=>exact absurd (show false=true from hs) Bool.false_ne_true
|bl i=>
  cases rx;cases y with
 |non=>cases ry;exact PySem.EqNone.eq_bool_none (ZM I q (by simp))
 |bl j=>cases ry;exact eq_bool (ZM I q W7)
 |str j=>obtain⟨t',rfl⟩:=ry;exact PySem.EqMixed.eq_bool_str (ZM I q (by simp))
 |_=>exact absurd (show false=true from hs) Bool.false_ne_true
|int i=>
  obtain⟨t,rfl⟩:=rx;cases y with
 |non=>cases ry;exact PySem.EqNone.eq_int_none (ZM I q (by simp))
 |int j=>obtain⟨t',rfl⟩:=ry;exact eq_int (ZM I q Sb)
 |str j=>obtain⟨t',rfl⟩:=ry;exact PySem.EqMixed.eq_int_str (ZM I q (by simp))
 |_=>exact absurd (show false=true from hs) Bool.false_ne_true
|str i=>
  obtain⟨t,rfl⟩:=rx;cases y with
 |non=>cases ry;exact PySem.EqNone.eq_str_none (ZM I q (by simp))
 |bl j=>cases ry;exact PySem.EqMixed.eq_str_bool (ZM I q (by simp))
 |int j=>obtain⟨t',rfl⟩:=ry;exact PySem.EqMixed.eq_str_int (ZM I q (by simp))
 |str j=>obtain⟨t',rfl⟩:=ry;exact eq_str (ZM I q Sa)
 |_=>exact absurd (show false=true from hs) Bool.false_ne_true
|byt i=>
  obtain⟨t,rfl⟩:=rx;cases y with
 |byt j=>obtain⟨t',rfl⟩:=ry;exact PySem.W.eq_bytes (ZM I q Sd)
 |_=>exact absurd (show false=true from hs) Bool.false_ne_true
|_=>cases y<;>exact absurd (show false=true from hs) Bool.false_ne_true
theorem RM:OpR X (compareOp .NotEq) rNe:=by
 intro pins s σ H x y v u Q I rx ry h;obtain⟨hs,q⟩:=h;cases x with
|non=>
  cases rx;cases y with
 |non=>cases ry;exact PySem.EqNone.ne_none_none (ZM I q (by simp))
 |bl j=>cases ry;exact PySem.EqNone.ne_none_bool (ZM I q (by simp))
 |int j=>obtain⟨t',rfl⟩:=ry;exact PySem.EqNone.ne_none_int (ZM I q (by simp))
 |str j=>obtain⟨t',rfl⟩:=ry;exact PySem.EqNone.ne_none_str (ZM I q (by simp))
 |_=>exact absurd (show false=true from hs) Bool.false_ne_true
|bl i=>
  cases rx;cases y with
 |non=>cases ry;exact PySem.EqNone.ne_bool_none (ZM I q (by simp))
 |bl j=>cases ry;exact ne_bool (ZM I q (congrArg not W7))
 |str j=>obtain⟨t',rfl⟩:=ry;exact PySem.EqMixed.ne_bool_str (ZM I q (by simp))
 |_=>exact absurd (show false=true from hs) Bool.false_ne_true
|int i=>
  obtain⟨t,rfl⟩:=rx;cases y with
 |non=>cases ry;exact PySem.EqNone.ne_int_none (ZM I q (by simp))
 |int j=>obtain⟨t',rfl⟩:=ry;exact ne_int (ZM I q (congrArg not Sb))
 |str j=>obtain⟨t',rfl⟩:=ry;exact PySem.EqMixed.ne_int_str (ZM I q (by simp))
 |_=>exact absurd (show false=true from hs) Bool.false_ne_true
|str i=>
  obtain⟨t,rfl⟩:=rx;cases y with
 |non=>cases ry;exact PySem.EqNone.ne_str_none (ZM I q (by simp))
 |bl j=>cases ry;exact PySem.EqMixed.ne_str_bool (ZM I q (by simp))
 |int j=>obtain⟨t',rfl⟩:=ry;exact PySem.EqMixed.ne_str_int (ZM I q (by simp))
 |str j=>obtain⟨t',rfl⟩:=ry;exact ne_str (ZM I q (congrArg not Sa))
 |_=>exact absurd (show false=true from hs) Bool.false_ne_true
|byt i=>
  obtain⟨t,rfl⟩:=rx;cases y with
 |byt j=>obtain⟨t',rfl⟩:=ry;exact PySem.W.ne_bytes (ZM I q (congrArg not Sd))
 |_=>exact absurd (show false=true from hs) Bool.false_ne_true
|_=>cases y<;>exact absurd (show false=true from hs) Bool.false_ne_true
theorem LF:OpR X (compareOp .Lt) (rI0 λi j=>.bl (decide (i<j))):=opB0 λ_ _ _ _ _ _ _ q=>lt_int q
theorem RN:OpR X (compareOp .LtE) (rI0 λi j=>.bl (decide (i<=j))):=opB0 λ_ _ _ _ _ _ _ q=>le_int q
theorem WI:OpR X (compareOp .Gt) (rI0 λi j=>.bl (decide (j<i))):=opB0 λ_ _ _ _ _ _ _ q=>gt_int q
theorem UO:OpR X (compareOp .In) (λx y H Q=>∃i j,x=.str i/\y=.str j/\Q (.bl (!(Builtin.Str.occurrences j i 0 j.length 1).isEmpty)) H):=by intro pins s σ H x y v u Q I rx ry h;obtain⟨i,j,rfl,rfl,q⟩:=h;obtain⟨t,rfl⟩:=rx;obtain⟨t',rfl⟩:=ry;exact in_str (ZM I q rfl)
theorem NJ:OpR X (compareOp .Is) (λx y H Q=>y=.non/\Q (.bl (decide (x=.non))) H):=by
 intro pins s σ H x y v u Q I rx ry h;obtain⟨rfl,q⟩:=h;cases ry;refine is_none_gen (ZM I q ?_);cases x<;>first
 |(cases rx;rfl)
 |(obtain⟨t,rfl⟩:=rx;rfl)
theorem JQ:OpR X (compareOp .IsNot) (λx y H Q=>y=.non/\Q (.bl (!decide (x=.non))) H):=by
 intro pins s σ H x y v u Q I rx ry h;obtain⟨rfl,q⟩:=h;cases ry;refine isnot_none_gen (ZM I q ?_);cases x<;>first
 |(cases rx;rfl)
 |(obtain⟨t,rfl⟩:=rx;rfl)
theorem ZE(b:Expr){op:CmpOp}(h:op≠.In:=by decide)(h2:op≠.NotIn:=by decide):behindInMarks op b=false:=by
 have e1:(op==CmpOp.In)=false:=by cases op<;>first|rfl|exact absurd rfl h
 have e2:(op==CmpOp.NotIn)=false:=by cases op<;>first|rfl|exact absurd rfl h2
 cases b<;>simp[behindInMarks,e1,e2]
theorem YB{op:CmpOp}{r:R2}(ho:OpR X (compareOp op) r)(ha:PE X a ta)(hb:PE X b tb)(hm:behindInMarks op b=false):PE X (.Compare a [op] [b] pos) (tOp r ta tb):=by intro pins s σ H Q I h;exact wpAny_Compare1 (binT ha hb I h λv u s2 x y H2 I2 rx ry q=>ho pins s2 σ H2 x y v u Q I2 rx ry q) hm
def Lw(t:TE):TT:=λσ H Q=>t σ H λx H'=>∃k,x=.bl k/\Q k H'
theorem ZF{op:CmpOp}{r:R2}(ho:OpR X (compareOp op) r)(ha:PE X a ta)(hb:PE X b tb)(hm:behindInMarks op b=false):PT X (.Compare a [op] [b] pos) (Lw (tOp r ta tb)):=by
 intro pins s σ H Q I h;refine wpAny_isTrue_Compare1 (thn (ha pins s σ H _ I h) λv s1⟨x,H1,I1,r1,q1⟩=>thn (hb pins s1 σ H1 _ I1 q1) λu s2⟨y,H2,I2,r2,q2⟩=>thn (ho pins s2 σ H2 x y v u _ I2 r1 r2 q2) λc s3⟨z,H3,I3,r3,k,e,q3⟩=>?_) hm;subst e;cases r3;exact wpAny_truthy_bool ⟨H3,I3,q3⟩
def TZ(r r':R2)(ta tb tc:TE):TE:=λσ H Q=>ta σ H λx H1=>tb σ H1 λy H2=>r x y H2 λz H3=>∃k,z=.bl k /\(if k=true then tc σ H3 λw' H4=>r' y w' H4 Q else Q (.bl false) H3)
theorem WB{op op':CmpOp}{r r':R2}(ho:OpR X (compareOp op) r)(ho':OpR X (compareOp op') r')(ha:PE X a ta)(hb:PE X b tb)(hc:PE X c tc)(hm:lastMarks [op,op'] [b,c]=false:=by with_unfolding_all rfl):PE X (.Compare a [op,op'] [b,c] pos) (TZ r r' ta tb tc):=by
 intro pins s σ H Q I h;refine Compare_chain (thn (ha pins s σ H _ I h) λv s1⟨x,H1,I1,r1,q1⟩=>chain_link (thn (hb pins s1 σ H1 _ I1 q1) λu s2⟨y,H2,I2,r2,q2⟩=>
  thn (ho pins s2 σ H2 x y v u _ I2 r1 r2 q2) λd s3⟨z,H3,I3,r3,k,e,q3⟩=>?_)) hm;subst e;cases r3;refine wpAny_truthy_bool ?_;cases k with
|false=>exact ite_ff ⟨.bl false,H3,I3,rfl,q3⟩
|true=>exact ite_tt (chain_last (thn (hc pins s3 σ H3 _ I3 q3) λw' s4⟨z',H4,I4,r4,q4⟩=>ho' pins s4 σ H4 y z' u w' Q I4 r2 r4 q4))
theorem Wr{op op':CmpOp}{r r':R2}(ho:OpR X (compareOp op) r)(ho':OpR X (compareOp op') r')(ha:PE X a ta)(hb:PE X b tb)(hc:PE X c tc)(hm:lastMarks [op,op'] [b,c]=false:=by with_unfolding_all rfl):PT X (.Compare a [op,op'] [b,c] pos) (Lw (TZ r r' ta tb tc)):=by
 intro pins s σ H Q I h;refine isTrue_chain (thn (ha pins s σ H _ I h) λv s1⟨x,H1,I1,r1,q1⟩=>test_link (thn (hb pins s1 σ H1 _ I1 q1) λu s2⟨y,H2,I2,r2,q2⟩=>
  thn (ho pins s2 σ H2 x y v u _ I2 r1 r2 q2) λd s3⟨z,H3,I3,r3,k,e,q3⟩=>?_)) hm;subst e;cases r3;refine wpAny_truthy_bool ?_;cases k with
|false=>obtain⟨k',e',q'⟩:=q3;cases e';exact ite_ff ⟨H3,I3,q'⟩
|true=>refine ite_tt (test_last (thn (hc pins s3 σ H3 _ I3 q3) λw' s4⟨z',H4,I4,r4,q4⟩=>thn (ho' pins s4 σ H4 y z' u w' _ I4 r2 r4 q4) λd' s5⟨z2,H5,I5,r5,k2,e2,q5⟩=>?_));subst e2;cases r5;exact wpAny_truthy_bool ⟨H5,I5,q5⟩
def TruV(K:PySem.W.Frag)(x:V)(H:Hp)(k:Bool):Prop:=match x with
|.non=>k=false
|.bl b=>k=b
|.int i=>k=(i != 0)
|.str y=>y.length<=sizeLine/\k=((y.length:Int) != 0)
|.byt y=>y.size<=sizeLine/\k=((y.size:Int) != 0)
|.ref p=>(∃xs,SqL K H p xs/\k=!xs.isEmpty)\/(∃xs,SqT K H p xs/\k=!xs.isEmpty)\/∃kvs,H p=some (.dK kvs)/\k=!kvs.isEmpty
|_=>False
theorem QL{κ:Type}{kvs:List (κ×V)}{vs:List (κ×Value)}(r:KV kvs vs):(!vs.isEmpty)=!kvs.isEmpty:=by cases r<;>rfl
theorem Mc{xs:List V}{its:List Value}(r:Vals xs its):(!its.toArray.isEmpty)=!xs.isEmpty:=by cases r<;>simp
theorem Vf:(sizeLine:Nat)<2 ^ 63:=by rw[sizeLine_eq];decide
theorem LX:TruR X (λx H Q=>∃k,TruV X.K x H k/\Q k H):=by
 intro pins s σ H x v Q I rx h;obtain⟨k,e,q⟩:=h;have hl:=Vf;have hs:sizeLine=16777216:=sizeLine_eq;cases x with
|non=>cases rx;have e':k=false:=e;subst e';exact truthy_none ⟨H,I,q⟩
|bl b=>cases rx;have e':k=b:=e;subst e';exact wpAny_truthy_bool ⟨H,I,q⟩
|int i=>obtain⟨t,rfl⟩:=rx;have e':k=(i != 0):=e;subst e';exact PySem.P.truthy_int ⟨H,I,q⟩
|str y=>obtain⟨t,rfl⟩:=rx;obtain⟨hy,e'⟩:y.length<=sizeLine/\k=((y.length:Int) != 0):=e;subst e';exact PySem.P.truthy_str (by omega) ⟨H,I.tok _,q⟩
|byt y=>obtain⟨t,rfl⟩:=rx;obtain⟨hy,e'⟩:y.size<=sizeLine/\k=((y.size:Int) != 0):=e;subst e';exact PySem.W.truthy_bytes (by omega) ⟨H,I.tok _,q⟩
|ref p=>
  cases rx;have e':(∃xs,SqL X.K H p xs/\k=!xs.isEmpty)\/(∃xs,SqT X.K H p xs/\k=!xs.isEmpty)\/∃kvs,H p=some (.dK kvs)/\k=!kvs.isEmpty:=e;rcases e' with⟨xs,hx,e'⟩|⟨xs,hx,e'⟩|⟨kvs,hx,e'⟩
  ·subst e';obtain⟨its,r,pl,hz⟩:=I.list hx;have hlen:=r.length;exact wpAny_truthy_list pl.isList (by simp only[List.size_toArray];omega) ⟨H,I.tok _,by rw[Mc r];exact q⟩
  ·subst e';obtain⟨its,r,pl,hz⟩:=I.tuple hx;have hlen:=r.length;exact truthy_tuple pl (by simp only[List.size_toArray];omega) ⟨H,I.tok _,by rw[Mc r];exact q⟩
  ·subst e';obtain⟨hz,hS,vs,r,m⟩:kvs.length<=sizeLine/\(p==sysModules)=false/\∃vs,KV kvs vs/\s.heap.DictOf (ZX X.prog X.w) p vs:=I.hok p _ hx;have hlen:kvs.length=vs.length:=Paired.length r;exact wpAny_truthy_dict hS m (by omega) ⟨H,I.tok _,by rw[QL r];exact q⟩
|_=>exact(show False from e).elim
theorem Jl:OpR X (binaryOp .Add) (λx y H Q=>∃i j,x=.str i/\y=.str j/\i.length+j.length<=sizeLine/\Q (.str (i++j)) H):=by intro pins s σ H x y v u Q I rx ry h;obtain⟨i,j,rfl,rfl,hz,q⟩:=h;obtain⟨t,rfl⟩:=rx;obtain⟨t',rfl⟩:=ry;exact add_str (λt' tk=>⟨.str (i++j),H,I.tok _,⟨_,rfl⟩,q⟩) hz
theorem vals1{x:V}{us:List Value}(r:Vals [x] us):∃u,us=[u]/\RelV x u:=by
 cases r with
|cons r1 r2=>cases r2;exact⟨_,rfl,r1⟩
theorem vals2{x y:V}{us:List Value}(r:Vals [x,y] us):∃u w',us=[u,w']/\RelV x u/\RelV y w':=by
 cases r with
|cons r1 r2=>
  cases r2 with
 |cons r3 r4=>cases r4;exact⟨_,_,rfl,r1,r3⟩
theorem TM(hc:X.calm=true):YK X (.builtin "max") (λxs H Q=>∃i j,xs=[.int i,.int j]/\Q (.int (if j>i then j else i)) H):=by
 intro pins s σ H xs us Q I r h;obtain⟨i,j,rfl,q⟩:=h;obtain⟨u,w',rfl,⟨t,rfl⟩,⟨t',rfl⟩⟩:=vals2 r;refine max_two_ints (I.ok.hd hc) λh' tk k=>⟨_,H,I.kept k,?_,q⟩;by_cases hj:j>i
 ·rw[if_pos hj,if_pos hj];exact⟨_,rfl⟩
 ·rw[if_neg hj,if_neg hj];exact⟨_,rfl⟩
theorem U0:YK X (.type "int") (λxs H Q=>(∃i,xs=[.int i]/\Q (.int i) H)\/∃k,xs=[.bl k]/\Q (.int (if k then 1 else 0)) H):=by
 intro pins s σ H xs us Q I r h;rcases h with⟨i,rfl,q⟩|⟨k,rfl,q⟩
 ·obtain⟨u,rfl,t,rfl⟩:=vals1 r;exact call_int_int ⟨.int i,H,I,⟨_,rfl⟩,q⟩
 ·obtain⟨u,rfl,r1⟩:=vals1 r;cases r1;exact call_int_bool ⟨.int (if k then 1 else 0),H,I.tok _,⟨_,rfl⟩,q⟩
def LenV(K:PySem.W.Frag)(x:V)(H:Hp)(n:Nat):Prop:=match x with
|.str y=>y.length<=sizeLine/\n=y.length
|.byt y=>y.size<=sizeLine/\n=y.size
|.ref p=>(∃xs,SqL K H p xs/\n=xs.length)\/∃xs,SqT K H p xs/\n=xs.length
|_=>False
theorem Kl:YK X (.builtin "len") (λxs H Q=>∃x n,xs=[x]/\LenV X.K x H n/\Q (.int n) H):=by
 intro pins s σ H xs us Q I r h;obtain⟨x,n,rfl,e,q⟩:=h;obtain⟨u,rfl,rx⟩:=vals1 r;have hl:=Vf;have hs:sizeLine=16777216:=sizeLine_eq;cases x with
|str y=>obtain⟨t,rfl⟩:=rx;obtain⟨hy,e'⟩:y.length<=sizeLine/\n=y.length:=e;subst e';exact len_str (by omega) ⟨.int _,H,I.tok _,⟨_,rfl⟩,q⟩
|byt y=>obtain⟨t,rfl⟩:=rx;obtain⟨hy,e'⟩:y.size<=sizeLine/\n=y.size:=e;subst e';exact PySem.W.len_bytes (by omega) ⟨.int _,H,I.tok _,⟨_,rfl⟩,q⟩
|ref p=>
  cases rx;have e':(∃xs,SqL X.K H p xs/\n=xs.length)\/∃xs,SqT X.K H p xs/\n=xs.length:=e;rcases e' with⟨xs,hx,e'⟩|⟨xs,hx,e'⟩
  ·subst e';obtain⟨its,r',pl,hz⟩:=I.list hx;have hlen:=r'.length;exact Calls.call_len_list pl.isList (by simp only[List.size_toArray];omega) ⟨.int xs.length,H,I.tok _,⟨_,by simp only[List.size_toArray];rw[hlen]⟩,q⟩
  ·subst e';obtain⟨its,r',pl,hz⟩:=I.tuple hx;have hlen:=r'.length;exact len_tuple pl (by simp only[List.size_toArray];omega) ⟨.int xs.length,H,I.tok _,⟨_,by simp only[List.size_toArray];rw[hlen]⟩,q⟩
|_=>exact(show False from e).elim
end
open PySem PySem.Spec PyProof.Rows
structure ObjM(h:Heap)(x dx C:Addr)(mA:Str->Option Value):Prop where
 obj:h.get? x=some (PySem.W.instObj C dx)
 ns:h.Ns1 dx mA
 ne:dx≠x
theorem MS{h:Heap}{dx:Addr}{mA:Str->Option Value}(n:h.Ns1 dx mA):∃od,h.get? dx=some od/\∀name,PySem.W.lookIn name od=some (mA name):=by
 obtain⟨o,es,ep,ho,hd,hk,_,hm⟩:=n;refine⟨o,ho,λname=>?_⟩;have e:=hm name;unfold nsFind findBy at e;rw[<-Array.find?_toList]at e;unfold PySem.W.lookIn;rw[hd];dsimp only;split
 ·rename_i y q;rw[q]at e;exact congrArg some e
 ·rename_i q;rw[q]at e;have a:es.toList.any (·.refKey)=false:=by rw[List.any_eq_false];intro y hy;obtain⟨z,t,hkey⟩:=hk y (Array.mem_toList_iff.mp hy);simp[DictEntry.refKey,hkey]
  have a':¬es.toList.any (·.refKey)=true:=by rw[a];exact Bool.false_ne_true
  rw[if_neg a'];exact congrArg some e
theorem ObjM.look{h:Heap}{x dx C:Addr}{mA:Str->Option Value}(I:ObjM h x dx C mA):∃od,PySem.W.InstAt h x (PySem.W.instObj C dx) C (some od)/\∀name,PySem.W.lookIn name od=some (mA name):=let ⟨od,ho,hl⟩:=MS I.ns
 ⟨od,⟨I.obj,rfl,rfl,ho⟩,hl⟩
section
variable {prog:Program}{w:World}{A:Around}{E:Value->Shared->Prop}{s:Shared}{K:PySem.W.Frag}{x dx C f:Addr}{mA:Str->Option Value}{name:Str}{v:Value}
theorem get_map{expr:Bool}{Q:Value->Shared->Prop}(X:K.In s.heap)(I:ObjM s.heap x dx C mA)(hg:PySem.W.plainGet K C name=true)(hh:PySem.W.hasDictIn K C=true)(ha:PySem.W.findIn K (.ref C) name=some none)(hv:mA name=some v)(hv':PySem.W.handedIn v=true)(h:Q v {s with toks:=s.toks+1}):wpAny (model prog w) A (getAttr (.ref x) name expr) Q E s:=by obtain⟨od,J,hl⟩:=I.look;exact PySem.W.get_value X J (PySem.W.plainGet_of hg).1 (PySem.W.findObj_own hh ha rfl (by rw[hl,hv])) hv' h
theorem W4{pl:Sem Bool}{Q:Value×List Value->Shared->Prop}(X:K.In s.heap)(I:ObjM s.heap x dx C mA)(hg:PySem.W.plainGet K C name=true)(hf:PySem.W.findIn K (.ref C) name=some (some (.ref f)))(ht:PySem.W.isFn K (.ref f)=true)(hv:mA name=none)(h:Q (.ref f,[.ref x]) s):wpAny (model prog w) A (getMethod (.ref x) name pl) Q E s:=by obtain⟨od,J,hl⟩:=I.look;exact PySem.W.method_fn X J (PySem.W.plainGet_of hg).1 (PySem.W.plainGet_of hg).2 hf (beq_iff_eq.mp ht) (by show(PySem.W.lookIn name od).map (·.isSome)=some false;rw[hl,hv];rfl) h
theorem KD{ns:List Str}{Q:Unit->Shared->Prop}(X:K.In s.heap)(I:ObjM s.heap x dx C mA)(hs:PySem.W.findIn K (.ref C) "__setattr__"=some (some (.builtin "object.__setattr__")))(hp:PySem.W.plainOver K C=true)(ht:PySem.W.takerIn K C name=some none)(hh:PySem.W.hasDictIn K C=true)(hw:PySem.Within mA ns)(hsz:ns.length<=sizeLine)(h:∀h',ObjM h' x dx C (λy=>if y=name then some v else mA y)->Heap.SameBut dx s.heap h'->Q () {s with heap:=h',toks:=s.toks+2}):wpAny (model prog w) A (setAttr (.ref x) name v) Q E s:=by obtain⟨od,J,hl⟩:=I.look;refine PySem.W.set_plain X J hs (PySem.W.osa_open (s:={s with toks:=s.toks+1}) (r:=none) X J hp ht λb=>?_);obtain⟨cd,hc,hd'⟩:=PySem.W.any_some hh;have hx:s.heap.get? x=some ⟨.ref C,some dx,.plain,#[]⟩:=I.obj;refine wpAny_bind (wpAny_pure (wpAny_bind (wpAny_bind (wpAny_loadPart hx (wpAny_bind (PySem.W.Looks.here (s:={s with toks:=s.toks+1}) (PySem.W.looks_clsIn X hc) ?_))))));rw[hd'];refine wpAny_pure (a:=some dx) (wpAny_bind (wpAny_pure (wpAny_bind ?_)));refine wpAny_nsSet1 (s:={s with toks:=s.toks+1}) I.ns λh' hn2 hs2=>?_;obtain⟨oD,esD,epD,hoD,hdD,hcD⟩:=hn2.count (PySem.Within.cons name v hw);refine wpAny_bind (wpAny_lookBehind hoD (by rw[hdD];exact pastItsLine_dict (Nat.le_trans hcD (by rw[List.length_cons];omega))) ?_);exact wpAny_pure (h _ ⟨(hs2.2 _ (Ne.symm I.ne)).trans I.obj,hn2,I.ne⟩ hs2)
theorem WO{R:Result->Shared->Prop}{vs:List Value}{kw:List (Str×Value)}(X:K.In s.heap)(hm:PySem.W.makesIn K C=true)(hi:PySem.W.findIn K (.ref C) "__init__"=some (some (.ref f)))(hf:PySem.W.typeIn K (.ref f)=some (.type "function"))(h:codeAny (model prog w) (A.under (.builtin "type.__call__" ⟨.ref C::vs,kw⟩)) (.call (.ref f) ⟨.ref (s.heap.objs.size+1)::vs,kw⟩) (PySem.W.InitBack (s.heap.objs.size+1) R) {s with heap:=(s.heap.push PySem.W.emptyDict).push (PySem.W.instObj C s.heap.objs.size)}):codeAny (model prog w) A (.call (.ref C) ⟨vs,kw⟩) R s:=by obtain⟨hh,g,d,t,os⟩:=s;exact PySem.W.make_core (PySem.W.makes_of X hm) (PySem.W.looks_findIn X hi) (λself=>PySem.W.bind_fn X self hf) (.inl rfl) h
end
noncomputable def putF(f:Str)(v:V):List (Str×V)->List (Str×V)
|[]=>[(f,v)]
|(g,x)::r=>if g=f then(g,v)::r else(g,x)::putF f v r
theorem Zl(f g:Str)(v:V):∀fs:List (Str×V),(putF f v fs).lookup g=if g=f then some v else fs.lookup g
|[]=>by
  show List.lookup g [(f,v)]=_;by_cases h:g=f
  ·have hb:(g==f)=true:=beq_iff_eq.mpr h;simp only[List.lookup,hb,if_pos h]
  ·have hb:(g==f)=false:=beq_eq_false_iff_ne.mpr h;simp only[List.lookup,hb,if_neg h]
|(k,x)::r=>by
  have ih:=Zl f g v r;rw[show putF f v ((k,x)::r)=(if k=f then(k,v)::r else(k,x)::putF f v r)from rfl];by_cases hk:k=f
  ·rw[if_pos hk];by_cases h:g=k
   ·have hb:(g==k)=true:=beq_iff_eq.mpr h;simp only[List.lookup,hb,if_pos (h.trans hk)]
   ·have hb:(g==k)=false:=beq_eq_false_iff_ne.mpr h;simp only[List.lookup,hb,if_neg (λe:g=f=>h (e.trans hk.symm))]
  ·rw[if_neg hk];by_cases h:g=k
   ·have hb:(g==k)=true:=beq_iff_eq.mpr h;simp only[List.lookup,hb,if_neg (λe:g=f=>hk (h.symm.trans e))]
   ·have hb:(g==k)=false:=beq_eq_false_iff_ne.mpr h;simp only[List.lookup,hb];exact ih
theorem X8(f:Str)(v:V):∀fs:List (Str×V),f∈(putF f v fs).map (·.1)/\∀g,g∈fs.map (·.1)->g∈(putF f v fs).map (·.1)
|[]=>⟨by simp[putF],λg h=>by simp at h⟩
|(k,x)::r=>by
  obtain⟨i1,i2⟩:=X8 f v r;rw[show putF f v ((k,x)::r)=(if k=f then(k,v)::r else(k,x)::putF f v r)from rfl];by_cases hk:k=f
  ·rw[if_pos hk];subst hk;exact⟨by simp,λg h=>by simpa using h⟩
  ·rw[if_neg hk];refine⟨?_,λg h=>?_⟩
   ·rw[List.map_cons];exact List.mem_cons_of_mem _ i1
   ·rw[List.map_cons]at h ⊢;rcases List.mem_cons.mp h with e|e
    ·exact List.mem_cons.mpr (.inl e)
    ·exact List.mem_cons_of_mem _ (i2 g e)
theorem Z6(f:Str)(v:V):∀fs:List (Str×V),(putF f v fs).length<=fs.length+1
|[]=>by simp[putF]
|(k,x)::r=>by
  have ih:=Z6 f v r;rw[show putF f v ((k,x)::r)=(if k=f then(k,v)::r else(k,x)::putF f v r)from rfl];by_cases hk:k=f
  ·rw[if_pos hk,List.length_cons,List.length_cons];omega
  ·rw[if_neg hk,List.length_cons,List.length_cons];omega
theorem RelO.some_of{v:V}{o:Option Value}(r:RelO (some v) o):∃u,o=some u/\RelV v u:=by
 cases o with
|none=>exact(show False from r).elim
|some u=>exact⟨u,rfl,r⟩
theorem RelO.none_of{o:Option Value}(r:RelO none o):o=none:=by
 cases o with
|none=>rfl
|some u=>exact(show False from r).elim
theorem MW{v:V}{u:Value}(r:RelV v u):PySem.W.handedIn u=true:=by
 cases v with
|non=>cases(show u=Value.none from r);rfl
|bl b=>cases(show u=Value.bool b from r);rfl
|int i=>obtain⟨t,e⟩:=(show ∃t,u=Value.int i t from r);cases e;rfl
|str x=>obtain⟨t,e⟩:=(show ∃t,u=Value.str x t from r);cases e;rfl
|byt b=>obtain⟨t,e⟩:=(show ∃t,u=Value.bytes b t from r);cases e;rfl
|flt b=>obtain⟨t,e⟩:=(show ∃t,u=Value.float b t from r);cases e;rfl
|ref a=>cases(show u=Value.ref a from r);rfl
|ty n=>cases(show u=Value.type n from r);rfl
section
variable {P:Program}{w:World}{H H':Hp}{h h':Heap}{a C dx:Addr}{fs fs':List (Str×V)}
theorem Gw(hok:HOk P w H h)(e:H a=some (.ins C dx fs)):∃mA,ObjM h a dx C mA/\(∀f,RelO (fs.lookup f) (mA f))/\PySem.Within mA (fs.map (·.1))/\fs.length<=1000/\H dx=some (.own a):=by obtain⟨d,z,ne,ob,mA,n,r,q⟩:=(show ZG P w H h a (.ins C dx fs)from hok a _ e);exact⟨mA,⟨ob,n,ne⟩,r,q,z,d⟩
end
structure Cls(K:PySem.W.Frag)(C:Addr):Prop where
 pg:PySem.W.plainGet K C Str.empty=true
 hd:PySem.W.hasDictIn K C=true
 po:PySem.W.plainOver K C=true
 sa:PySem.W.findIn K (.ref C) "__setattr__"=some (some (.builtin "object.__setattr__"))
theorem Cls.get{K:PySem.W.Frag}{C:Addr}(c:Cls K C)(f:Str):PySem.W.plainGet K C f=true:=c.pg
def ZZ(K:PySem.W.Frag)(C:Addr)(f:Str):Prop:=PySem.W.findIn K (.ref C) f=some none
theorem ZZ.taker{K:PySem.W.Frag}{C:Addr}{f:Str}(n:ZZ K C f):PySem.W.takerIn K C f=some none:=by unfold PySem.W.takerIn;rw[show PySem.W.findIn K (.ref C) f=some none from n];rfl
structure Meth(K:PySem.W.Frag)(C:Addr)(m:Str)(f:Addr):Prop where
 at_:PySem.W.findIn K (.ref C) m=some (some (.ref f))
 fn:PySem.W.isFn K (.ref f)=true
 kp:PySem.W.keepIn K (.ref f)=true
section
variable {X:Cx}{pins:List (Addr×Obj)}{σ:St}{H:Hp}{s:Shared}{a C dx:Addr}{fs:List (Str×V)}{f:Str}{v:V}{A:Around}{E:Value->Shared->Prop}
theorem QP{b:Bool}{Q:Value->Shared->Prop}(I:Inv X pins σ H s)(e:H a=some (.ins C dx fs))(c:Cls X.K C)(n:ZZ X.K C f)(l:fs.lookup f=some v)(h:∀u s',Inv X pins σ H s'->RelV v u->Q u s'):wpAny (model X.prog X.w) A (getAttr (.ref a) f b) Q E s:=by obtain⟨mA,O,r,_,_,_⟩:=Gw I.hok e;obtain⟨u,hu,ru⟩:=RelO.some_of (v:=v) (o:=mA f) (by rw[<-l];exact r f);exact get_map I.kIn O (c.get f) c.hd n hu (MW ru) (h u _ (I.tok _) ru)
theorem Vh{m:Str}{g:Addr}{pl:Sem Bool}{Q:Value×List Value->Shared->Prop}(I:Inv X pins σ H s)(e:H a=some (.ins C dx fs))(c:Cls X.K C)(k:Meth X.K C m g)(l:fs.lookup m=none)(h:Q (.ref g,[.ref a]) s):wpAny (model X.prog X.w) A (getMethod (.ref a) m pl) Q E s:=by obtain⟨mA,O,r,_,_,_⟩:=Gw I.hok e;have hn:mA m=none:=RelO.none_of (by rw[<-l];exact r m);exact W4 I.kIn O (c.get m) k.at_ k.fn hn h
theorem Qv{y:V}{u:Value}{Q:Unit->Shared->Prop}(I:Inv X pins σ H s)(e:H a=some (.ins C dx fs))(c:Cls X.K C)(n:ZZ X.K C f)(hl:fs.length<1000)(ry:RelV y u)(h:∀s',Inv X pins σ (upd H a (.ins C dx (putF f y fs))) s'->Q () s'):wpAny (model X.prog X.w) A (setAttr (.ref a) f u) Q E s:=by
 obtain⟨mA,O,r,wi,_,ho⟩:=Gw I.hok e;have hz:(fs.map (·.1)).length<=sizeLine:=by rw[List.length_map,sizeLine_eq];omega
 refine KD I.kIn O c.sa c.po n.taker c.hd wi hz λh' O' sb=>h _ ?_;have hd:∃o,h'.get? dx=some o:=let ⟨o,_,_,e',_⟩:=O'.ns;⟨o,e'⟩
 refine I.write (x:=a) (e:=dx) (by rw[e];exact True.intro) (.inr ho) (λb q hb z=>(sb.2 b hb).trans z) hd ?_;refine⟨by rw[Zj O.ne];exact ho,?_,O.ne,O'.obj,_,O'.ns,λg=>?_,λg hg=>?_⟩
 ·have:=Z6 f y fs;omega
 ·show RelO ((putF f y fs).lookup g) (if g=f then some u else mA g);rw[Zl];by_cases q:g=f
  ·rw[if_pos q,if_pos q];exact ry
  ·rw[if_neg q,if_neg q];exact r g
 ·by_cases q:g=f
  ·rw[q];exact(X8 f y fs).1
  ·refine(X8 f y fs).2 g (wi g λz=>hg ?_);show(if g=f then some u else mA g)=none;rw[if_neg q];exact z
theorem Inv.made(I:Inv X pins σ H s):Inv X pins σ (upd (upd H s.heap.objs.size (.own (s.heap.objs.size+1))) (s.heap.objs.size+1) (.ins C s.heap.objs.size [])) {s with heap:=(s.heap.push PySem.W.emptyDict).push (PySem.W.instObj C s.heap.objs.size)}:=by
 have e1:(s.heap.push PySem.W.emptyDict).get? s.heap.objs.size=some PySem.W.emptyDict:=Heap.get?_push_size s.heap rfl;have e2:((s.heap.push PySem.W.emptyDict).push (PySem.W.instObj C s.heap.objs.size)).get? (s.heap.objs.size+1)=some (PySem.W.instObj C s.heap.objs.size):=by have:=Heap.get?_push_size (s.heap.push PySem.W.emptyDict) (o:=PySem.W.instObj C s.heap.objs.size) rfl;rwa [Heap.size_push]at this
 have e3:(s.heap.push PySem.W.emptyDict).Ns s.heap.objs.size (λ_=>none):=⟨PySem.W.emptyDict,#[],_,e1,rfl,(λe he=>absurd he (by simp)),λ_=>rfl⟩;have I1:=I.laid (a:=s.heap.objs.size) (o:=.own (s.heap.objs.size+1)) (h':=s.heap.push PySem.W.emptyDict) (t':=s.toks) (λb u q=>Heap.get?_push_of_some _ q) (Nat.le_refl _) ⟨_,e1⟩;refine I1.laid (a:=s.heap.objs.size+1) (o:=.ins C s.heap.objs.size []) (t':=s.toks) (λb u q=>Heap.get?_push_of_some _ q) (Nat.le_of_eq (Heap.size_push _ _)) ?_;have ne:s.heap.objs.size≠s.heap.objs.size+1:=Nat.ne_of_lt (Nat.lt_succ_self _);refine⟨by rw[Zj ne,Ze],Nat.zero_le _,ne,e2,λ_=>none,(Heap.Ns1.of_empty e3).at λo q=>Heap.get?_push_of_some _ q,λ_=>True.intro,λy hy=>absurd rfl hy⟩
theorem Si{prog:Program}{w:World}{env:Env}{e:Expr}{f:Str}{pos:Pos}{s:Shared}{Q:Value->Shared->Prop}(hb:attributeBase e f env (eval e env)=eval e env)(h:wpAny (model prog w) A (eval e env) (λo s₁=>wpAny (model prog w) A (getAttr o f true) Q E s₁) E s):wpAny (model prog w) A (eval (.Attribute e f pos) env) Q E s:=Attribute_any_ h (by rw[arm_eval_Attribute,hb])
end
def tFld(K:PySem.W.Frag)(ta:TE)(f:Str):TE:=λσ H Q=>ta σ H λx H1=>∃a C dx fs v,x=.ref a/\H1 a=some (.ins C dx fs)/\Cls K C/\ZZ K C f/\fs.lookup f=some v/\Q v H1
def sFld(K:PySem.W.Frag)(ta tv:TE)(f:Str):TS:=λD σ H=>tv σ H λy H1=>ta σ H1 λx H2=>∃a C dx fs,x=.ref a/\H2 a=some (.ins C dx fs)/\Cls K C/\ZZ K C f/\fs.length<1000 /\D.nx σ (upd H2 a (.ins C dx (putF f y fs)))
section
variable {X:Cx}{o e value:Expr}{f:Str}{pos pos' tpos:Pos}{ta tv:TE}
theorem ZL(he:PE X e ta)(hb:attributeBase e f X.env (eval e X.env)=eval e X.env):PE X (.Attribute e f pos) (tFld X.K ta f):=by intro pins s σ H Q I h;refine Si hb (thn (he pins s σ H _ I h) λu s1⟨x,H1,I1,rx,a,C,dx,fs,v,ex,ea,c,n,l,q⟩=>?_);subst ex;obtain rfl:u=Value.ref a:=rx;exact QP I1 ea c n l λu' s2 I2 ru=>⟨v,H1,I2,ru,q⟩
theorem YQ(ha:PE X o ta)(hv:PE X value tv)(hs:swapsWith value (some (.Attribute o f pos')) pos.line X.env=pure false):PS X (.Assign [.Attribute o f pos'] value pos) (sFld X.K ta tv f):=by intro pins s σ H D I h;refine plainObj_wpAny_Assign_Attribute (thn (hv pins s σ H _ I h) λu s1⟨y,H1,I1,ry,q⟩=>thn (ha pins s1 σ H1 _ I1 q) λov s2⟨x,H2,I2,rx,a,C,dx,fs,ex,ea,c,n,l,q2⟩=>?_) hs;subst ex;obtain rfl:ov=Value.ref a:=rx;exact Qv I2 ea c n l ry λs3 I3=>⟨σ,_,I3,q2⟩
theorem LH{pl:Sem Bool}{m:Str}{apos:Pos}{args:List Expr}{pins:List (Addr×Obj)}{s:Shared}{σ:St}{H:Hp}{Q:Value->Shared->Prop}{te:TE}(he:PE X e te)(I:Inv X pins σ H s)
  (h:te σ H λx H1=>∃a C dx fs g,x=.ref a/\H1 a=some (.ins C dx fs)/\Cls X.K C/\Meth X.K C m g/\fs.lookup m=none /\
   ∀s1,Inv X pins σ H1 s1->wpAny (model X.prog X.w) X.A (callWith pos (.ref g) [.ref a] (backTo pos (starEach args X.env)) (backToKw pos (keywordEach [] X.env))) Q X.xe s1)
  (ht:eval (.Call (.Attribute e m apos) args [] pos) X.env=(do
   let ov <-eval e X.env
   standAt apos.atName
   let (f,first) <-holding [ov] (getMethod ov m pl)
   callWith pos f first (backTo pos (starEach args X.env)) (backToKw pos (keywordEach [] X.env)))):
  wpAny (model X.prog X.w) X.A (eval (.Call (.Attribute e m apos) args [] pos) X.env) Q X.xe s:=by
 refine PySem.W.methodCall_KW (pl:=pl) (thn (he pins s σ H _ I h) λu s1⟨x,H1,I1,rx,a,C,dx,fs,g,ex,ea,c,k,l,q⟩=>?_) ht
 subst ex
 obtain rfl:u=Value.ref a:=rx
 exact Vh I1 ea c k l (q s1 I1)
end
section
variable {X:Cx}{pins:List (Addr×Obj)}{σ:St}{H:Hp}{s:Shared}{A:Around}{E:Value->Shared->Prop}{Q:Value->Shared->Prop}{c:Value}{b:Bool}
inductive TyOf(K:PySem.W.Frag)(H:Hp):V->Value->Prop where
|non:TyOf K H .non (.type "NoneType")
|bl (x:Bool):TyOf K H (.bl x) (.type "bool")
|int (i:Int):TyOf K H (.int i) (.type "int")
|str (x:Str):TyOf K H (.str x) (.type "str")
|flt (x:UInt64):TyOf K H (.flt x) (.type "float")
|lst {a:Addr}{xs:List V} (e:H a=some (.lst xs)):TyOf K H (.ref a) (.type "list")
|frz {a:Addr}{o:Obj}{xs:List V} (e:H a=some (.frz o (.lst xs))):TyOf K H (.ref a) (.type "list")
|tup {a:Addr}{xs:List V} (e:H a=some (.tup xs)):TyOf K H (.ref a) (.type "tuple")
|dK {a:Addr}{kvs:List (Key×V)} (e:H a=some (.dK kvs)):TyOf K H (.ref a) (.type "dict")
|dT {a:Addr}{kvs:List (List Key×V)} (e:H a=some (.dT kvs)):TyOf K H (.ref a) (.type "dict")
|ins {a C dx:Addr}{fs:List (Str×V)} (e:H a=some (.ins C dx fs)) (cl:Cls K C) (ha:PySem.W.findIn K (.ref C) "__class__"=some (some (.builtin "object.__class__")))
   (hn:PySem.W.specialIn K (.builtin "object.__class__") "__get__"=some (some (.builtin "getset_descriptor.__get__"))) (htk:PySem.W.takesIn K (.builtin "object.__class__")=some true)
   (hm:PySem.W.mroIn K C (.type "object")=some true):TyOf K H (.ref a) (.ref C)
theorem MU{x:V}{u t:Value}(I:Inv X pins σ H s)(rx:RelV x u)(ty:TyOf X.K H x t)(e:PySem.W.kitOne X.K t c=some b)(h:∀tk,Q (.bool b) {s with toks:=tk}):wpAny (model X.prog X.w) A (call (.builtin "isinstance") [u,c]) Q E s:=by
 cases ty with
|non=>cases(show u=Value.none from rx);exact PySem.W.kia_one PySem.W.kitx_none I.kIn True.intro e (λz=>nomatch z) h
|bl y=>cases(show u=Value.bool y from rx);exact PySem.W.kia_one PySem.W.kitx_bool I.kIn True.intro e (λz=>nomatch z) h
|int i=>obtain⟨t,q⟩:=(show ∃t,u=Value.int i t from rx);cases q;exact PySem.W.kia_one PySem.W.kitx_int I.kIn True.intro e (λz=>nomatch z) h
|str y=>obtain⟨t,q⟩:=(show ∃t,u=Value.str y t from rx);cases q;exact PySem.W.kia_one PySem.W.kitx_str I.kIn True.intro e (λz=>nomatch z) h
|flt y=>obtain⟨t,q⟩:=(show ∃t,u=Value.float y t from rx);cases q;exact PySem.W.kia_one PySem.W.kitx_float I.kIn True.intro e (λz=>nomatch z) h
|@lst a xs ea=>cases(show u=Value.ref a from rx);obtain⟨_,_,n,_,h1⟩:=(show ZG X.prog X.w H s.heap a (.lst xs)from I.hok a _ ea);exact PySem.W.kia_one PySem.W.kitx_list I.kIn ⟨_,h1,rfl⟩ e (λz=>nomatch z) h
|@frz a ob xs ea=>cases(show u=Value.ref a from rx);obtain⟨_,_,_,n,_,h1⟩:=(show ZG X.prog X.w H s.heap a (.frz ob (.lst xs))from I.hok a _ ea);exact PySem.W.kia_one PySem.W.kitx_list I.kIn ⟨_,h1,rfl⟩ e (λz=>nomatch z) h
|@tup a xs ea=>cases(show u=Value.ref a from rx);obtain⟨_,_,_,p⟩:=(show ZG X.prog X.w H s.heap a (.tup xs)from I.hok a _ ea);obtain⟨o,h1,h2,_⟩:=p;exact PySem.W.kia_one PySem.W.kitx_tuple I.kIn ⟨o,h1,h2⟩ e (λz=>nomatch z) h
|@dK a kvs ea=>cases(show u=Value.ref a from rx);obtain⟨_,_,vs,_,p⟩:=(show ZG X.prog X.w H s.heap a (.dK kvs)from I.hok a _ ea);obtain⟨o,es,ep,h1,h2,_⟩:=p;exact PySem.W.kia_one PySem.W.kitx_dict I.kIn ⟨o,h1,h2.1⟩ e (λz=>nomatch z) h
|@dT a kvs ea=>cases(show u=Value.ref a from rx);obtain⟨_,_,xs,_,o,es,ep,h1,h2,_⟩:=(show ZG X.prog X.w H s.heap a (.dT kvs)from I.hok a _ ea);exact PySem.W.kia_one PySem.W.kitx_dict I.kIn ⟨o,h1,h2.1⟩ e (λz=>nomatch z) h
|@ins a C dx fs ea cl ha hn htk hm=>cases(show u=Value.ref a from rx);obtain⟨mA,O,_⟩:=Gw I.hok ea;obtain⟨od,J,_⟩:=O.look;exact PySem.W.kia_one (PySem.W.kitx_own (cl.get _) cl.hd ha hn htk hm) I.kIn J e (λz=>nomatch z) h
end
open PySem PySem.Spec PyProof.Rows
structure Room(k:Nat)(A:Around):Prop where
 hd:A.handled=none
 dp:A.depth+3*k+5<recursionLimit
 un:A.units+16*k+200<cLine
 gd:A.guards=some []
theorem Room.mono{j k:Nat}{A:Around}(r:Room k A)(h:j<=k):Room j A:=⟨r.hd,by have:=r.dp;omega,by have:=r.un;omega,r.gd⟩
theorem Room.deeper{k:Nat}{A:Around}(r:Room (k+1) A)(env:Env):Room k (A.deeper env):=⟨r.hd,by have:=r.dp;show A.depth+1+3*k+5<_;omega,by have:=r.un;show A.units+3+16*k+200<_;omega,r.gd⟩
theorem QH{A:Around}{C:Addr}{us:List Value}{kw:List (Str×Value)}:(A.under (.builtin "type.__call__" ⟨.ref C::us,kw⟩)).depth=A.depth+1:=by first|rfl|simp[Around.under,Code.weight,Code.isCreation,Code.isGuard,Code.isCaller,Code.frames,Code.isFrame,guardIds]
theorem QG{A:Around}{C:Addr}{us:List Value}{kw:List (Str×Value)}:(A.under (.builtin "type.__call__" ⟨.ref C::us,kw⟩)).units=A.units+1:=by first|rfl|simp[Around.under,Code.cUnits,Code.frames,Code.isFrame]
theorem Pz{A:Around}{C:Addr}{us:List Value}{kw:List (Str×Value)}:(A.under (.builtin "type.__call__" ⟨.ref C::us,kw⟩)).guards=A.guards:=by first|rfl|simp[Around.under,Code.guards,Code.isGuard,pushGuards,guardIds]
theorem Room.make{k:Nat}{A:Around}(r:Room (k+1) A)(C:Addr)(us:List Value)(kw:List (Str×Value)):Room k (A.under (.builtin "type.__call__" ⟨.ref C::us,kw⟩)):=⟨r.hd,by have:=r.dp;rw[QH];omega,by have:=r.un;rw[QG];omega,by rw[Pz];exact r.gd⟩
theorem Room.depth{k:Nat}{A:Around}(r:Room k A):A.depth<recursionLimit:=by have:=r.dp;omega
theorem Room.units{k:Nat}{A:Around}(r:Room k A):A.units+64<cLine:=by have:=r.un;omega
theorem Room.units0{k:Nat}{A:Around}(r:Room k A):A.units<cLine:=by have:=r.un;omega
def tNil:TA:=λ_ H Q=>Q [] H
def Rq(ta:TE)(tr:TA):TA:=λσ H Q=>ta σ H λx H1=>tr σ H1 λxs H2=>Q (x::xs) H2
section
variable {X:Cx}{e:Expr}{es:List Expr}{te:TE}{t:TA}{pos:Pos}
theorem Zb:PA X [] tNil:=λ_ _ _ _ H Q I h=>Calls.spliced_nil ⟨[],H,I,.nil,h⟩
theorem Zg(ha:PE X e te)(hr:PA X es t)(hs:starEach (e::es) X.env=(false,eval e X.env)::starEach es X.env:=by rfl):PA X (e::es) (Rq te t):=by intro pos pins s σ H Q I h;rw[hs];show wpAny _ _ (spliced ((false,eval e X.env)::backTo pos (starEach es X.env))) _ _ s;refine Calls.spliced_cons (thn (ha pins s σ H _ I h) λu s1⟨x,H1,I1,r1,q1⟩=>?_);exact thn (hr pos pins s1 σ H1 _ I1 q1) λus s2⟨xs,H2,I2,r2,q2⟩=>⟨x::xs,H2,I2,.cons r1 r2,q2⟩
def tTup(t:TA):TE:=λσ H Q=>t σ H λxs H1=>xs.length<=sizeLine/\∀p,H1 p=none->Q (.ref p) (upd H1 p (.tup xs))
def tLst(t:TA):TE:=λσ H Q=>t σ H λxs H1=>xs.length<=sizeLine/\∀p,H1 p=none->Q (.ref p) (upd H1 p (.lst xs))
theorem Zy{x1}(h:PA X es t):PE X (.Tuple es x1 pos) (tTup t):=by intro pins s σ H Q I hq;refine wpAny_Tuple_spliced (thn (h pos pins s σ H _ I hq) λus s1⟨xs,H1,I1,r,z,q⟩=>⟨by rw[<-r.length];exact z,?_⟩);have hf:H1 s1.heap.objs.size=none:=I1.hok.fresh (Nat.le_refl _);refine⟨.ref s1.heap.objs.size,upd H1 s1.heap.objs.size (.tup xs),I1.laid (t':=s1.toks) (λb u e=>Heap.get?_push_of_some _ e) (Nat.le_refl _) ?_,rfl,q _ hf⟩;exact⟨z,us,r,⟨_,Heap.get?_push_size _ rfl,rfl,_,rfl⟩⟩
theorem Z2(h:PA X es t):PE X (.List es pos) (tLst t):=by intro pins s σ H Q I hq;refine wpAny_List_spliced (thn (h pos pins s σ H _ I hq) λus s1⟨xs,H1,I1,r,z,q⟩=>⟨by rw[<-r.length];exact z,?_⟩);have hf:H1 s1.heap.objs.size=none:=I1.hok.fresh (Nat.le_refl _);refine⟨.ref s1.heap.objs.size,upd H1 s1.heap.objs.size (.lst xs),I1.laid (t':=s1.toks) (λb u e=>Heap.get?_push_of_some _ e) (Nat.le_refl _) ?_,rfl,q _ hf⟩;exact⟨z,us,0,r,Heap.get?_push_size _ rfl⟩
end
noncomputable abbrev Sp:=List V->Hp->VK->XK->Prop
noncomputable abbrev CXT:=List Env->Hp->Shared->XK->Value->Shared->Prop
structure Env0(P:Program)(w:World)(K:PySem.W.Frag)(mg:Str->Option Value)(base:Heap)(A:Around)(outer:List Env)(s:Shared)(H:Hp):Prop where
 frames:A.frames=some outer
 mod:Mod K mg base
 bs:∀b o,base.get? b=some o->s.heap.get? b=some o/\H b=none
 bsz:base.objs.size<=s.heap.objs.size
 funs:s.heap.FunFrames base outer
 frf:∀b∈frs outer,H b=none
 hok:HOk P w H s.heap
 bare:AllBare s.gens
def CE(outer:List Env)(P:Program)(w:World)(H:Hp)(s:Shared)(Q:VK)(u:Value)(s':Shared):Prop:=∃v H',s'.os=s.os/\AllBare s'.gens/\Un (frs outer) [] H H' s.heap s'.heap/\HOk P w H' s'.heap/\RelV v u/\Q v H'
def CR(CX:CXT)(outer:List Env)(P:Program)(w:World)(H:Hp)(s:Shared)(Q:VK)(E:XK)(r:Result)(s':Shared):Prop:=match r with
|.ok (.ret u)=>CE outer P w H s Q u s'
|.ok _=>False
|.error e=>CX outer H s E e s'
structure FnOk(P:Program)(w:World)(K:PySem.W.Frag)(mg:Str->Option Value)(base:Heap)(CX:CXT)(k:Nat)(f:Addr)(fd:FuncData)(ps:List Str)(sp:Sp):Prop where
 len:∀vs H Q E,sp vs H Q E->vs.length=ps.length
 run:∀(A:Around)(outer:List Env)(s:Shared)(H:Hp)(args:Args)(us:List Value)(vs:List V)(Q:VK)(E:XK),Room k A->Env0 P w K mg base A outer s H->BindsTo s fd args (ps.zip us)->Vals vs us->sp vs H Q E ->
  codeAny (model P w) A (.call (.ref f) args) (CR CX outer P w H s Q E) s
theorem FnOk.mono{P:Program}{w:World}{K:PySem.W.Frag}{mg:Str->Option Value}{base:Heap}{CX:CXT}{j k:Nat}{f:Addr}{fd:FuncData}{ps:List Str}{sp:Sp}(F:FnOk P w K mg base CX j f fd ps sp)(h:j<=k):FnOk P w K mg base CX k f fd ps sp:=⟨F.len,λA outer s H args us vs Q E hr=>F.run A outer s H args us vs Q E (hr.mono h)⟩
theorem Env0.make{P:Program}{w:World}{K:PySem.W.Frag}{mg:Str->Option Value}{base:Heap}{A:Around}{outer:List Env}{s:Shared}{H:Hp}(e:Env0 P w K mg base A outer s H)(C:Addr)(us:List Value)(kw:List (Str×Value)):Env0 P w K mg base (A.under (.builtin "type.__call__" ⟨.ref C::us,kw⟩)) outer s H:=⟨by first|exact e.frames|(simpa[Around.under,Code.envs,Code.isFrame,pushEnvs]using e.frames),e.mod,e.bs,e.bsz,e.funs,e.frf,e.hok,e.bare⟩
section
variable {X:Cx}{pins:List (Addr×Obj)}{σ:St}{H:Hp}{s s':Shared}
theorem Inv.env0(I:Inv X pins σ H s):Env0 X.prog X.w X.K X.mg X.base X.A X.stack s H:=⟨I.ok.frames,I.ok.mod,I.bs,Nat.le_trans I.ok.bsz I.sz,I.stack,I.stkFree,I.hok,I.bare⟩
theorem Inv.after{Q:VK}{u:Value}(I:Inv X pins σ H s)(h:CE X.stack X.prog X.w H s Q u s'):EP X pins σ Q u s':=by obtain⟨v,H',os,bare,un,hok,r,q⟩:=h;obtain⟨hh,g,d,t,os'⟩:=s';obtain rfl:os'=s.os:=os;exact⟨v,H',I.call (h':=hh) (g':=g) (d':=d) (t':=t) (ch:=[]) un hok bare (λb z=>absurd z (by simp)),r,q⟩
end
def MN(sp:Sp)(dvs:List V)(E:XK)(t:TA):TE:=λσ H Q=>t σ H λvs H1=>sp (vs++dvs) H1 Q E
def Rp(C:Addr)(m:Str)(sp:Sp)(dvs:List V)(E:XK)(ta:TE)(t:TA):TE:=λσ H Q=>ta σ H λx H1=>∃a dx fs,x=.ref a/\H1 a=some (.ins C dx fs)/\fs.lookup m=none /\t σ H1 λvs H2=>sp (x::(vs++dvs)) H2 Q E
def El(C:Addr)(sp:Sp)(dvs:List V)(E:XK)(t:TA):TE:=λσ H Q=>t σ H λvs H1=>∀x dx,H1 x=none->H1 dx=none->dx≠x ->sp (.ref x::(vs++dvs)) (upd (upd H1 dx (.own x)) x (.ins C dx [])) (λv H2=>v=.non/\Q (.ref x) H2) E
def Binds(K:PySem.W.Frag)(fd:FuncData)(ps:List Str)(ds:List Value):Prop:=∀(s:Shared)(us:List Value),K.In s.heap->(us++ds).length=ps.length->BindsTo s fd ⟨us,[]⟩ (ps.zip (us++ds))
theorem Binds.all{K:PySem.W.Frag}{fd:FuncData}{ps:List Str}(h:∀us:List Value,us.length=ps.length->bindArgs fd ⟨us,[]⟩=pure (ps.zip us)):Binds K fd ps []:=λs us _ hl=>by rw[List.append_nil]at hl ⊢;exact .of_eq (h us hl)
def Passes(CX:CXT)(X:Cx)(E:XK):Prop:=∀(pins:List (Addr×Obj))(σ:St)(H:Hp)(s:Shared)(e:Value)(s':Shared),Inv X pins σ H s->CX X.stack H s E e s'->X.xe e s'
section
variable {X:Cx}{CX:CXT}{k:Nat}{f C:Addr}{fd:FuncData}{ps:List Str}{sp:Sp}{dvs:List V}{ds:List Value}{E:XK}{x m:Str}{p pos apos:Pos}{e o:Expr}{es:List Expr}{ta:TE}{t:TA}
theorem ND{pins:List (Addr×Obj)}{σ:St}{H:Hp}{s:Shared}{Q:VK}{us:List Value}{vs:List V}(F:FnOk X.prog X.w X.K X.mg X.base CX k f fd ps sp)(hr:Room k X.A)(hb:Binds X.K fd ps ds)(hd:Vals dvs ds)(hx:Passes CX X E)(I:Inv X pins σ H s)(r:Vals vs us)(h:sp (vs++dvs) H Q E):wpAny (model X.prog X.w) X.A (call (.ref f) us) (EP X pins σ Q) X.xe s:=by
 have r2:Vals (vs++dvs) (us++ds):=r.append hd;have hl:(us++ds).length=ps.length:=by rw[<-r2.length];exact F.len _ _ _ _ h
 refine wpAny_call (codeAny_mono (F.run X.A X.stack s H ⟨us,[]⟩ (us++ds) (vs++dvs) Q E hr I.env0 (hb s us I.kIn hl) r2 h) λr s' hq=>?_);cases r with
|error e=>exact hx pins σ H s e s' I hq
|ok fl=>
  cases fl with
 |ret u=>exact I.after hq
 |next=>exact False.elim hq
 |brk=>exact False.elim hq
 |cont=>exact False.elim hq
theorem RL(F:FnOk X.prog X.w X.K X.mg X.base CX k f fd ps sp)(hr:Room k X.A)(hg:Gl X x)(hm:X.mg x=some (.ref f))(hk:PySem.W.keepIn X.K (.ref f)=true)(hb:Binds X.K fd ps ds)(hd:Vals dvs ds)(hx:Passes CX X E)(ha:PA X (e::es) t)(hdb:(x==("__debug__":Str))=false:=by decide)(he:starEach (e::es) X.env=(false,eval e X.env)::starEach es X.env:=by rfl)(hpl:(backTo pos (starEach es X.env)).any (·.1)=false:=by rfl):PE X (.Call (.Name x p) (e::es) [] pos) (MN sp dvs E t):=by intro pins s σ H Q I h;refine wpAny_Call_Name_kw (Jm I hg hm ?_ hdb);refine PySem.W.callWith_K (h₀:=X.base) I.ok.mod.kin hk (thn (ha pos pins s σ H _ I h) λus s1⟨vs,H1,I1,r,q⟩=>⟨I1.kIn,?_⟩) he hpl;exact ND F hr hb hd hx I1 r q
theorem KY{pl:Sem Bool}(he:PE X o ta)(c:Cls X.K C)(hm:Meth X.K C m f)(F:FnOk X.prog X.w X.K X.mg X.base CX k f fd ps sp)(hr:Room k X.A)(hb:Binds X.K fd ps ds)(hd:Vals dvs ds)(hx:Passes CX X E)(ha:PA X (e::es) t)
  (hst:starEach (e::es) X.env=(false,eval e X.env)::starEach es X.env:=by rfl) (hpl:(backTo pos (starEach es X.env)).any (·.1)=false:=by rfl)
  (ht:eval (.Call (.Attribute o m apos) (e::es) [] pos) X.env=(do
   let ov <-eval o X.env
   standAt apos.atName
   let (f,first) <-holding [ov] (getMethod ov m pl)
   callWith pos f first (backTo pos (starEach (e::es) X.env)) (backToKw pos (keywordEach [] X.env))):=by rfl):
  PE X (.Call (.Attribute o m apos) (e::es) [] pos) (Rp C m sp dvs E ta t):=by
 intro pins s σ H Q I h
 refine PySem.W.methodCall_KW (pl:=pl) (thn (he pins s σ H _ I h) λu s1⟨x,H1,I1,rx,a,dx,fs,ex,ea,l,q⟩=>?_) ht
 subst ex
 obtain rfl:u=Value.ref a:=rx
 refine Vh I1 ea c hm l ?_
 refine PySem.W.callWith_K (first:=[.ref a]) (h₀:=X.base) I.ok.mod.kin hm.kp (thn (ha pos pins s1 σ H1 _ I1 q) λus s2⟨vs,H2,I2,r,q2⟩=>⟨I2.kIn,?_⟩) hst hpl
 exact ND (us:=.ref a::us) (vs:=.ref a::vs) F hr hb hd hx I2 (.cons rfl r) q2
theorem Wx{pl:Sem Bool}(he:PE X o ta)(c:Cls X.K C)(hm:Meth X.K C m f)(F:FnOk X.prog X.w X.K X.mg X.base CX k f fd ps sp)(hr:Room k X.A)(hb:Binds X.K fd ps ds)(hd:Vals dvs ds)(hx:Passes CX X E)
  (ht:eval (.Call (.Attribute o m apos) [] [] pos) X.env=(do
   let ov <-eval o X.env
   standAt apos.atName
   let (f,first) <-holding [ov] (getMethod ov m pl)
   callWith pos f first (backTo pos (starEach [] X.env)) (backToKw pos (keywordEach [] X.env))):=by rfl):
  PE X (.Call (.Attribute o m apos) [] [] pos) (Rp C m sp dvs E ta tNil):=by
 intro pins s σ H Q I h
 refine PySem.W.methodCall_KW (pl:=pl) (thn (he pins s σ H _ I h) λu s1⟨x,H1,I1,rx,a,dx,fs,ex,ea,l,q⟩=>?_) ht
 subst ex
 obtain rfl:u=Value.ref a:=rx
 refine Vh I1 ea c hm l ?_
 exact PySem.W.callWith_K0 (first:=[.ref a]) I1.kIn hm.kp (ND (us:=[.ref a]) (vs:=[.ref a]) F hr hb hd hx I1 (.cons rfl .nil) q)
structure Mk(K:PySem.W.Frag)(C f:Addr):Prop where
 makes:PySem.W.makesIn K C=true
 init:PySem.W.findIn K (.ref C) "__init__"=some (some (.ref f))
 fn:PySem.W.isFn K (.ref f)=true
 kp:PySem.W.keepIn K (.ref C)=true
theorem Wm{pins:List (Addr×Obj)}{σ:St}{H:Hp}{s:Shared}{Q:VK}{us:List Value}{vs:List V}(M:Mk X.K C f)(F:FnOk X.prog X.w X.K X.mg X.base CX k f fd ps sp)(hr:Room (k+1) X.A)(hb:Binds X.K fd ps ds)(hd:Vals dvs ds)(hx:Passes CX X E)(I:Inv X pins σ H s)(r:Vals vs us)(h:∀x dx,H x=none->H dx=none->dx≠x->sp (.ref x::(vs++dvs)) (upd (upd H dx (.own x)) x (.ins C dx [])) (λv H2=>v=.non/\Q (.ref x) H2) E):wpAny (model X.prog X.w) X.A (call (.ref C) us) (EP X pins σ Q) X.xe s:=by
 have hq:=h (s.heap.objs.size+1) s.heap.objs.size (I.hok.fresh (Nat.le_succ _)) (I.hok.fresh (Nat.le_refl _)) (Nat.ne_of_lt (Nat.lt_succ_self _));have I2:=Inv.made (C:=C) I;have r2:Vals (V.ref (s.heap.objs.size+1)::(vs++dvs)) (Value.ref (s.heap.objs.size+1)::(us++ds)):=.cons rfl (r.append hd);have hl:(Value.ref (s.heap.objs.size+1)::us++ds).length=ps.length:=by have e:=r2.length;rw[F.len _ _ _ _ hq]at e;exact e.symm
 refine wpAny_call (WO (f:=f) I.kIn M.makes M.init (beq_iff_eq.mp M.fn) (codeAny_mono (F.run _ X.stack _ _ ⟨Value.ref (s.heap.objs.size+1)::us,[]⟩ (Value.ref (s.heap.objs.size+1)::(us++ds)) _ _ E (hr.make C us []) (I2.env0.make C us []) (hb _ (Value.ref (s.heap.objs.size+1)::us) I2.kIn hl) r2 hq) λr s' hq'=>?_));cases r with
|error e=>exact hx pins σ _ _ e s' I2 hq'
|ok fl=>
  cases fl with
 |ret u=>obtain⟨v,H',I3,rv,ev,q3⟩:=I2.after hq';subst ev;exact⟨rv,⟨V.ref (s.heap.objs.size+1),H',I3,rfl,q3⟩⟩
 |next=>exact False.elim hq'
 |brk=>exact False.elim hq'
 |cont=>exact False.elim hq'
theorem VG(M:Mk X.K C f)(F:FnOk X.prog X.w X.K X.mg X.base CX k f fd ps sp)(hr:Room (k+1) X.A)(hg:Gl X x)(hm:X.mg x=some (.ref C))(hb:Binds X.K fd ps ds)(hd:Vals dvs ds)(hx:Passes CX X E)(ha:PA X (e::es) t)(hdb:(x==("__debug__":Str))=false:=by decide)(he:starEach (e::es) X.env=(false,eval e X.env)::starEach es X.env:=by rfl)(hpl:(backTo pos (starEach es X.env)).any (·.1)=false:=by rfl):PE X (.Call (.Name x p) (e::es) [] pos) (El C sp dvs E t):=by intro pins s σ H Q I h;refine wpAny_Call_Name_kw (Jm I hg hm ?_ hdb);refine PySem.W.callWith_K (h₀:=X.base) I.ok.mod.kin M.kp (thn (ha pos pins s σ H _ I h) λus s1⟨vs,H1,I1,r,q⟩=>⟨I1.kIn,?_⟩) he hpl;exact Wm M F hr hb hd hx I1 r q
end
structure FnScope(N P:List Str)(sc:Scope):Prop where
 kind:sc.kind=.function
 co:sc.isCoroutine=false
 gen:sc.isGenerator=false
 nd:N.Nodup
 pre:N.take P.length=P
 par:∀x∈P,sc.names.lookup x=some .local\/sc.names.lookup x=some .cell
 nofree:∀y∈sc.names,y.2≠.free
theorem Nd{kindOf:Str->Option NameKind}{x:Str}:∀{binds:List (Str×Value)}{m:Str->Option Value},(∀v,(x,v)∉binds)->bindL kindOf binds m x=m x
|[],_,_=>rfl
|(n,v)::r,m,h=>by
  unfold bindL;rw[Nd λw hw=>h w (List.mem_cons_of_mem _ hw)];split
  ·have:x≠n:=by rintro rfl;exact h v List.mem_cons_self
   simp[this]
  ·rfl
theorem Ng{kindOf:Str->Option NameKind}{x:Str}:∀{binds:List (Str×Value)}{m:Str->Option Value},(∀v,(x,v)∉binds)->bindC kindOf binds m x=m x
|[],_,_=>rfl
|(n,v)::r,m,h=>by
  unfold bindC;rw[Ng λw hw=>h w (List.mem_cons_of_mem _ hw)];split
  ·rfl
  ·have:x≠n:=by rintro rfl;exact h v List.mem_cons_self
   simp[this]
theorem Nf{kindOf:Str->Option NameKind}{x:Str}{v:Value}:∀{P:List Str}{vs:List Value}{i:Nat}{m:Str->Option Value},P.Nodup->P[i]?=some x->vs[i]?=some v->kindOf x=some .local ->bindL kindOf (P.zip vs) m x=some v
|[],_,_,_,_,h,_,_=>by simp at h
|_::_,[],_,_,_,_,h,_=>by simp at h
|p::P,w::vs,0,m,nd,h1,h2,hk=>by simp at h1 h2;subst h1;subst h2;show bindL kindOf ((p,w)::P.zip vs) m p=_;unfold bindL;rw[Nd λv hv=>(List.nodup_cons.mp nd).1 (List.of_mem_zip hv).1,if_pos hk];simp
|p::P,w::vs,i+1,m,nd,h1,h2,hk=>by show bindL kindOf ((p,w)::P.zip vs) m x=_;unfold bindL;exact Nf (i:=i) (List.nodup_cons.mp nd).2 (by simpa using h1) (by simpa using h2) hk
theorem Nh{kindOf:Str->Option NameKind}{x:Str}{v:Value}:∀{P:List Str}{vs:List Value}{i:Nat}{m:Str->Option Value},P.Nodup->P[i]?=some x->vs[i]?=some v->kindOf x≠some .local ->bindC kindOf (P.zip vs) m x=some v
|[],_,_,_,_,h,_,_=>by simp at h
|_::_,[],_,_,_,_,h,_=>by simp at h
|p::P,w::vs,0,m,nd,h1,h2,hk=>by simp at h1 h2;subst h1;subst h2;show bindC kindOf ((p,w)::P.zip vs) m p=_;unfold bindC;rw[Ng λv hv=>(List.nodup_cons.mp nd).1 (List.of_mem_zip hv).1,if_neg hk];simp
|p::P,w::vs,i+1,m,nd,h1,h2,hk=>by show bindC kindOf ((p,w)::P.zip vs) m x=_;unfold bindC;exact Nh (i:=i) (List.nodup_cons.mp nd).2 (by simpa using h1) (by simpa using h2) hk
noncomputable def start(N:List Str)(vs:List V):St:=vs.map some++List.replicate (N.length-vs.length) none
noncomputable def cxOf(CX:CXT)(P:Program)(w:World)(K:PySem.W.Frag)(mg:Str->Option Value)(base:Heap)(N:List Str)(qual:Str)(scope:Scope)(f:Addr)(cd:Value)(A:Around)(outer:List Env)(s:Shared)(H:Hp)(E:XK):Cx where
 prog:=P
 w:=w
 K:=K
 mg:=mg
 base:=base
 A:=A.deeper (envOfC qual scope s.heap.objs.size f cd)
 N:=N
 s₀:=s
 H₀:=H
 env:=envOfC qual scope s.heap.objs.size f cd
 outer:=outer
 stack:=envOfC qual scope s.heap.objs.size f cd::outer
 ex:=[]
 calm:=true
 fn:=λ_=>true
 pn:=[]
 xe:=λe s'=>wpAny (model P w) (A.deeper (envOfC qual scope s.heap.objs.size f cd)) (leaving (envOfC qual scope s.heap.objs.size f cd) e) (λ_ s''=>CX outer H s E e s'') (λe' s''=>CX outer H s E e' s'') s'
theorem P9{sc:Scope}{n:Nat}{x:Str}(h:sc.names.lookup x=some .cell):∃c,(cellsFrom n sc.names []).lookup x=some c:=by have q:=PySem.W.cellsFrom_some sc.names n [] (.inl h);exact Option.isSome_iff_exists.mp q
theorem SR{CX:CXT}{P:Program}{w:World}{K:PySem.W.Frag}{mg:Str->Option Value}{base:Heap}{N ps:List Str}{qual:Str}{scope:Scope}{f:Addr}{cd:Value}{A:Around}{outer:List Env}{s s1:Shared}{H:Hp}{E:XK}{us:List Value}{vs:List V}(S:FnScope N ps scope)(hd:A.handled=none)(e0:Env0 P w K mg base A outer s H)(hl:vs.length=ps.length)(r:Vals vs us)(x:InCallC s s.heap.objs.size (bindL (envOfC qual scope s.heap.objs.size f cd).kindOf (ps.zip us) λ_=>none) (cellsFrom (s.heap.objs.size+1) scope.names []) (bindC (envOfC qual scope s.heap.objs.size f cd).kindOf (ps.zip us) λ_=>none) s1):Inv (cxOf CX P w K mg base N qual scope f cd A outer s H E) [] (start N vs) H s1:=by
 have hpl:ps.length<=N.length:=by have:=congrArg List.length S.pre;rw[List.length_take]at this;omega
 obtain⟨h1,tk,rfl,hk⟩:=x.done;have noA:∀b:Addr,b∉(cxOf CX P w K mg base N qual scope f cd A outer s H E).ex:=λb z=>absurd (show b∈([]:List Addr)from z) (by simp);refine⟨⟨e0.mod,S.kind,rfl,rfl,Nat.le_refl _,λy z c h1 h2=>?_,λy hy=>?_,λy c _ h=>?_,λ_=>hd,Around.frames_deeper e0.frames,.inr ⟨rfl,rfl⟩,λb z=>absurd z (noA b),e0.bs,e0.bsz,λb _ _=>noA b,λb z=>absurd z (noA b),e0.funs,e0.frf⟩,rfl,e0.bare,Un.kept hk,⟨_,x.toInCall.ns,λi y v h1 h2 h3=>?_⟩,λy c h=>⟨_,x.cell y c h⟩,e0.hok.fresh (Nat.le_refl _),λy c h=>?_,λp hp=>absurd (show p∈([]:List (Addr×Obj))from hp) (by simp),e0.hok.kept hk,?_⟩
 ·exact name_of_addr x.apart (PySem.mem_of_lookup h1) (PySem.mem_of_lookup h2)
 ·have hy:scope.names.lookup y=some .cell\/scope.names.lookup y=some .free:=hy;rcases hy with hy|hy
  ·exact P9 hy
  ·exact absurd rfl (S.nofree _ (PySem.mem_of_lookup hy))
 ·exact Nat.le_of_lt (x.above y c (PySem.mem_of_lookup h))
 ·have hi:i<vs.length:=by
   unfold start at h2;by_cases hi:i<vs.length
   ·exact hi
   ·rw[List.getElem?_append_right (by simpa using hi)]at h2;rw[List.getElem?_replicate]at h2;split at h2<;>cases h2
  have ha:vs[i]?=some v:=by
   unfold start at h2;rw[List.getElem?_append_left (by simpa using hi),List.getElem?_map]at h2;cases e:vs[i]? with
  |none=>rw[e]at h2;cases h2
  |some a=>rw[e]at h2;cases h2;rfl
  obtain⟨u,hu,rv⟩:=r.get ha;have hp:ps[i]?=some y:=by rw[<-S.pre,List.getElem?_take_of_lt (by omega)];exact h1
  have ndP:ps.Nodup:=by rw[<-S.pre];exact S.nd.sublist (List.take_sublist _ _)
  refine⟨u,rv,?_⟩;rcases S.par y (List.mem_of_getElem? hp)with k|k
  ·exact .inl ⟨k,Nf ndP hp hu k⟩
  ·obtain⟨c,e⟩:=P9 (n:=s.heap.objs.size+1) k;refine .inr ⟨.inl k,c,e,?_⟩;have q:=x.cell y c e;rw[Nh ndP hp hu (by show scope.names.lookup y≠_;rw[k];decide)]at q;exact q
 ·exact e0.hok.fresh (Nat.le_of_lt (x.above y c (PySem.mem_of_lookup h)))
 ·unfold start;show _=N.length;rw[List.length_append,List.length_map,List.length_replicate];omega
theorem LJ{CX:CXT}{P:Program}{w:World}{K:PySem.W.Frag}{mg:Str->Option Value}{base:Heap}{k:Nat}{f:Addr}{name qual:Str}{params:Arguments}{body:List Stmt}{scope:Scope}{dV kV doc pm cdv ct oc:Value}{an od:Option Addr}{osl:Array (Option Value)}{N ps:List Str}{sp:Sp}(lk:K.lookup f=some ⟨oc,od,.func (PySem.W.fnOf name qual params body scope dV kV doc pm an cdv ct),osl⟩)(hcd:PySem.W.codeIn K cdv qual=true)(S:FnScope N ps scope)(len:∀vs H Q E,sp vs H Q E->vs.length=ps.length)(hbody:∀(A:Around)(outer:List Env)(s:Shared)(H:Hp)(vs:List V)(Q:VK)(E:XK),Room k (A.deeper (envOfC qual scope s.heap.objs.size f cdv))->sp vs H Q E ->∃t,PSs (cxOf CX P w K mg base N qual scope f cdv A outer s H E) body t/\t {nx:=λ_ H'=>Q .non H',rt:=Q} (start N vs) H):FnOk P w K mg base CX (k+1) f (PySem.W.fnOf name qual params body scope dV kV doc pm an cdv ct) ps sp:=by
 refine⟨len,λA outer s H args us vs Q E hr e0 hb r hsp=>?_⟩;have hl:=len _ _ _ _ hsp;have KX:K.In s.heap:=e0.mod.kin.keeps λb o e=>(e0.bs b o e).1;have lim:s.heap.NoLimit:=e0.mod.nolimit.keeps λb o e=>(e0.bs b o e).1;have hkind:∀y∈ps.zip us,scope.names.lookup y.1=some .local\/(scope.names.lookup y.1=some .cell/\((cellsFrom (s.heap.objs.size+1) scope.names []).lookup y.1).isSome=true):=λ⟨n,v⟩hy=>by
  rcases S.par n (List.of_mem_zip hy).1 with q|q
  ·exact .inl q
  ·exact .inr ⟨q,PySem.W.cellsFrom_some _ _ _ (.inl q)⟩
 refine codeAny_call_function hr.depth (KX _ _ lk) rfl S.co S.gen rfl (PySem.W.codeRec_of KX hcd) (hb _ _ _ _ ?_);refine wpAny_newFunctionEnv_cells S.kind hkind λenv he s1 x=>?_;subst he;refine⟨lim.keeps x.toInCall.keep,codeAny_func ?_⟩;obtain⟨t,ht,hq⟩:=hbody A outer s H vs Q E (hr.deeper _) hsp;have I:Inv (cxOf CX P w K mg base N qual scope f cdv A outer s H E) [] (start N vs) H s1:=SR S hr.hd e0 hl r x;refine wpAny_mono (ht [] s1 (start N vs) H _ I hq) (λfl s' hs=>?_) λe s' hs=>hs;have fin:∀{σ':St}{H':Hp}{v:V}{u:Value},Inv (cxOf CX P w K mg base N qual scope f cdv A outer s H E) [] σ' H' s'->RelV v u->Q v H'->CE outer P w H s Q u s':=λ{σ' H' v u}J rv q=>⟨v,H',J.os,J.bare,J.base,J.hok,rv,q⟩;cases fl with
|ret u=>obtain⟨v,σ',H',J,rv,q⟩:=hs;exact fin J rv q
|next=>obtain⟨σ',H',J,q⟩:=hs;exact fin (v:=V.non) (u:=Value.none) J rfl q
|brk=>obtain⟨_,_,_,q⟩:=hs;exact False.elim q
|cont=>obtain⟨_,_,_,q⟩:=hs;exact False.elim q
open PySem PySem.Spec PyProof.Rows
section
variable {X:Cx}{x:Str}{p pos:Pos}{e:Expr}{es:List Expr}{t:TA}{id T:String}{r:List V->Hp->VK->Prop}
def tCB(r:List V->Hp->VK->Prop)(t:TA):TE:=λσ H Q=>t σ H λvs H1=>r vs H1 Q
theorem ZC(hc:YK X (.builtin id) r)(hg:Gl X x)(hm:X.mg x=none)(hv:bootBuiltins x=some (.builtin id))(ha:PA X (e::es) t)(hn:x≠"__name__":=by decide)(hdb:(x==("__debug__":Str))=false:=by decide)(he:starEach (e::es) X.env=(false,eval e X.env)::starEach es X.env:=by rfl)(hpl:(backTo pos (starEach es X.env)).any (·.1)=false:=by rfl):PE X (.Call (.Name x p) (e::es) [] pos) (tCB r t):=by intro pins s σ H Q I h;refine wpAny_Call_Name_kw (JE I hg hm hv ?_ hn hdb);exact PyProof.Rows.callWith_builtin1 (thn (ha pos pins s σ H _ I h) λus s1⟨vs,H1,I1,r1,q1⟩=>hc pins s1 σ H1 vs us Q I1 r1 q1) he hpl
theorem Yh(hc:YK X (.type T) r)(hg:Gl X x)(hm:X.mg x=none)(hv:bootBuiltins x=some (.type T))(ha:PA X (e::es) t)(hn:x≠"__name__":=by decide)(hdb:(x==("__debug__":Str))=false:=by decide)(he:starEach (e::es) X.env=(false,eval e X.env)::starEach es X.env:=by rfl)(hpl:(backTo pos (starEach es X.env)).any (·.1)=false:=by rfl):PE X (.Call (.Name x p) (e::es) [] pos) (tCB r t):=by intro pins s σ H Q I h;refine wpAny_Call_Name_kw (JE I hg hm hv ?_ hn hdb);exact PyProof.Rows.callWith_type1 (thn (ha pos pins s σ H _ I h) λus s1⟨vs,H1,I1,r1,q1⟩=>hc pins s1 σ H1 vs us Q I1 r1 q1) he hpl
end
end L2
namespace HT
open PySem PyProof.Rows
section
variable {prog:Program}{w:World}{A:Around}{E:Value->Shared->Prop}{s:Shared}
theorem cat_tup{t b:Addr}{vs ws:List Value}{Q:Value->Shared->Prop}(ht:IsTup s.heap t vs.toArray)(hb:IsTup s.heap b ws.toArray)(hv:vs≠[])(h1:ws=[]->Q (.ref t) s)(h2:ws≠[]->Q (.ref s.heap.objs.size) {s with heap:=s.heap.push {cls:=.type "tuple",data:=.seq (vs++ws).toArray}})(hsz:vs.length+ws.length<=sizeLine):wpAny (model prog w) A (binaryOp .Add (.ref t) (.ref b)) Q E s:=by
 obtain⟨⟨cls,dd,data,sl⟩,ho,hc,n,hd⟩:=id ht;obtain⟨⟨cls2,dd2,data2,sl2⟩,ho2,hc2,n2,hd2⟩:=id hb;simp only at hc hd hc2 hd2;subst hc hd hc2 hd2;have e:vs.toArray++ws.toArray=(vs++ws).toArray:=by simp
 by_cases hw:ws=[]
 ·exact concat_meets ⟨_,ho,rfl⟩ ⟨_,ho2,rfl⟩ noFill_tuple_add seq_tuple_add PySem.F.slot_tuple_add PySem.F.entry_tuple_add (PySem.F.args_tuple_add_2 _ _) (tuple_addW1 t b vs.toArray ws.toArray n n2 dd dd2 sl sl2 (by simpa using hv) (by simp[hw])) ⟨ho,ho2,h1 hw⟩
 ·refine concat_meets ⟨_,ho,rfl⟩ ⟨_,ho2,rfl⟩ noFill_tuple_add seq_tuple_add PySem.F.slot_tuple_add PySem.F.entry_tuple_add (PySem.F.args_tuple_add_2 _ _) (tuple_addW2 t b vs.toArray ws.toArray n n2 dd dd2 sl sl2 (by simpa using hv) (by simpa using hw) (by rw[List.size_toArray,List.size_toArray];exact hsz)) ⟨ho,ho2,?_⟩;rw[e];exact h2 hw
noncomputable def sIx(n d:Nat):Option Int->Nat
|none=>d
|some v=>if v<0 then(v+(n:Int)).toNat else min v.toNat n
theorem Dk(n d:Nat)(hd:d<=n)(o:Option Int):sIx n d o<=n:=by
 cases o with
|none=>exact hd
|some v=>
  show(if v<0 then(v+(n:Int)).toNat else min v.toNat n)<=n;by_cases hv:v<0
  ·rw[if_pos hv];omega
  ·rw[if_neg hv];exact Nat.min_le_right _ _
theorem Sf(v:Int)(n d:Nat):(if v<0 then max (v+(n:Int)) 0 else min v (n:Int))=((sIx n d (some v):Nat):Int):=by
 show(if v<0 then max (v+(n:Int)) 0 else min v (n:Int))=(((if v<0 then(v+(n:Int)).toNat else min v.toNat n):Nat):Int);by_cases hv:v<0
 ·simp only[if_pos hv];omega
 ·simp only[if_neg hv];omega
theorem Rg(lo hi:Option Int)(n:Nat):Builtin.Slice.sliceAdjust lo hi 1 (n:Int)=(((sIx n 0 lo:Nat):Int),((sIx n n hi:Nat):Int)):=by
 have h1:¬((1:Int)<0):=by omega
 unfold Builtin.Slice.sliceAdjust;simp only[h1,if_false];refine Prod.ext ?_ ?_
 ·cases lo with
 |none=>rfl
 |some v=>exact Sf v n 0
 ·cases hi with
 |none=>rfl
 |some v=>exact Sf v n n
theorem QB(i j:Nat):Builtin.Slice.slicePlaces (i:Int) (j:Int) 1=j-i:=by
 unfold Builtin.Slice.slicePlaces;have h1:(1:Int)>0:=by omega
 simp only[h1,if_true,Int.ediv_one];split<;>omega
theorem GQ{v:Value}{o:Option Int}{Q:Option Int->Shared->Prop}(p:IsPart v o)(h:Q o s):wpAny (model prog w) A (Builtin.Slice.slicePartIndex v) Q E s:=by
 cases p with
|none=>exact slicePart_none h
|int i t=>exact slicePart_int h
theorem UB{sl:Addr}{vl vu:Value}{lo hi:Option Int}{n:Nat}{Q:Int×Int×Nat->Shared->Prop}(hs:s.heap.IsSliceOf sl vl vu .none)(pl:IsPart vl lo)(pu:IsPart vu hi)(h:Q (((sIx n 0 lo:Nat):Int),1,sIx n n hi-sIx n 0 lo) s):wpAny (model prog w) A (Builtin.Slice.sliceApplied (.ref sl) (pure (n:Int))) Q E s:=by
 obtain⟨os,hos,hcs,hds⟩:=id hs;unfold Builtin.Slice.sliceApplied Builtin.Slice.sliceFields;refine wpAny_bind (wpAny_bind (wpAny_field hos hds (x:=vl) rfl (wpAny_bind (wpAny_field hos hds (x:=vu) rfl (wpAny_bind (wpAny_field hos hds (x:=.none) rfl (wpAny_pure ?_)))))));refine wpAny_bind (slicePart_none ?_);show wpAny _ _ (if((1:Int)==0)=true then _ else _) _ _ s;rw[if_neg (by decide)];refine wpAny_bind (GQ pl (wpAny_bind (GQ pu (wpAny_bind (wpAny_pure ?_)))));show wpAny _ _ (match Builtin.Slice.sliceAdjust lo hi 1 (n:Int)with|(lo,hi)=>pure (lo,(1:Int),Builtin.Slice.slicePlaces lo hi 1)) _ _ s
 rw[Rg lo hi n];show wpAny _ _ (pure (((sIx n 0 lo:Nat):Int),(1:Int),Builtin.Slice.slicePlaces ((sIx n 0 lo:Nat):Int) ((sIx n n hi:Nat):Int) 1)) _ _ s;rw[QB];exact wpAny_pure h
theorem Wu(xs:Array Value)(i k:Nat):((List.range k).filterMap λ(m:Nat)=>xs[((i:Int)+(m:Int)*1).toNat]?).toArray=((xs.toList.drop i).take k).toArray:=by
 have e:(λ(m:Nat)=>xs[((i:Int)+(m:Int)*1).toNat]?)=λm=>xs[i+m]?:=by
  funext m;have:((i:Int)+(m:Int)*1).toNat=i+m:=by omega
  rw[this]
 rw[e];have:=pick_run xs i k;rw[List.filterMap_map]at this;have e2:((λx=>xs[x]?) ∘ λx=>i+x)=λm=>xs[i+m]?:=rfl;rw[e2]at this;rw[this]
theorem getItem_tuple_cut{t sl:Addr}{items:Array Value}{vl vu:Value}{lo hi:Option Int}{Q:Value->Shared->Prop}(ht:IsTup s.heap t items)(hs:s.heap.IsSliceOf sl vl vu .none)(pl:IsPart vl lo)(pu:IsPart vu hi)(hw:¬(sIx items.size 0 lo=0/\sIx items.size items.size hi=items.size))(h:Q (.ref s.heap.objs.size) {s with heap:=s.heap.push {cls:=.type "tuple",data:=.seq ((items.toList.drop (sIx items.size 0 lo)).take (sIx items.size items.size hi-sIx items.size 0 lo)).toArray}})(hsz:items.size<=sizeLine):wpAny (model prog w) A (getItem (.ref t) (.ref sl)) Q E s:=by
 have htake:sizeOk (.seq ((items.toList.drop (sIx items.size 0 lo)).take (sIx items.size items.size hi-sIx items.size 0 lo)).toArray):=by show((items.toList.drop (sIx items.size 0 lo)).take (sIx items.size items.size hi-sIx items.size 0 lo)).toArray.size<=sizeLine;rw[List.size_toArray,List.length_take,List.length_drop,Array.length_toList];omega
 have hj:sIx items.size items.size hi<=items.size:=Dk _ _ (Nat.le_refl _) hi;obtain⟨os,hos,hcs,hds⟩:=id hs;have hTs:s.TypeIs (.ref sl) "slice":=⟨os,hos,hcs⟩;unfold getItem;try with_reducible refine wpAny_holding ?_
 first|refine wpAny_bind (wpAny_pure ?_)|skip
 refine wpAny_bind (wpAny_sequenceKey ht.typeIs (by decide) ?_);refine wpAny_bind (wpAny_callSpecial?_slot (name:=Str.ofString "__getitem__") ht.typeIs PyProof.Rows.slot_tuple_getitem (wpAny_call_entry PyProof.Rows.slot_tuple_getitem ht.typeIs entry_tuple_getitem ?_ (args_tuple_getitem _ _)));show wpAny _ _ (Builtin.Tuple.tupleItemsOf (.ref t) >>= _) _ _ s;refine wpAny_bind (tupleItemsOf_ ht ?_);refine wpAny_bind (wpAny_typeOf hTs ?_);rw[if_pos (by decide)];refine wpAny_bind (UB hs pl pu ?_);have hno:¬((((sIx items.size 0 lo:Nat):Int)==0&&(1:Int)==1&&(sIx items.size items.size hi-sIx items.size 0 lo)==items.size)=true):=by intro q;rw[Bool.and_eq_true,Bool.and_eq_true]at q;have q1:((sIx items.size 0 lo:Nat):Int)=0:=eq_of_beq q.1.1;have q2:sIx items.size items.size hi-sIx items.size 0 lo=items.size:=eq_of_beq q.2;exact hw ⟨by omega,by omega⟩
 show wpAny _ _ (if(((sIx items.size 0 lo:Nat):Int)==0&&(1:Int)==1&&(sIx items.size items.size hi-sIx items.size 0 lo)==items.size)=true then _ else _) _ _ s;rw[if_neg hno,Wu];first
 |exact wpAny_bind (m:=Builtin.Tuple.tupleExact _) (wpAny_newObj_type (wpAny_pure ⟨_,rfl,wpAny_pure h⟩) htake)
 |exact wpAny_bind (m:=Builtin.Tuple.tupleExact _) (wpAny_newObj_type (wpAny_bind (wpAny_pure (wpAny_pure ⟨_,rfl,wpAny_pure h⟩))) htake)
 |exact wpAny_bind (wpAny_bind (m:=Builtin.Tuple.tupleExact _) (wpAny_newObj_type (wpAny_pure (wpAny_pure ⟨_,rfl,wpAny_pure h⟩)) htake))
 |exact wpAny_bind (wpAny_bind (m:=Builtin.Tuple.tupleExact _) (wpAny_newObj_type (wpAny_pure ⟨_,rfl,wpAny_pure h⟩) htake))
end
end HT
namespace L2
open PySem PySem.Spec PyProof.Rows
noncomputable abbrev TO:=St->Hp->(Option Int->Hp->Prop)->Prop
def PO(X:Cx)(e:Option Expr)(t:TO):Prop:=∀(pins:List (Addr×Obj))(s:Shared)(σ:St)(H:Hp)(Q:Option Int->Hp->Prop),Inv X pins σ H s->t σ H Q ->wpAny (model X.prog X.w) X.A (evalPart e X.env) (λu s'=>∃o H',Inv X pins σ H' s'/\IsPart u o/\Q o H') X.xe s
noncomputable def YL:TO:=λ_ H Q=>Q none H
noncomputable def Ei(t:TE):TO:=λσ H Q=>t σ H λx H1=>∃i,x=.int i/\Q (some i) H1
section
variable {X:Cx}{e:Expr}{te:TE}{lo hi:Option Expr}{tl th:TO}{pos p2:Pos}
theorem Yg:PO X none YL:=by intro pins s σ H Q I h;rw[evalPart_none];exact wpAny_pure ⟨none,H,I,.none,h⟩
theorem Ye(h:PE X e te):PO X (some e) (Ei te):=by intro pins s σ H Q I hw;rw[evalPart_some];refine thn (h pins s σ H _ I hw) λu s1⟨x,H1,I1,r1,q1⟩=>?_;obtain⟨i,rfl,q⟩:=q1;obtain⟨t,rfl⟩:=r1;exact⟨some i,H1,I1,.int i t,q⟩
def SlR(X:Cx)(r:V->Option Int->Option Int->Hp->VK->Prop):Prop:=∀(pins:List (Addr×Obj))(s:Shared)(σ:St)(H:Hp)(x:V)(v vl vu:Value)(lo hi:Option Int)(sl:Addr)(Q:VK),Inv X pins σ H s->RelV x v->s.heap.IsSliceOf sl vl vu .none->IsPart vl lo->IsPart vu hi->r x lo hi H Q ->∃T id,typeLookup (.type T) "__getitem__"=pure (some (.builtin id))/\s.TypeIs v T/\wpAny (model X.prog X.w) X.A (getItem v (.ref sl)) (EP X pins σ Q) X.xe s
def tSl(r:V->Option Int->Option Int->Hp->VK->Prop)(te:TE)(tl th:TO):TE:=λσ H Q=>te σ H λx H1=>tl σ H1 λl H2=>th σ H2 λu H3=>r x l u H3 Q
theorem ZY{r:V->Option Int->Option Int->Hp->VK->Prop}(hr:SlR X r)(he:PE X e te)(hl:PO X lo tl)(hu:PO X hi th):PE X (.Subscript e (.Slice lo hi none p2) pos) (tSl r te tl th):=by intro pins s σ H Q I h;refine Subscript_ (thn (he pins s σ H _ I h) λv s1⟨x,H1,I1,r1,q1⟩=>?_);refine wpAny_Slice (thn (hl pins s1 σ H1 _ I1 q1) λvl s2⟨l,H2,I2,pl,q2⟩=>thn (hu pins s2 σ H2 _ I2 q2) λvu s3⟨u,H3,I3,pu,q3⟩=>?_);rw[evalPart_none];refine wpAny_pure ?_;have I4:Inv X pins σ H3 {s3 with heap:=s3.heap.push {cls:=.type "slice",data:=.fields #[vl,vu,.none]}}:=I3.kept (t':=s3.toks) λb ob q=>Heap.get?_push_of_some _ q;obtain⟨T,id,hT,ht,hg⟩:=hr pins {s3 with heap:=s3.heap.push {cls:=.type "slice",data:=.fields #[vl,vu,.none]}} σ H3 x v vl vu l u s3.heap.objs.size Q I4 r1 (Heap.IsSliceOf.new ..) pl pu q3;show wpAny (model X.prog X.w) X.A (subscriptTail e (.Slice lo hi none p2) v (.ref s3.heap.objs.size)) (EP X pins σ Q) X.xe {s3 with heap:=s3.heap.push {cls:=.type "slice",data:=.fields #[vl,vu,.none]}};exact tail_any (ops:=[.ref s3.heap.objs.size,v]) ht hT hg (by with_unfolding_all rfl)
noncomputable def cutV(xs:List V)(lo hi:Option Int):List V:=(xs.drop (HT.sIx xs.length 0 lo)).take (HT.sIx xs.length xs.length hi-HT.sIx xs.length 0 lo)
theorem XI(xs:List V)(lo hi:Option Int):(cutV xs lo hi).length<=xs.length:=by unfold cutV;rw[List.length_take,List.length_drop];omega
noncomputable def rSlT(K:PySem.W.Frag):V->Option Int->Option Int->Hp->VK->Prop:=λx lo hi H Q=>∃a xs,x=.ref a/\SqT K H a xs /\¬(HT.sIx xs.length 0 lo=0/\HT.sIx xs.length xs.length hi=xs.length)/\∀p,H p=none->Q (.ref p) (upd H p (.tup (cutV xs lo hi)))
theorem XJ:SlR X (rSlT X.K):=by
 intro pins s σ H x v vl vu lo hi sl Q I rx hs pl pu h;obtain⟨a,xs,rfl,hx,hw,q⟩:=h;cases rx;obtain⟨its,r,ht,hz⟩:=I.tuple hx;have hlen:its.toArray.size=xs.length:=by rw[List.size_toArray];exact r.length.symm
 refine⟨"tuple",_,PyProof.Rows.slot_tuple_getitem.lookup,ht.typeIs,?_⟩;refine HT.getItem_tuple_cut ht hs pl pu (by rw[hlen];exact hw) ?_ (by rw[hlen];exact hz);rw[hlen];refine⟨.ref s.heap.objs.size,_,I.laid (t':=s.toks) (o:=.tup (cutV xs lo hi)) (λb ob q=>Heap.get?_push_of_some _ q) (Nat.le_refl _) ?_,rfl,q _ (I.hok.fresh (Nat.le_refl _))⟩;exact⟨Nat.le_trans (XI xs lo hi) hz,_,(r.drop (HT.sIx xs.length 0 lo)).take (HT.sIx xs.length xs.length hi-HT.sIx xs.length 0 lo),IsTup.new _ _⟩
def ED(K:PySem.W.Frag):R2:=λx y H Q=>∃a b xs ys,x=.ref a/\y=.ref b/\SqT K H a xs/\SqT K H b ys/\xs≠[]/\xs.length+ys.length<=sizeLine /\(ys=[]->Q (.ref a) H)/\(ys≠[]->∀p,H p=none->Q (.ref p) (upd H p (.tup (xs++ys))))
theorem Vals.nil_iff{xs:List V}{us:List Value}(r:Vals xs us):us=[]↔xs=[]:=by
 cases r with
|nil=>simp
|cons _ _=>simp
theorem K0:OpR X (binaryOp .Add) (ED X.K):=by intro pins s σ H x y v u Q I rx ry h;obtain⟨a,b,xs,ys,rfl,rfl,ha,hb,hx,hz,q1,q2⟩:=h;cases rx;cases ry;obtain⟨its,r1,p1,_⟩:=I.tuple ha;obtain⟨its2,r2,p2,_⟩:=I.tuple hb;refine HT.cat_tup p1 p2 (λz=>hx (r1.nil_iff.mp z)) (λz=>⟨.ref a,H,I,rfl,q1 (r2.nil_iff.mp z)⟩) (λz=>?_) (by rw[<-r1.length,<-r2.length];exact hz);refine⟨.ref s.heap.objs.size,_,I.laid (t':=s.toks) (o:=.tup (xs++ys)) (λb ob q=>Heap.get?_push_of_some _ q) (Nat.le_refl _) ?_,rfl,q2 (λw=>z (r2.nil_iff.mpr w)) _ (I.hok.fresh (Nat.le_refl _))⟩;exact⟨by rw[List.length_append];exact hz,_,r1.append r2,IsTup.new _ _⟩
end
open PySem PySem.Spec PyProof.Rows
noncomputable def ixN(n:Nat)(i:Int):Option Nat:=if 0<=i then(if i<n then some i.toNat else none)else if -(n:Int)<=i then some (i+n).toNat else none
noncomputable def atI{α:Type}(xs:List α)(i:Int):Option α:=(ixN xs.length i).bind λj=>xs[j]?
theorem RR{n:Nat}{i:Int}{j:Nat}(h:ixN n i=some j):seqIndex? i n=some j/\j<n/\-(n:Int)<=i/\i<n:=by
 unfold ixN at h;by_cases h0:0<=i
 ·rw[if_pos h0]at h;by_cases h1:i<n
  ·rw[if_pos h1]at h;have e:i.toNat=j:=Option.some.inj h;exact⟨by rw[seqIndex_of h0 h1,e],by omega,by omega,h1⟩
  ·rw[if_neg h1]at h;cases h
 ·rw[if_neg h0]at h;by_cases h1:-(n:Int)<=i
  ·rw[if_pos h1]at h;have e:(i+n).toNat=j:=Option.some.inj h;exact⟨by rw[seqIndex_neg (by omega) h1,e],by omega,h1,by omega⟩
  ·rw[if_neg h1]at h;cases h
theorem NZ{α:Type}{xs:List α}{i:Int}{v:α}(h:atI xs i=some v):∃j,seqIndex? i xs.length=some j/\xs[j]?=some v/\j<xs.length/\-(xs.length:Int)<=i/\i<xs.length:=by
 unfold atI at h;cases e:ixN xs.length i with
|none=>rw[e]at h;cases h
|some j=>rw[e]at h;obtain⟨h1,h2,h3,h4⟩:=RR e;exact⟨j,h1,h,h2,h3,h4⟩
theorem Zn{α:Type}{xs:List α}{j:Nat}{v:α}(h:xs[j]?=some v):atI xs (j:Int)=some v:=by
 have hj:j<xs.length:=(List.getElem?_eq_some_iff.mp h).1;have e:ixN xs.length (j:Int)=some j:=by unfold ixN;rw[if_pos (by omega),if_pos (by omega)];simp
 unfold atI;rw[e];exact h
theorem Kt{α:Type}(xs:List α)(v:α):atI (xs++[v]) (-1)=some v:=by
 have hl:(xs++[v]).length=xs.length+1:=by simp
 have e:ixN (xs++[v]).length (-1)=some xs.length:=by unfold ixN;rw[hl,if_neg (by decide),if_pos (by omega)];congr 1;omega
 unfold atI;rw[e];show(xs++[v])[xs.length]?=some v;simp
def N5(b:Expr):Prop:=∀o i,subscripted b false o i=operate [o,i] (getItem o i)
def IxR(X:Cx)(r:R2):Prop:=∀(value slice:Expr)(pins:List (Addr×Obj))(s:Shared)(σ:St)(H:Hp)(x y:V)(v u:Value)(Q:VK),Inv X pins σ H s->RelV x v->RelV y u->r x y H Q ->subscripted slice false v u=operate [v,u] (getItem v u)->wpAny (model X.prog X.w) X.A (subscriptTail value slice v u) (EP X pins σ Q) X.xe s
def MtR(X:Cx)(id:String)(r:V->List V->Hp->VK->Prop):Prop:=∀(pins:List (Addr×Obj))(s:Shared)(σ:St)(H:Hp)(x:V)(xs:List V)(v:Value)(us:List Value)(Q:VK),Inv X pins σ H s->RelV x v->Vals xs us->r x xs H Q ->wpAny (model X.prog X.w) X.A (call (.builtin id) (v::us)) (EP X pins σ Q) X.xe s
section
variable {X:Cx}{a b:Expr}{ta tb:TE}{pos:Pos}
theorem Yb{r:R2}(hr:IxR X r)(ha:PE X a ta)(hb:PE X b tb)(hs:N5 b):PE X (.Subscript a b pos) (tOp r ta tb):=by intro pins s σ H Q I h;exact Subscript_ (binT ha hb I h λv u s2 x y H2 I2 rx ry q=>hr a b pins s2 σ H2 x y v u Q I2 rx ry q (hs _ _))
def rIxL(K:PySem.W.Frag):R2:=λx y H Q=>∃p xs i v,x=.ref p/\y=.int i/\SqL K H p xs/\atI xs i=some v/\Q v H
def rIxT(K:PySem.W.Frag):R2:=λx y H Q=>∃p xs i v,x=.ref p/\y=.int i/\SqT K H p xs/\atI xs i=some v/\Q v H
def rIxS:R2:=λx y H Q=>∃z i c,x=.str z/\y=.int i/\z.length<=sizeLine/\atI z.cps.toList i=some c/\Q (.str ⟨#[c]⟩) H
theorem Lg:IxR X (rIxL X.K):=by
 intro value slice pins s σ H x y v u Q I rx ry h hs;obtain⟨p,xs,i,z,rfl,rfl,hq,he,q⟩:=h;cases rx;obtain⟨t,rfl⟩:=ry;obtain⟨its,r,pl,hz⟩:=I.list hq;obtain⟨j,h1,h2,h3,h4,h5⟩:=NZ he;obtain⟨w,ew,rw'⟩:=r.get h2;have hl:=r.length;have hn:=Vf;have fin:EP X pins σ Q w s:=⟨z,H,I,rw',q⟩;by_cases h0:0<=i
 ·have hj:i.toNat=j:=by rw[seqIndex_of h0 h5]at h1;exact Option.some.inj h1
  exact item_listR pl.isList h0 (by omega) (by rw[hj];simpa using ew) fin hs
 ·have hj:(i+(its.toArray.size:Int)).toNat=j:=by rw[seqIndex_neg (by omega) h4]at h1;rw[List.size_toArray,<-hl];exact Option.some.inj h1
  exact subscriptTail_builtinR (x:=w) pl.isList.typeIs slot_list_getitem.lookup (wpAny_getItem_list_neg (Q:=λr s'=>r=w/\EP X pins σ Q r s') pl.isList (by omega) (by rw[List.size_toArray]<;>omega) (by omega) (by rw[hj];simpa using ew) ⟨rfl,fin⟩) hs
theorem Z4:IxR X (rIxT X.K):=by intro value slice pins s σ H x y v u Q I rx ry h hs;obtain⟨p,xs,i,z,rfl,rfl,hq,he,q⟩:=h;cases rx;obtain⟨t,rfl⟩:=ry;obtain⟨its,r,pl,hz⟩:=I.tuple hq;obtain⟨j,h1,h2,h3,h4,h5⟩:=NZ he;obtain⟨w,ew,rw'⟩:=r.get h2;have hl:=r.length;have hn:=Vf;have fin:EP X pins σ Q w s:=⟨z,H,I,rw',q⟩;exact subscriptTail_builtinR (x:=w) pl.typeIs slot_tuple_getitem.lookup (getItem_tuple (j:=j) (Q:=λr s'=>r=w/\EP X pins σ Q r s') pl (by omega) (by omega) (by rw[List.size_toArray,<-hl];exact h1) (by simpa using ew) ⟨rfl,fin⟩) hs
theorem Mb:IxR X rIxS:=by
 intro value slice pins s σ H x y v u Q I rx ry h hs;obtain⟨z,i,c,rfl,rfl,hz,he,q⟩:=h;obtain⟨t,rfl⟩:=rx;obtain⟨t',rfl⟩:=ry;obtain⟨j,h1,h2,h3,h4,h5⟩:=NZ he;have hl:z.cps.toList.length=z.length:=by simp[Str.length]
 rw[hl]at h1 h4 h5;have hn:=Vf;exact tail_any (typeIs_str s z t) slot_str_getitem.lookup (getItem_str (c:=c) (by have e1:decide (i < -(2 ^ 63:Int))=false:=decide_eq_false (by omega);have e2:decide (i >= 2 ^ 63)=false:=decide_eq_false (by omega);rw[e1,e2,Bool.or_false]) (by rw[h1];simpa using h2) ⟨.str ⟨#[c]⟩,H,I.tok _,⟨_,rfl⟩,q⟩) hs
theorem QF(its:List Value)(n j:Nat)(u:Value):Obj.mapSeq (·.setIfInBounds j u) {cls:=.type "list",data:=.seq its.toArray n}={cls:=.type "list",data:=.seq (its.set j u).toArray n}:=by simp[Obj.mapSeq]
theorem Inv.lst{pins:List (Addr×Obj)}{σ:St}{H:Hp}{s:Shared}{p:Addr}{xs:List V}(I:Inv X pins σ H s)(h:H p=some (.lst xs)):∃(its:List Value)(n:Nat),Vals xs its/\s.heap.get? p=some {cls:=.type "list",data:=.seq its.toArray n}/\xs.length<=sizeLine:=by obtain⟨z,its,n,r,e⟩:=I.hok p _ h;exact⟨its,n,r,e,z⟩
theorem Inv.lstUpd{pins:List (Addr×Obj)}{σ:St}{H:Hp}{s:Shared}{p:Addr}{xs ys:List V}{its its':List Value}{n n':Nat}{f:Obj->Obj}(I:Inv X pins σ H s)(h:H p=some (.lst xs))(ho:s.heap.get? p=some {cls:=.type "list",data:=.seq its.toArray n})(hf:f {cls:=.type "list",data:=.seq its.toArray n}={cls:=.type "list",data:=.seq its'.toArray n'})(r:Vals ys its')(hz:ys.length<=sizeLine)(t:Nat):Inv X pins σ (upd H p (.lst ys)) {s with heap:=s.heap.update p f,toks:=t}:=by
 have e:(s.heap.update p f).get? p=some {cls:=.type "list",data:=.seq its'.toArray n'}:=by rw[Heap.get?_update_self f ho (by rw[hf]<;>rfl),hf]
 refine I.write (x:=p) (e:=p) (by rw[h];trivial) (.inl rfl) (λb u hb q=>(Heap.get?_update_other _ _ (Ne.symm hb)).trans q) ⟨_,e⟩ ?_;exact⟨hz,its',n',r,e⟩
noncomputable def EB:V->V->V->Hp->(Hp->Prop)->Prop:=λo i v H Q=>∃p xs k j,o=.ref p/\i=.int k/\H p=some (.lst xs)/\ixN xs.length k=some j/\Q (upd H p (.lst (xs.set j v)))
theorem set_list:PSet X EB:=by
 intro pins s σ H o i v ov iv u Q I ro ri rv h;obtain⟨p,xs,k,j,rfl,rfl,hp,hj,q⟩:=h;cases ro;obtain⟨t,rfl⟩:=ri;obtain⟨its,n,r,ho,hz⟩:=I.lst hp;obtain⟨h1,h2,h3,h4⟩:=RR hj;have hl:=r.length;have hn:=Vf;have I':Inv X pins σ (upd H p (.lst (xs.set j v))) {s with heap:=s.heap.update p (Obj.mapSeq (·.setIfInBounds j u))}:=I.lstUpd hp ho (QF its n j u) (r.set rv j) (by rw[List.length_set];exact hz) s.toks;by_cases h0:0<=k
 ·have hk:k.toNat=j:=by rw[seqIndex_of h0 h4]at h1;exact Option.some.inj h1
  exact PySem.W.ki_setAt ho h0 (by omega) (by rw[List.size_toArray,<-hl];exact h4) (by rw[hk];exact⟨_,I',q⟩)
 ·have hk:(k+(its.toArray.size:Int)).toNat=j:=by rw[seqIndex_neg (by omega) h3]at h1;rw[List.size_toArray,<-hl];exact Option.some.inj h1
  exact PySem.W.ki_setBack ho (by omega) (by rw[List.size_toArray,<-hl];exact h3) (by omega) (by rw[hk];exact⟨_,I',q⟩)
theorem Nt(lo hi:Option Int)(n:Nat):(sliceBounds lo hi none n).1=((HT.sIx n 0 lo:Nat):Int)/\(sliceBounds lo hi none n).2.1=((HT.sIx n n hi:Nat):Int)/\(sliceBounds lo hi none n).2.2=1:=by
 refine⟨?_,?_,rfl⟩
 ·cases lo with
 |none=>simp[sliceBounds,HT.sIx]
 |some i=>
   simp only[sliceBounds,HT.sIx,Option.getD_none,show(1:Int)>0 by decide,if_true];by_cases h:i<0
   ·simp only[h,if_true]<;>omega
   ·simp only[h,if_false]<;>omega
 ·cases hi with
 |none=>simp[sliceBounds,HT.sIx]
 |some i=>
   simp only[sliceBounds,HT.sIx,Option.getD_none,show(1:Int)>0 by decide,if_true];by_cases h:i<0
   ·simp only[h,if_true]<;>omega
   ·simp only[h,if_false]<;>omega
theorem My(its:List Value)(lo hi:Option Int):slicePick its.toArray lo hi none=((its.drop (HT.sIx its.length 0 lo)).take (HT.sIx its.length its.length hi-HT.sIx its.length 0 lo)).toArray:=by obtain⟨h1,h2,h3⟩:=Nt lo hi its.toArray.size;unfold slicePick;rw[h1,h2,h3];simp only[sliceRange_one,pick_run,List.size_toArray]<;>rfl
noncomputable def rSlL(K:PySem.W.Frag):V->Option Int->Option Int->Hp->VK->Prop:=λx lo hi H Q=>∃a xs,x=.ref a/\SqL K H a xs/\∀p,H p=none->Q (.ref p) (upd H p (.lst (cutV xs lo hi)))
theorem Vu:SlR X (rSlL X.K):=by intro pins s σ H x v vl vu lo hi sl Q I rx hs pl pu h;obtain⟨a,xs,rfl,hx,q⟩:=h;cases rx;obtain⟨its,r,ht,hz⟩:=I.list hx;have hlen:=r.length;refine⟨"list",_,slot_list_getitem.lookup,ht.isList.typeIs,?_⟩;refine wpAny_getItem_list_slice ht.isList hs pl pu .none (by simp) ?_ (by rw[List.size_toArray]<;>omega);rw[My,<-hlen];refine⟨.ref s.heap.objs.size,_,I.laid (t':=s.toks) (o:=.lst (cutV xs lo hi)) (λb ob q=>Heap.get?_push_of_some _ q) (Nat.le_refl _) ?_,rfl,q _ (I.hok.fresh (Nat.le_refl _))⟩;exact⟨Nat.le_trans (XI xs lo hi) hz,_,0,(r.drop (HT.sIx xs.length 0 lo)).take (HT.sIx xs.length xs.length hi-HT.sIx xs.length 0 lo),Heap.get?_push_size _ rfl⟩
theorem Jq:YK X (.builtin "len") (λxs H Q=>∃p ys,xs=[.ref p]/\(SqL X.K H p ys\/SqT X.K H p ys)/\Q (.int ys.length) H):=by
 intro pins s σ H xs us Q I r h;obtain⟨p,ys,rfl,hq,q⟩:=h;obtain⟨u,rfl,rx⟩:=vals1 r;cases rx;have hn:=Vf;rcases hq with hq|hq
 ·obtain⟨its,r',pl,hz⟩:=I.list hq;have hlen:=r'.length;exact Calls.call_len_list pl.isList (by simp only[List.size_toArray]<;>omega) ⟨.int ys.length,H,I.tok _,⟨s.toks+1,by rw[List.size_toArray,hlen]⟩,q⟩
 ·obtain⟨its,r',pl,hz⟩:=I.tuple hq;have hlen:=r'.length;exact len_tuple pl (by simp only[List.size_toArray]<;>omega) ⟨.int ys.length,H,I.tok _,⟨s.toks+1,by rw[List.size_toArray,hlen]⟩,q⟩
theorem Jp:YK X (.type "list") (λxs H Q=>∃p ys,xs=[.ref p]/\(SqL X.K H p ys\/SqT X.K H p ys)/\∀l,H l=none->Q (.ref l) (upd H l (.lst ys))):=by
 intro pins s σ H xs us Q I r h;obtain⟨p,ys,rfl,hq,q⟩:=h;obtain⟨u,rfl,rx⟩:=vals1 r;cases rx;have fin:∀(its:List Value),Vals ys its->ys.length<=sizeLine->∀(h':Heap)(c':Nat),(∀b o',s.heap.get? b=some o'->h'.get? b=some o') ->h'.get? s.heap.objs.size=some {cls:=.type "list",dict:=none,data:=.seq its.toArray c',slots:=#[]}->EP X pins σ Q (.ref s.heap.objs.size) {s with heap:=h'}:=λits r' hz h' c' kp e=>⟨.ref s.heap.objs.size,_,I.laid (t':=s.toks) kp (Nat.le_refl _) (show ZG X.prog X.w _ h' _ (.lst ys)from⟨hz,its,c',r',e⟩),rfl,q _ (I.hok.fresh (Nat.le_refl _))⟩;rcases hq with hq|hq
 ·obtain⟨its,r',pl,hz⟩:=I.list hq;have hlen:=r'.length;obtain⟨o,ho,hc,n,hd⟩:=pl.isList;exact call_list_seq p (.inl rfl) ho hc hd (λh' c' kp e=>fin its r' hz h' c' kp e) (by simp only[List.size_toArray]<;>omega)
 ·obtain⟨its,r',pl,hz⟩:=I.tuple hq;have hlen:=r'.length;obtain⟨o,ho,hc,n,hd⟩:=pl;exact call_list_seq p (.inr rfl) ho hc hd (λh' c' kp e=>fin its r' hz h' c' kp e) (by simp only[List.size_toArray]<;>omega)
theorem Y5:YK X (.type "tuple") (λxs H Q=>∃p ys,xs=[.ref p]/\((SqL X.K H p ys/\∀l,H l=none->Q (.ref l) (upd H l (.tup ys)))\/(SqT X.K H p ys/\Q (.ref p) H))):=by
 intro pins s σ H xs us Q I r h;obtain⟨p,ys,rfl,h⟩:=h;obtain⟨u,rfl,rx⟩:=vals1 r;cases rx;rcases h with⟨hq,q⟩|⟨hq,q⟩
 ·obtain⟨its,r',pl,hz⟩:=I.list hq;have hlen:=r'.length;refine call_tuple_list pl.isList (λh' kp=>?_) (by simp only[List.size_toArray]<;>omega);have I1:Inv X pins σ H {s with heap:=h'}:=I.kept (t':=s.toks) kp;have I2:Inv X pins σ (upd H h'.objs.size (.tup ys)) {s with heap:=h'.push {cls:=.type "tuple",data:=.seq its.toArray}}:=I1.laid (t':=s.toks) (λb o e=>Heap.get?_push_of_some _ e) (Nat.le_refl _) (show ZG X.prog X.w _ _ _ (.tup ys)from⟨hz,its,r',IsTup.new _ _⟩);exact⟨.ref h'.objs.size,_,I2,rfl,q _ (I1.hok.fresh (Nat.le_refl _))⟩
 ·obtain⟨its,r',pl,hz⟩:=I.tuple hq;exact call_tuple_same pl ⟨.ref p,H,I,rfl,q⟩
def tyV(K:PySem.W.Frag)(T:String)(x:V)(H:Hp):Prop:=match x with
|.str _=>T="str"
|.int _=>T="int"
|.ref p=>(T="list"/\∃xs,SqL K H p xs)\/(T="tuple"/\∃o,K.lookup p=some o/\o.cls=.type "tuple"/\o.dict=none) \/(T="dict"/\((∃kvs,H p=some (.dK kvs))\/∃kvs,H p=some (.dT kvs)))\/(T="set"/\∃S n,H p=some (.set S n))
|_=>False
theorem LV{pins:List (Addr×Obj)}{σ:St}{H:Hp}{s:Shared}{T:String}{x:V}{v:Value}(I:Inv X pins σ H s)(r:RelV x v)(ty:tyV X.K T x H):s.TypeIs v T/\∀a,v=.ref a->∃ob,s.heap.get? a=some ob/\ob.dict=none:=by
 cases x with
|str z=>obtain⟨t,rfl⟩:=r;cases(show T="str" from ty);exact⟨typeIs_str s z t,λ_ e=>nomatch e⟩
|int i=>obtain⟨t,rfl⟩:=r;cases(show T="int" from ty);exact⟨typeIs_int s i t,λ_ e=>nomatch e⟩
|ref p=>
  cases r;rcases ty with⟨rfl,xs,hq⟩|⟨rfl,o,hk,hc,hd⟩|⟨rfl,hk⟩|⟨rfl,S,n,hk⟩
  ·obtain⟨its,_,pl,_⟩:=I.list hq;refine⟨pl.isList.typeIs,λa e=>?_⟩;cases e;obtain⟨o,n,e,c,hd,_⟩:=pl;exact⟨o,e,hd⟩
  ·refine⟨⟨o,I.kIn p o hk,hc⟩,λa e=>?_⟩;cases e;exact⟨o,I.kIn _ o hk,hd⟩
  ·have z:∃o,s.heap.get? p=some o/\o.ExactDict:=by
    rcases hk with⟨kvs,hk⟩|⟨kvs,hk⟩
    ·obtain⟨_,_,_,_,o,_,_,e,ex,_⟩:=I.hok p _ hk;exact⟨o,e,ex⟩
    ·obtain⟨_,_,_,_,o,_,_,e,ex,_⟩:=I.hok p _ hk;exact⟨o,e,ex⟩
   obtain⟨o,e,ex⟩:=z;refine⟨⟨o,e,ex.1⟩,λa e2=>?_⟩;cases e2;exact⟨o,e,ex.2.1⟩
  ·obtain⟨o,_,_,_,e,ex,_⟩:=I.hok p _ hk;refine⟨⟨o,e,ex.1⟩,λa e2=>?_⟩;cases e2;exact⟨o,e,ex.2.1⟩
|_=>exact False.elim ty
def tBM(K:PySem.W.Frag)(T:String)(r:V->List V->Hp->VK->Prop)(to:TE)(t:TA):TE:=λσ H Q=>to σ H λx H1=>tyV K T x H1/\t σ H1 λxs H2=>r x xs H2 Q
variable {o e:Expr}{es:List Expr}{to:TE}{t:TA}{name:Str}{apos cpos:Pos}{T id:String}{r:V->List V->Hp->VK->Prop}
theorem WC(pa:PlainAttrs T)(slot:Slot T name id)(hty:typeOf (.builtin id)=pure (.type "method_descriptor"))(hm:MtR X id r)(ho:PE X o to)(ha:PA X (e::es) t)(hbase:attributeBase o name X.env (eval o X.env)=eval o X.env:=by rfl)(hfew:((backTo cpos (starEach (e::es) X.env)).all (λx=>!x.1)&&(backToKw cpos (keywordEach [] X.env)).all (λx=>x.1.isSome)&&decide ((e::es).length+([]:List Keyword).length+(if([]:List Keyword).isEmpty then 0 else 1)<30))=true:=by rfl)(hline:(apos.endLine==cpos.line)=true:=by rfl)(hs:starEach (e::es) X.env=(false,eval e X.env)::starEach es X.env:=by rfl)(hplain:(backTo cpos (starEach es X.env)).any (·.1)=false:=by rfl):PE X (.Call (.Attribute o name apos) (e::es) [] cpos) (tBM X.K T r to t):=by
 intro pins s σ H Q I h;refine wpAny_Call_method_late hbase hfew hline rfl (thn (ho pins s σ H _ I h) λv s1⟨x,H1,I1,r1,ty,q1⟩=>?_);obtain⟨h1,h2⟩:=LV I1 r1 ty;refine⟨T,id,pa,slot,hty,h1,h2,?_⟩;have hA:=ha cpos pins s1 σ H1 _ I1 q1;rw[hs]at hA ⊢;refine Calls.callWith_builtin (by show(false||(backTo cpos (starEach es X.env)).any (·.1))=false;rw[hplain]<;>rfl) (Calls.evalArgs_plain ?_)
 exact thn hA λus s2⟨vs,H2,I2,r2,q2⟩=>hm pins s2 σ H2 x vs v us Q I2 r1 r2 q2
end
open PySem PySem.Spec PyProof.Rows
def MtM(X:Cx)(id:String)(r:V->List V->Hp->VK->Prop):Prop:=∀(pins:List (Addr×Obj))(s:Shared)(σ:St)(H:Hp)(x:V)(xs:List V)(v:Value)(us:List Value)(Q:VK),Inv X pins σ H s->RelV x v->Vals xs us->r x xs H Q ->wpAny (model X.prog X.w) X.A (call (.builtin id) (v::us)) (EP X pins σ Q) X.xe s
theorem Vals.one:∀{x:V}{us:List Value},Vals [x] us->∃u,us=[u]/\RelV x u
|_,_,.cons r .nil=>⟨_,rfl,r⟩
theorem Vals.zero:∀{us:List Value},Vals [] us->us=[]
|_,.nil=>rfl
section
variable {X:Cx}{pins:List (Addr×Obj)}{σ:St}{H:Hp}{s:Shared}{l b:Addr}{xs ys zs:List V}
theorem Inv.lset{its its':List Value}{n:Nat}{f:Array Value->Array Value}{t':Nat}(I:Inv X pins σ H s)(hH:H l=some (.lst xs))(e:s.heap.get? l=some {cls:=.type "list",data:=.seq its.toArray n})(hf:f its.toArray=its'.toArray)(hv:Vals ys its')(hz:ys.length<=sizeLine):Inv X pins σ (upd H l (.lst ys)) {s with heap:=s.heap.update l (Obj.mapSeq f),toks:=t'}:=by have q:=PySem.IsL.update e f;rw[hf]at q;refine I.write (x:=l) (e:=l) (by rw[hH];exact trivial) (.inl rfl) (λb' u hb hu=>(Heap.get?_update_other s.heap (Obj.mapSeq f) (Ne.symm hb)).trans hu) ⟨_,q⟩ ?_;exact⟨hz,its',_,hv,q⟩
theorem Inv.lnew{its:List Value}{t':Nat}(I:Inv X pins σ H s)(hv:Vals ys its)(hz:ys.length<=sizeLine):Inv X pins σ (upd H s.heap.objs.size (.lst ys)) {s with heap:=s.heap.push {cls:=.type "list",data:=.seq its.toArray},toks:=t'}:=I.laid (λ_ _ q=>Heap.get?_push_of_some _ q) (Nat.le_refl _) ⟨hz,its,0,hv,Heap.get?_push_size _ rfl⟩
theorem Inv.fresh(I:Inv X pins σ H s):H s.heap.objs.size=none:=I.hok.fresh (Nat.le_refl _)
theorem Inv.lstM(I:Inv X pins σ H s)(hH:H l=some (.lst xs)):xs.length<=sizeLine/\∃(its:List Value)(n:Nat),Vals xs its/\xs.length=its.length/\s.heap.get? l=some {cls:=.type "list",data:=.seq its.toArray n}:=by obtain⟨z,its,n,r,e⟩:=I.hok l _ hH;exact⟨z,its,n,r,r.length,e⟩
end
section
variable {X:Cx}
noncomputable def KP:V->List V->Hp->VK->Prop:=λx vs H Q=>∃l xs y,x=.ref l/\vs=[y]/\H l=some (.lst xs)/\xs.length<sizeLine/\Q .non (upd H l (.lst (xs++[y])))
theorem SK:MtM X "list.append" KP:=by intro pins s σ H x vs v us Q I rx rv h;obtain⟨l,xs,y,rfl,rfl,hH,hz,q⟩:=h;cases rx;obtain⟨u,rfl,ru⟩:=rv.one;obtain⟨z,its,n,r,hl,e⟩:=I.lstM hH;refine call_meets F.slot_list_append ⟨_,e,rfl⟩ F.entry_list_append (F.args_list_append_2 _ _) (PySem.list_append l its.toArray n u (by rw[List.size_toArray];omega)) ⟨e,?_⟩;refine⟨.non,_,I.lset (its':=its++[u]) hH e (by simp) (r.append (.cons ru .nil)) ?_,rfl,q⟩;rw[List.length_append,List.length_singleton];omega
def rCat:R2:=λx y H Q=>∃l b xs zs,x=.ref l/\y=.ref b/\H l=some (.lst xs)/\H b=some (.lst zs)/\xs.length+zs.length<=sizeLine/\∀p,H p=none->Q (.ref p) (upd H p (.lst (xs++zs)))
theorem UP:OpR X (binaryOp .Add) rCat:=by
 intro pins s σ H x y v u Q I rx ry h;obtain⟨l,b,xs,zs,rfl,rfl,hH,hB,hz,q⟩:=h;cases rx;cases ry;obtain⟨z,its,n,r,hl,e⟩:=I.lstM hH;obtain⟨z2,its2,n2,r2,hl2,e2⟩:=I.lstM hB;refine PySem.P.add_list e e2 ?_ (by rw[List.size_toArray,List.size_toArray];omega);have ea:its.toArray++its2.toArray=(its++its2).toArray:=by simp
 rw[ea];exact⟨.ref _,_,I.lnew (t':=s.toks) (r.append r2) (by rw[List.length_append];omega),rfl,q _ I.fresh⟩
end
end L2
namespace Att
open PySem PySem.W PySem.Calls PyProof.Rows
theorem Gj{P:Params}{h:Heap}:∀(ns:List Int)(vs:List Value),WellAll P h vs (ns.map WData.int)->IntsAre vs ns:=by
 intro ns;induction ns with
|nil=>intro vs w;rw[List.map_nil]at w;cases w;exact .nil
|cons n ns ih=>
  intro vs w;rw[List.map_cons]at w;cases w with
 |cons a b=>cases a;exact .cons _ _ (ih _ b)
theorem Sw{l:OpenLaw}{n:Nat}(hn:l.most=some n){P:Params}{h:Heap}{args:List WData}{vals:List Value}(hpre:l.row.toRowW.claim.pre args=true)(hwl:WellAll P h vals args):∃a vs ns,vals=[Value.ref a]/\args=[WData.list (ns.map WData.int)]/\h.get? a=some {cls:=.type "list",data:=.seq vs.toArray}/\IntsAre vs ns/\ns.length<=n:=by
 have hsh:WShape.hasAll [] args [.list .int]=true:=(pre_splitW hpre).1;have hc:l.pre.holds [] {args:=args}=true:=(pre_splitW hpre).2;obtain⟨d,r,rfl,h1,h2⟩:=hasAllW_cons hsh;obtain rfl:=hasAllW_nil h2;obtain⟨xs,rfl,h3⟩:=hasW_list h1;obtain⟨ns,rfl⟩:=items_int h3;have hlen:ns.length<=n:=by
  unfold OpenLaw.pre at hc;have h4:(WTm.not (.lt (.lit (.int (n:Int))) (.len (.arg 0)))).holds [] {args:=[.list (ns.map .int)]}=true:=by have h4:=(holds_andW hc).1;rw[hn]at h4;exact h4
  have h5:=condW_of h4 (w_not (w_lt w_lit (w_len_list (w_arg rfl))));rw[List.length_map]at h5;refine Nat.le_of_not_lt λq=>?_;have q':(n:Int)<((ns.length:Nat):Int):=by omega
  first
  |(rw[decide_eq_true q']at h5;exact absurd h5 (by decide))
  |(simp at h5;omega)
 cases hwl with
|cons w1 w2=>
  cases w2;cases w1 with
 |list ho hall=>exact⟨_,_,ns,rfl,rfl,ho,Gj ns _ hall,hlen⟩
theorem SH(l:OpenLaw)(args:List WData):l.row.toRowW.claim.post args (.bool true) args=true:=postW_of (r:=l.row.toRowW) (X:=(true==true)) (show WShape.has [] (.bool true) .bool=true by first|rfl|decide|simp[WShape.has,WShape.arms,WShape.armsAll]) (show(WTm.eq .res (.lit (.bool true))).value [] {args:=args,res:=some (.bool true),after:=args}=some (.bool (true==true))from w_eq_bool (w_res rfl) w_lit) rfl
theorem attach_call{l:OpenLaw}{n:Nat}{q:Program}{loose:List Str}{XP:(Str->Option Value)->Heap->Prop}{YP:World->Heap->Prop}{d:DefRec}(hn:l.most=some n)(hdf:d.params.defaults=[])(call:∀(w:World)(s₀ s₁:Shared)(mg mb:Str->Option Value)(fa:Addr)(o:Obj)(pm cd doc:Value)(a:Addr)(vs:List Value)(ns:List Int),Ground q loose [] XP w s₀ mg mb s₁.heap->YP w s₁.heap ->s₁.heap.get? fa=some o->o.data=.func (docDef d.name d.params d.body d.scope pm cd doc)->s₁.heap.CodeRec cd d.name->mg d.name=some (.ref fa) ->s₁.heap.get? a=some {cls:=.type "list",data:=.seq vs.toArray}->IntsAre vs ns->ns.length<=n->s₁.gens=#[] ->codeAny (model l.prog w) callerA (.call (.ref fa) ⟨[.ref a],[]⟩) (λr s'=>r=.ok (.ret (.bool true))/\OldK s₁.heap s'.heap/\s'.os=s₁.os/\AllBare s'.gens) s₁):WalkO q loose XP YP l.row.toRowW d [] (λf vs=>PySem.call f vs):=by intro w s₀ s₁ mg mb G Y fa o pm cd doc dV kV ho hd hcd hD hmg hg args vals as hpre hlay hrd hwl hlo;obtain rfl:dV=.none:=Dflts.none hD hdf;obtain rfl:kV=.none:=Dflts.noKw hD;obtain⟨a,vs,ns,rfl,rfl,hobj,hints,hlen⟩:=Sw hn hpre hwl;refine enter_call (codeAny_mono (call w s₀ s₁ mg mb fa o pm cd doc a vs ns G Y ho (fd_plain hd) hcd hmg hobj hints hlen hg) λr s' hq=>?_);obtain⟨rfl,h2,h3,h4⟩:=hq;exact⟨.inl ⟨.bool true,.bool true,[],rfl,λ_=>rfl,.bool true,SH l _,λ_=>⟨List.Pairwise.nil,λ_ hm=>(nomatch hm)⟩⟩,h2,h3,h4⟩
end Att
namespace L2
open PySem PySem.Spec PyProof.Rows
theorem MK:∀{vs:List Value}{ns:List Int},IntsAre vs ns->Vals (ns.map V.int) vs
|_,_,.nil=>.nil
|_,_,.cons n t h=>.cons ⟨t,rfl⟩ (MK h)
def Only(H:Hp):Prop:=∀b,H b=none\/∃o xs,H b=some (.frz o (.lst xs))
theorem WS{P:Program}{w:World}{K:PySem.W.Frag}{mg mb:Str->Option Value}{CX:CXT}{k:Nat}{fa a:Addr}{fd:FuncData}{x:Str}{sp:Sp}{s₁:Shared}{vs:List Value}{ns:List Int}(KX:K.In s₁.heap)(hns:s₁.heap.Ns mainGlobals mg)(hb:s₁.heap.Ns builtinsNs mb)(hbb:∀x:Str,x≠"__name__"->mb x=bootBuiltins x)(hlim:s₁.heap.NoLimit)(hg:s₁.gens=#[])(ha:s₁.heap.get? a=some {cls:=.type "list",data:=.seq vs.toArray})(hi:IntsAre vs ns)(hl:ns.length<=sizeLine)(hr:Room k callerA)(F:∀base:Heap,K.In base->base.Ns mainGlobals mg->FnOk P w K mg base CX k fa fd [x] sp)(hbind:∀(s:Shared)(u:Value),BindsTo s fd ⟨[u],[]⟩ [(x,u)])(hsp:∀H:Hp,Only H->SqL K H a (ns.map V.int)->sp [.ref a] H (λv _=>v=.bl true) λ_ _ _=>False)(hCX:∀H e s',CX [] H s₁ (λ_ _ _=>False) e s'->False):codeAny (model P w) callerA (.call (.ref fa) ⟨[.ref a],[]⟩) (λr s'=>r=.ok (.ret (.bool true))/\OldK s₁.heap s'.heap/\s'.os=s₁.os/\AllBare s'.gens) s₁:=by
 have rv:=MK hi;have lenV:=hi.length;have core:∀H:Hp,Only H->SqL K H a (ns.map V.int)->HOk P w H s₁.heap->(∀b,H b≠none->b=a)->(H a≠none->K.lookup a=none) ->codeAny (model P w) callerA (.call (.ref fa) ⟨[.ref a],[]⟩) (λr s'=>r=.ok (.ret (.bool true))/\OldK s₁.heap s'.heap/\s'.os=s₁.os/\AllBare s'.gens) s₁:=by
  intro H hO hS hok hA hK;have base_of:∀{b:Addr}{o:Obj},s₁.heap.get? b=some o->H b=none->(hidT s₁.heap H).get? b=some o:=λe n=>W3 e n;have noA:∀{b:Addr}{o:Obj}{es:Array DictEntry}{ep:Nat},s₁.heap.get? b=some o->o.data=.dict es ep->H b=none:=λ{b o es ep}e d=>by
   cases q:H b with
  |none=>rfl
  |some u=>have e':b=a:=hA b (by rw[q];simp);subst e';rw[ha]at e;cases e;have d':Data.seq vs.toArray _=Data.dict es ep:=d;cases d'
  have nsK:∀{b:Addr}{m:Str->Option Value},s₁.heap.Ns b m->(hidT s₁.heap H).Ns b m:=λ{b m}⟨o,es,ep,e,d,r⟩=>⟨o,es,ep,base_of e (noA e d),d,r⟩;have hKb:K.In (hidT s₁.heap H):=λb o e=>base_of (KX b o e) (by
   cases q:H b with
  |none=>rfl
  |some u=>have e':b=a:=hA b (by rw[q];simp);subst e';rw[hK (by rw[q];simp)]at e;cases e)
  have hM:Mod K mg (hidT s₁.heap H):=⟨hKb,nsK hns,⟨mb,nsK hb,hbb⟩,let ⟨mc,h1,h2⟩:=hlim;⟨mc,nsK h1,h2⟩⟩;have e0:Env0 P w K mg (hidT s₁.heap H) callerA [] s₁ H:=⟨rfl,hM,λb o e=>K7 e,Nat.le_of_eq (SU _ _),trivial,λb hb=>absurd (show b∈([]:List Addr)from hb) (by simp),hok,.of_eq hg⟩;refine codeAny_mono ((F _ hKb (nsK hns)).run callerA [] s₁ H ⟨[.ref a],[]⟩ [.ref a] [.ref a] _ _ hr e0 (hbind s₁ (.ref a)) (.cons rfl .nil) (hsp H hO hS)) λr s' h=>?_;cases r with
 |error e=>exact(hCX H e s' h).elim
 |ok fl=>
   cases fl with
  |next=>exact False.elim h
  |brk=>exact False.elim h
  |cont=>exact False.elim h
  |ret u=>
    obtain⟨v,H',os,bare,un,hok',r',q⟩:=h;have q':v=.bl true:=q;subst q';obtain rfl:u=Value.bool true:=r';refine⟨rfl,OldK.of_keep λb o e=>?_,os,bare⟩;cases q:H b with
   |none=>exact un.keep b o e q (by intro z;exact absurd (show b∈([]:List Addr)from z) (by simp)) (by simp)
   |some u=>
     rcases hO b with z|⟨ob,xs,z⟩
     ·rw[q]at z;cases z
     ·have z2:=un.frzs b ob _ z;obtain⟨e1,_⟩:=hok b _ z;obtain⟨e2,_⟩:=hok' b _ z2;rw[e]at e1;cases e1;exact e2
 cases hk:K.lookup a with
|some o=>have e:=KX a o hk;rw[ha]at e;cases e;refine core (λ_=>none) (λ_=>.inl rfl) (.inr ⟨_,vs.toArray,_,hk,rfl,rfl,rfl,by rw[List.size_toArray,lenV];exact hl,by simpa using rv⟩) (λb u z=>by have z':(none:Option HO)=some u:=z;cases z') (λb z=>absurd rfl z) λz=>absurd rfl z
|none=>
  refine core (λb=>if b=a then some (.frz {cls:=.type "list",data:=.seq vs.toArray} (.lst (ns.map V.int)))else none) (λb=>?_) (.inl (.inr ⟨{cls:=.type "list",data:=.seq vs.toArray},if_pos rfl⟩)) (λb u z=>?_) (λb z=>?_) λ_=>hk
  ·by_cases hb:b=a
   ·exact .inr ⟨_,_,if_pos hb⟩
   ·exact .inl (if_neg hb)
  ·by_cases hb:b=a
   ·have z':=(if_pos hb).symm.trans z;cases z';subst hb;exact⟨ha,by rw[List.length_map];exact hl,vs,_,rv,ha⟩
   ·have z':=(if_neg hb).symm.trans z;cases z'
  ·by_cases hb:b=a
   ·exact hb
   ·exact absurd (if_neg hb) z
open PySem PySem.Spec PyProof.Rows
noncomputable abbrev KOf{K:PySem.W.Frag}{h:Heap}(_:K.In h):PySem.W.Frag:=K
theorem walk_of{l:PySem.W.OpenLaw}{n k:Nat}{q:Program}{loose:List Str}{XP:(Str->Option Value)->Heap->Prop}{YP:World->Heap->Prop}{d:DefRec}{K:Params->PySem.W.Frag}{CX:World->CXT}{sp:World->Sp}{x:Str}(hn:l.most=some n)(hn2:n<=sizeLine)(hdf:d.params.defaults=[])(hr:Room k callerA)(hY:∀(w:World)(h:Heap),YP w h->(K w.params).In h)(F:∀(w:World)(mg:Str->Option Value)(fa:Addr)(h:Heap),(K w.params).In h->h.Ns mainGlobals mg->mg d.name=some (.ref fa) ->∃fd:FuncData,(∀(s:Shared)(u:Value),BindsTo s fd ⟨[u],[]⟩ [(x,u)]) /\∀base:Heap,(K w.params).In base->base.Ns mainGlobals mg->FnOk l.prog w (K w.params) mg base (CX w) k fa fd [x] (sp w))(hsp:∀(w:World)(H:Hp)(a:Addr)(ns:List Int),ns.length<=n->Only H->SqL (K w.params) H a (ns.map V.int)->sp w [.ref a] H (λv _=>v=.bl true) λ_ _ _=>False)(hCX:∀(w:World)(H:Hp)(s:Shared)(e:Value)(s':Shared),CX w [] H s (λ_ _ _=>False) e s'->False):PySem.W.WalkO q loose XP YP l.row.toRowW d [] (λf vs=>PySem.call f vs):=by refine Att.attach_call hn hdf λw s₀ s₁ mg mb fa o pm cd doc a vs ns G Y ho hd hcd hmg hobj hints hlen hg=>?_;have KX:=hY w _ Y;obtain⟨fd,hb,hF⟩:=F w mg fa _ KX G.T.g hmg;exact WS KX G.T.g G.T.b G.T.builtins G.T.nolimit hg hobj hints (Nat.le_trans hlen hn2) hr hF hb (λH hO hS=>hsp w H a ns hlen hO hS) λH e s'=>hCX w H s₁ e s'
open PySem PySem.Spec PyProof.Rows
noncomputable def inClass(s:Stmt)(j:Nat):Stmt:=match s with
|.ClassDef _ _ _ body _ _ _ _ _ _ _=>body.getD j (.Pass ⟨0,0,0,0⟩)
|_=>.Pass ⟨0,0,0,0⟩
noncomputable def Yj(s:Stmt):Arguments:=match s with
|.FunctionDef _ a _ _ _ _ _ _ _ _=>a
|_=>{posonlyargs:=[],args:=[],vararg:=none,kwonlyargs:=[],kw_defaults:=[],kwarg:=none,defaults:=[]}
noncomputable def ZJ(s:Stmt):List Stmt:=match s with
|.FunctionDef _ _ b _ _ _ _ _ _ _=>b
|_=>[]
noncomputable def Zf(s:Stmt):Scope:=match s with
|.FunctionDef _ _ _ _ _ _ sc _ _ _=>sc
|_=>{kind:=.function,names:=[],isGenerator:=false,isCoroutine:=false}
noncomputable abbrev CX0:CXT:=λ_ _ _ _ _ _=>False
abbrev E0:XK:=λ_ _ _=>False
theorem Z1{X:Cx}:Passes CX0 X E0:=λ_ _ _ _ _ _ _ h=>h.elim
structure Fun(K:PySem.W.Frag)(x qual:Str)(st:Stmt)(f:Addr)(fd:FuncData):Prop where
 ex:∃(oc:Value)(od:Option Addr)(kV doc pm:Value)(an:Option Addr)(cdv ct:Value)(osl:Array (Option Value)),
  fd=PySem.W.fnOf x qual (Yj st) (ZJ st) (Zf st) .none kV doc pm an cdv ct/\K.lookup f=some ⟨oc,od,.func fd,osl⟩/\PySem.W.codeIn K cdv qual=true
 kp:PySem.W.keepIn K (.ref f)=true
section
variable {P:Program}{w:World}{K:PySem.W.Frag}{mg:Str->Option Value}{base:Heap}
theorem Fun.ok{x qual:Str}{st:Stmt}{f:Addr}{fd:FuncData}{N ps:List Str}{k:Nat}{sp:Sp}(F:Fun K x qual st f fd)(S:FnScope N ps (Zf st))(len:∀vs H Q E,sp vs H Q E->vs.length=ps.length)(hbody:∀(cdv:Value)(A:Around)(outer:List Env)(s:Shared)(H:Hp)(vs:List V)(Q:VK)(E:XK),Room k (A.deeper (envOfC qual (Zf st) s.heap.objs.size f cdv))->sp vs H Q E ->∃t,PSs (cxOf CX0 P w K mg base N qual (Zf st) f cdv A outer s H E).nox (ZJ st) t/\t {nx:=λ_ H'=>Q .non H',rt:=Q} (start N vs) H):FnOk P w K mg base CX0 (k+1) f fd ps sp:=by obtain⟨oc,od,kV,doc,pm,an,cdv,ct,osl,rfl,lk,hcd⟩:=F.ex;refine LJ lk hcd S len λA outer s H vs Q E hr hsp=>?_;obtain⟨t,h,q⟩:=hbody cdv A outer s H vs Q E hr hsp;exact⟨t,h.nox,q⟩
theorem Fun.binds{x qual:Str}{st:Stmt}{f:Addr}{fd:FuncData}{ps:List Str}(F:Fun K x qual st f fd)(h:∀(kV doc pm:Value)(an:Option Addr)(cdv ct:Value)(us:List Value),us.length=ps.length->bindArgs (PySem.W.fnOf x qual (Yj st) (ZJ st) (Zf st) .none kV doc pm an cdv ct) ⟨us,[]⟩=pure (ps.zip us)):Binds K fd ps []:=by obtain⟨oc,od,kV,doc,pm,an,cdv,ct,osl,rfl,lk,hcd⟩:=F.ex;exact .all (h kV doc pm an cdv ct)
theorem XO{x qual:Str}{st:Stmt}{f:Addr}{oc:Value}{od an:Option Addr}{osl:Array (Option Value)}{kV doc pm cdv ct:Value}(l:K.lookup f=some ⟨oc,od,.func (PySem.W.fnOf x qual (Yj st) (ZJ st) (Zf st) .none kV doc pm an cdv ct),osl⟩)(c:PySem.W.codeIn K cdv qual=true)(k:PySem.W.keepIn K (.ref f)=true):Fun K x qual st f (PySem.W.fnOf x qual (Yj st) (ZJ st) (Zf st) .none kV doc pm an cdv ct):=⟨⟨oc,od,kV,doc,pm,an,cdv,ct,osl,rfl,l,c⟩,k⟩
end
theorem Y7{A:Around}{k:Nat}(hr:Room k A):A.units+1<cLine:=Nat.lt_of_le_of_lt (Nat.add_le_add_left (by decide:1<=64) _) hr.units
theorem Xf{n:Nat}(h:n<=1000):n<sizeLine:=Nat.lt_of_le_of_lt h (by decide)
section
variable {X:Cx}
theorem pv(i:Nat){x:Str}{pos:Pos}(hN:X.N[i]?=some x:=by rfl)(hv:Vis X.env.scope x:=by first|exact Or.inl rfl|exact Or.inr (Or.inl rfl)|exact Or.inr (Or.inr rfl))(hd:(x==("__debug__":Str))=false:=by decide)(hcd:(x==("__classdict__":Str))=false:=by decide):PE X (.Name x pos) (tVar i):=Ji hN hv hd hcd
end
theorem iteF{A B:Prop}(h:B):if false=true then A else B:=by rw[if_neg Bool.false_ne_true];exact h
theorem iteT{A B:Prop}(h:A):if true=true then A else B:=by rw[if_pos rfl];exact h
theorem ite2{c A B:Prop}[Decidable c](h1:c->A)(h2:¬c->B):if c then A else B:=by
 by_cases h:c
 ·rw[if_pos h];exact h1 h
 ·rw[if_neg h];exact h2 h
def Same(H H':Hp):Prop:=∀b o,H b=some o->H' b=some o
theorem Same.refl(H:Hp):Same H H:=λ_ _ h=>h
theorem Same.trans{H H1 H2:Hp}(a:Same H H1)(b:Same H1 H2):Same H H2:=λc o h=>b c o (a c o h)
open PySem PySem.Spec PyProof.Rows
section
variable {κ:Type}[DecidableEq κ]
noncomputable def valV(kvs:List (κ×V))(k:κ):Option V:=(kvs.find? λkv=>decide (kv.1=k)).map (·.2)
noncomputable def putK(kvs:List (κ×V))(k:κ)(v:V):List (κ×V):=if(kvs.any λkv=>decide (kv.1=k))=true then kvs.map (λkv=>if kv.1=k then(kv.1,v)else kv)else kvs++[(k,v)]
theorem Yw{p:κ×V}{r:List (κ×V)}{k:κ}(e:p.1=k):valV (p::r) k=some p.2:=by simp[valV,List.find?_cons,e]
theorem Yx{p:κ×V}{r:List (κ×V)}{k:κ}(e:¬p.1=k):valV (p::r) k=valV r k:=by simp[valV,List.find?_cons,e]
theorem Vq(k:κ):∀kvs:List (κ×V),(kvs.any λkv=>decide (kv.1=k))=(valV kvs k).isSome
|[]=>rfl
|p::r=>by
  rw[List.any_cons];by_cases e:p.1=k
  ·simp only[Yw e,decide_eq_true e,Bool.true_or,Option.isSome_some]
  ·rw[Yx e,decide_eq_false e,Bool.false_or];exact Vq k r
theorem Pb(k j:κ)(y:V):∀kvs:List (κ×V),valV (kvs.map λkv=>if kv.1=k then(kv.1,y)else kv) j=(valV kvs j).map λx=>if j=k then y else x
|[]=>rfl
|p::r=>by
  have ih:=Pb k j y r;rw[List.map_cons];by_cases h:p.1=k
  ·rw[if_pos h];by_cases e:p.1=j
   ·rw[Yw (p:=(p.1,y)) e,Yw e,Option.map_some,if_pos (e.symm.trans h)]
   ·rw[Yx (p:=(p.1,y)) e,Yx e,ih]
  ·rw[if_neg h];by_cases e:p.1=j
   ·rw[Yw (p:=p) e,Yw e,Option.map_some,if_neg (λz=>h (e.trans z))]
   ·rw[Yx (p:=p) e,Yx e,ih]
theorem ML(k j:κ)(y:V):∀kvs:List (κ×V),valV kvs k=none->valV (kvs++[(k,y)]) j=if j=k then some y else valV kvs j
|[],_=>by
  by_cases e:k=j
  ·rw[if_pos e.symm];exact Yw (p:=(k,y)) e
  ·rw[if_neg (λz=>e z.symm)];exact Yx (p:=(k,y)) e
|p::r,hn=>by
  rw[List.cons_append];have hk:¬p.1=k:=λz=>by rw[Yw z]at hn;cases hn
  rw[Yx hk]at hn;have ih:=ML k j y r hn;by_cases e:p.1=j
  ·rw[Yw e,Yw e,if_neg (λz=>hk (e.trans z))]
  ·rw[Yx e,Yx e,ih]
theorem Jx(kvs:List (κ×V))(k j:κ)(y:V):valV (putK kvs k y) j=if j=k then some y else valV kvs j:=by
 unfold putK;by_cases a:(kvs.any λkv=>decide (kv.1=k))=true
 ·rw[if_pos a,Pb];rw[Vq]at a;by_cases e:j=k
  ·obtain⟨x,hx⟩:=Option.isSome_iff_exists.mp a;rw[if_pos e,e,hx,Option.map_some,if_pos rfl]
  ·rw[if_neg e];cases valV kvs j with
  |none=>rfl
  |some x=>rw[Option.map_some,if_neg e]
 ·rw[if_neg a];refine ML k j y kvs ?_;rw[Vq]at a;cases q:valV kvs k with
 |none=>rfl
 |some x=>rw[q]at a;exact(a rfl).elim
theorem YA(kvs:List (κ×V))(k:κ)(v:V):(putK kvs k v).length<=kvs.length+1:=by
 unfold putK;split
 ·rw[List.length_map];omega
 ·rw[List.length_append,List.length_cons,List.length_nil];omega
theorem RelO.isSome_eq{o:Option V}{u:Option Value}(r:RelO o u):o.isSome=u.isSome:=by
 cases o with
|none=>cases u with
 |none=>rfl
 |some _=>exact(show False from r).elim
|some _=>cases u with
 |none=>exact(show False from r).elim
 |some _=>rfl
theorem KV.val{kvs:List (κ×V)}{vs:List (κ×Value)}(r:KV kvs vs)(k:κ):RelO (valV kvs k) (valueAt vs k):=by
 unfold KV at r;induction r with
|nil=>exact True.intro
|@cons p q ps qs h t ih=>
  obtain⟨h1,h2⟩:=h;by_cases e:p.1=k
  ·have e':q.1=k:=h1.symm.trans e;have b:valueAt (q::qs) k=some q.2:=by simp[valueAt,List.find?_cons,e']
   rw[Yw e,b];exact h2
  ·have e':¬q.1=k:=λz=>e (h1.trans z);have b:valueAt (q::qs) k=valueAt qs k:=by simp[valueAt,List.find?_cons,e']
   rw[Yx e,b];exact ih
theorem KV.any{kvs:List (κ×V)}{vs:List (κ×Value)}(r:KV kvs vs)(k:κ):(kvs.any λkv=>decide (kv.1=k))=vs.any λkv=>decide (kv.1=k):=by
 unfold KV at r;induction r with
|nil=>rfl
|cons h t ih=>rw[List.any_cons,List.any_cons,ih,h.1]
theorem KV.repl{kvs:List (κ×V)}{vs:List (κ×Value)}(r:KV kvs vs)(k:κ){y:V}{u:Value}(ry:RelV y u):KV (kvs.map λkv=>if kv.1=k then(kv.1,y)else kv) (vs.map λkv=>if kv.1=k then(kv.1,u)else kv):=by
 unfold KV at r ⊢;induction r with
|nil=>exact .nil
|@cons p q ps qs h t ih=>
  rw[List.map_cons,List.map_cons];refine .cons ?_ ih;obtain⟨h1,h2⟩:=h;by_cases e:p.1=k
  ·rw[if_pos e,if_pos (h1.symm.trans e)];exact⟨h1,ry⟩
  ·rw[if_neg e,if_neg (λz=>e (h1.trans z))];exact⟨h1,h2⟩
theorem KV.put{kvs:List (κ×V)}{vs:List (κ×Value)}(r:KV kvs vs)(k:κ){y:V}{u:Value}(ry:RelV y u):KV (putK kvs k y) (stored vs k u):=by
 unfold putK stored;rw[r.any k];by_cases e:(vs.any λkv=>decide (kv.1=k))=true
 ·rw[if_pos e,if_pos e];exact r.repl k ry
 ·rw[if_neg e,if_neg e];exact Paired.snoc r ⟨rfl,ry⟩
theorem KV.length{kvs:List (κ×V)}{vs:List (κ×Value)}(r:KV kvs vs):kvs.length=vs.length:=Paired.length r
end
theorem PF{P:Program}{w:World}{k:Key}{u:Value}(r:RelV (kV k) u):(ZX P w).is k u=true:=by
 cases k with
|inl i=>obtain⟨t,e⟩:=(show ∃t,u=Value.int i t from r);subst e;exact Py P w i t
|inr x=>obtain⟨t,e⟩:=(show ∃t,u=Value.str x t from r);subst e;exact Px P w x t
theorem MT{P:Program}{w:World}:∀{ks:List Key}{us:List Value},Vals (ks.map kV) us->ItemsAre (ZX P w) ks us
|[],_,r=>by rw[List.map_nil]at r;cases r;exact .nil
|k::ks,_,r=>by
  rw[List.map_cons]at r;cases r with
 |cons h t=>exact .cons (PF h) (MT t)
noncomputable abbrev KT(H:Hp):List (List Key×V)->List (List Key×Addr×Value)->Prop:=Paired λp q=>p.1=q.1/\H q.2.1=some (.tup (p.1.map kV))/\RelV p.2 q.2.2
theorem KT.val{H:Hp}{kvs:List (List Key×V)}{xs:List (List Key×Addr×Value)}(r:KT H kvs xs)(k:List Key):RelO (valV kvs k) ((atKey xs k).map (·.2)):=by
 induction r with
|nil=>exact True.intro
|@cons p q ps qs h t ih=>
  obtain⟨h1,_,h2⟩:=h;by_cases e:p.1=k
  ·have e':q.1=k:=h1.symm.trans e;have b:atKey (q::qs) k=some q.2:=by simp[atKey,List.find?_cons,e']
   rw[Yw e,b];exact h2
  ·have e':¬q.1=k:=λz=>e (h1.trans z);have b:atKey (q::qs) k=atKey qs k:=by simp[atKey,List.find?_cons,e']
   rw[Yx e,b];exact ih
theorem KT.repl{H:Hp}{kvs:List (List Key×V)}{xs:List (List Key×Addr×Value)}(r:KT H kvs xs)(k:List Key){y:V}{u:Value}(ry:RelV y u):KT H (kvs.map λkv=>if kv.1=k then(kv.1,y)else kv) (xs.map (putAt k u)):=by
 induction r with
|nil=>exact .nil
|@cons p q ps qs h t ih=>
  rw[List.map_cons,List.map_cons];refine .cons ?_ ih;obtain⟨h1,h2,h3⟩:=h;unfold putAt;by_cases e:p.1=k
  ·rw[if_pos e,if_pos (h1.symm.trans e)];exact⟨h1,h2,ry⟩
  ·rw[if_neg e,if_neg (λz=>e (h1.trans z))];exact⟨h1,h2,h3⟩
theorem KT.put{H:Hp}{kvs:List (List Key×V)}{xs:List (List Key×Addr×Value)}(r:KT H kvs xs)(k:List Key){b:Addr}{y:V}{u:Value}(hb:H b=some (.tup (k.map kV)))(ry:RelV y u):KT H (putK kvs k y) (storedH xs k b u):=by
 have e:(kvs.any λkv=>decide (kv.1=k))=(atKey xs k).isSome:=by rw[Vq,(r.val k).isSome_eq,Option.isSome_map]
 unfold putK storedH;rw[e];by_cases q:(atKey xs k).isSome=true
 ·rw[if_pos q,if_pos q];exact r.repl k ry
 ·rw[if_neg q,if_neg q];exact Paired.snoc r ⟨rfl,hb,ry⟩
theorem KT.keeps{H H':Hp}{kvs:List (List Key×V)}{xs:List (List Key×Addr×Value)}(r:KT H kvs xs)(ht:∀b ys,H b=some (.tup ys)->H' b=some (.tup ys)):KT H' kvs xs:=Paired.mapP r λ_ _ z=>⟨z.1,ht _ _ z.2.1,z.2.2⟩
section
variable {P:Program}{w:World}{H:Hp}{h:Heap}{a:Addr}
theorem LC{u:HO}(ok:HOk P w H h)(e:Rd H a u):ZG P w H h a u:=e.ok ok
theorem RZ{kvs:List (Key×V)}(ok:HOk P w H h)(e:Rd H a (.dK kvs)):kvs.length<=sizeLine/\(a==sysModules)=false/\∃vs,KV kvs vs/\h.DictOf (ZX P w) a vs:=show ZG P w H h a (.dK kvs)from LC ok e
theorem LK{kvs:List (Key×V)}(ok:HOk P w H h)(e:H a=some (.dK kvs)):kvs.length<=sizeLine/\(a==sysModules)=false/\∃vs,KV kvs vs/\h.DictOf (ZX P w) a vs:=RZ ok (.inl e)
theorem Ma{ks:List Key}(ok:HOk P w H h)(e:H a=some (.tup (ks.map kV))):(tupleKind (ZX P w)).is h ks a:=by obtain⟨_,its,r,o,h1,h2,n,h3⟩:=(show ZG P w H h a (.tup (ks.map kV))from ok a _ e);exact⟨o,its.toArray,n,h1,h2,h3,by simpa using MT r⟩
theorem RY{kvs:List (List Key×V)}(ok:HOk P w H h)(e:Rd H a (.dT kvs)):kvs.length<=sizeLine/\(a==sysModules)=false /\∃xs,KT H kvs xs/\h.DictOfH (tupleKind (ZX P w)) a xs:=by
 obtain⟨z,y,xs,r,o,es,ep,h1,h2,h3,h4,h5⟩:=(show ZG P w H h a (.dT kvs)from LC ok e);refine⟨z,y,xs,r,o,es,ep,h1,h2,h3,h4,λx hx=>?_,h5⟩;have all:∀{l:List (List Key×V)}{m:List (List Key×Addr×Value)},KT H l m->∀x∈m,(tupleKind (ZX P w)).is h x.1 x.2.1:=by
  intro l m q;induction q with
 |nil=>intro x hx;exact nomatch hx
 |@cons p q ps qs hq t ih=>
   intro x hx;rcases List.mem_cons.mp hx with e|hx
   ·subst e;exact Ma ok (by rw[<-hq.1];exact hq.2.1)
   ·exact ih x hx
 exact all r x hx
theorem PU{kvs:List (List Key×V)}(ok:HOk P w H h)(e:H a=some (.dT kvs)):kvs.length<=sizeLine/\(a==sysModules)=false /\∃xs,KT H kvs xs/\h.DictOfH (tupleKind (ZX P w)) a xs:=RY ok (.inl e)
end
def DGet(H:Hp)(a:Addr)(y:V)(r:Option V):Prop:=(∃kvs k,Rd H a (.dK kvs)/\y=kV k/\r=valV kvs k)\/∃kvs k b,Rd H a (.dT kvs)/\y=.ref b/\H b=some (.tup (k.map kV))/\r=valV kvs k
def DPut(H:Hp)(a:Addr)(y v:V)(H':Hp):Prop:=(∃kvs k,H a=some (.dK kvs)/\y=kV k/\kvs.length<sizeLine/\H'=upd H a (.dK (putK kvs k v))) \/∃kvs k b,H a=some (.dT kvs)/\y=.ref b/\H b=some (.tup (k.map kV))/\kvs.length<sizeLine/\H'=upd H a (.dT (putK kvs k v))
theorem DGet.k{H:Hp}{a:Addr}{kvs:List (Key×V)}{k:Key}(e:H a=some (.dK kvs)):DGet H a (kV k) (valV kvs k):=.inl ⟨kvs,k,.inl e,rfl,rfl⟩
theorem DGet.t{H:Hp}{a b:Addr}{kvs:List (List Key×V)}{k:List Key}(e:H a=some (.dT kvs))(eb:H b=some (.tup (k.map kV))):DGet H a (.ref b) (valV kvs k):=.inr ⟨kvs,k,b,.inl e,rfl,eb,rfl⟩
theorem DPut.k{H:Hp}{a:Addr}{kvs:List (Key×V)}{k:Key}{v:V}(e:H a=some (.dK kvs))(hl:kvs.length<sizeLine):DPut H a (kV k) v (upd H a (.dK (putK kvs k v))):=.inl ⟨kvs,k,e,rfl,hl,rfl⟩
theorem DPut.t{H:Hp}{a b:Addr}{kvs:List (List Key×V)}{k:List Key}{v:V}(e:H a=some (.dT kvs))(eb:H b=some (.tup (k.map kV)))(hl:kvs.length<sizeLine):DPut H a (.ref b) v (upd H a (.dT (putK kvs k v))):=.inr ⟨kvs,k,b,e,rfl,eb,hl,rfl⟩
section
variable {X:Cx}{pins:List (Addr×Obj)}{σ:St}{H:Hp}{s:Shared}{a:Addr}{y v:V}{u r:Value}{o:Option V}{A:Around}{E:Value->Shared->Prop}
theorem Inv.big(I:Inv X pins σ H s):sysModules<s.heap.objs.size:=by have h:mainGlobals<s.heap.objs.size:=(I.mod.glob.keeps I.bk).lt;exact Nat.lt_trans (by decide) h
theorem Tf{Q:Value->Shared->Prop}(hu:A.units+1<cLine)(I:Inv X pins σ H s)(g:DGet H a y (some v))(ry:RelV y u)(h:∀w' s',Inv X pins σ H s'->RelV v w'->Q w' s'):wpAny (model X.prog X.w) A (getItem (.ref a) u) Q E s:=by
 rcases g with⟨kvs,k,e,ey,l⟩|⟨kvs,k,b,e,ey,eb,l⟩
 ·subst ey;obtain⟨z,hd,vs,rel,dd⟩:=RZ I.hok e;obtain⟨w',hw,rw'⟩:=RelO.some_of (v:=v) (o:=valueAt vs k) (by rw[l];exact rel.val k);exact wpAny_getItem_of (PF ry) dd.mapOf hw (h w' _ (I.tok _) rw')
 ·subst ey;cases(show u=Value.ref b from ry);obtain⟨z,hd,xs,rel,dd⟩:=RY I.hok e;obtain⟨w',hw,rw'⟩:=RelO.some_of (v:=v) (o:=(atKey xs k).map (·.2)) (by rw[l];exact rel.val k);obtain⟨p,hp,hp2⟩:=Option.map_eq_some_iff.mp hw;refine wpAny_getItem_heap (tupleKind_room_in1 hu) (Ma I.hok eb) dd hp ?_;rw[hp2];exact h w' _ (I.tok _) rw'
theorem d_in{Q:Value->Shared->Prop}(hu:A.units+1<cLine)(I:Inv X pins σ H s)(g:DGet H a y o)(ry:RelV y u)(h:∀s',Inv X pins σ H s'->Q (.bool o.isSome) s'):wpAny (model X.prog X.w) A (compareOp .In u (.ref a)) Q E s:=by
 rcases g with⟨kvs,k,e,ey,l⟩|⟨kvs,k,b,e,ey,eb,l⟩
 ·subst ey;obtain⟨z,hd,vs,rel,dd⟩:=RZ I.hok e;refine wpAny_in_of (PF ry) hd dd.mapOf ?_;rw[<-(rel.val k).isSome_eq,<-l];exact h _ (I.tok _)
 ·subst ey;cases(show u=Value.ref b from ry);obtain⟨z,hd,xs,rel,dd⟩:=RY I.hok e;refine wpAny_in_heap (tupleKind_room_in1 hu) (Ma I.hok eb) hd dd ?_;have q:=(rel.val k).isSome_eq;rw[Option.isSome_map]at q;rw[<-q,<-l];exact h _ (I.tok _)
theorem NS{h':Heap}{t':Nat}{ob:HO}(I:Inv X pins σ H s)(mu:Mut (H a))(hs:Heap.SameBut a s.heap h')(he:∃q,h'.get? a=some q)(new:ZG X.prog X.w (upd H a ob) h' a ob):Inv X pins σ (upd H a ob) {s with heap:=h',toks:=t'}:=I.write (x:=a) (e:=a) mu (.inl rfl) (λb q hb z=>(hs.2 b hb).trans z) he new
theorem D8{P:Program}{w:World}{H':Hp}{h':Heap}{kvs:List (Key×V)}{vs:List (Key×Value)}(z:kvs.length<=sizeLine)(hd:(a==sysModules)=false)(rel:KV kvs vs)(dd:h'.DictOf (ZX P w) a vs):ZG P w H' h' a (.dK kvs):=⟨z,hd,vs,rel,dd⟩
theorem Te{H':Hp}{Q:Unit->Shared->Prop}(hu:A.units+1<cLine)(I:Inv X pins σ H s)(g:DPut H a y v H')(ry:RelV y u)(rv:RelV v r)(h:∀s',Inv X pins σ H' s'->Q () s'):wpAny (model X.prog X.w) A (setItem (.ref a) u r) Q E s:=by
 rcases g with⟨kvs,k,e,ey,l,eH⟩|⟨kvs,k,b,e,ey,eb,l,eH⟩
 ·subst ey eH;obtain⟨z,hd,vs,rel,dd⟩:=LK I.hok e;have hz:vs.length<=sizeLine:=by rw[<-rel.length];exact z
  have hl:(putK kvs k v).length<=sizeLine:=by have:=YA kvs k v;omega
  refine wpAny_setItem_pairs (hsz:=hz) (PF ry) dd λh' dd' hs=>h _ ?_;have he:∃q,h'.get? a=some q:=let ⟨q,_,_,hq,_⟩:=dd';⟨q,hq⟩
  exact NS I (by rw[e];exact True.intro) hs he (D8 hl hd (rel.put k rv) dd')
 ·subst ey eH;cases(show u=Value.ref b from ry);obtain⟨z,hd,xs,rel,dd⟩:=PU I.hok e;have hz:xs.length<=sizeLine:=by rw[<-Paired.length rel];exact z
  have hl:(putK kvs k v).length<=sizeLine:=by have:=YA kvs k v;omega
  refine wpAny_setItem_heap (hsz:=hz) (tupleKind_room_in1 hu) (Ma I.hok eb) dd λh' dd' hs=>h _ ?_;obtain⟨q,es,ep,hq,h2,h3,h4,_,h5⟩:=dd';refine NS I (by rw[e];exact True.intro) hs ⟨q,hq⟩ ⟨hl,hd,_,(rel.put k eb rv).keeps λc ys ec=>?_,q,es,ep,hq,h2,h3,h4,h5⟩;rw[Zj (ne_of ec e (λz=>nomatch z))];exact ec
end
def NoSl(i:Expr):Prop:=∀ov iv,subscripted i false ov iv=operate [ov,iv] (getItem ov iv)
theorem Rr{prog:Program}{w:World}{A:Around}{E:Value->Shared->Prop}{s:Shared}{env:Env}{value slice:Expr}{pos:Pos}{T id:String}{Q:Value->Shared->Prop}(hl:typeLookup (.type T) "__getitem__"=pure (some (.builtin id)))(hs:NoSl slice)(h:wpAny (model prog w) A (eval value env) (λo s₁=>wpAny (model prog w) A (eval slice env) (λi s₂=>s₂.TypeIs o T/\wpAny (model prog w) A (getItem o i) Q E s₂) E s₁) E s):wpAny (model prog w) A (eval (.Subscript value slice pos) env) Q E s:=by
 refine Subscript_ (wpAny_mono h (λo s₁ h₁=>wpAny_mono h₁ (λi s₂ h₂=>?_) λ_ _ x=>x) λ_ _ x=>x);obtain⟨hT,h₂⟩:=h₂;unfold subscriptTail;refine wpAny_bind ?_;rw[getitemInPython_of_ne hT.not_modules];refine wpAny_bind (wpAny_specialOf hT hl ?_);have fin:wpAny (model prog w) A (subscripted slice false o i) (λr s₃=>wpAny (model prog w) A (letTemporaryGo value o r >>= λ_=>pure r) Q E s₃) E s₂:=by rw[hs o i];exact wpAny_operating (wpAny_mono h₂ (λr s₃ h₃=>wpAny_bind (wpAny_letTemporaryGo (wpAny_pure h₃))) λ_ _ x=>x)
 first
 |exact wpAny_pure (wpAny_bind fin)
 |exact wpAny_bind (wpAny_pure (wpAny_bind fin))
 |exact wpAny_bind fin
theorem PX{X:Cx}{pins:List (Addr×Obj)}{σ:St}{H:Hp}{s:Shared}{a:Addr}{y:V}{o:Option V}(I:Inv X pins σ H s)(g:DGet H a y o):s.TypeIs (.ref a) "dict":=by
 rcases g with⟨kvs,k,e,_,_⟩|⟨kvs,k,b,e,_,_,_⟩
 ·obtain⟨_,_,vs,_,dd⟩:=RZ I.hok e;exact dd.typeIs
 ·obtain⟨_,_,xs,_,dd⟩:=RY I.hok e;exact dd.typeIs
def Er(td ty:TE):TE:=λσ H Q=>td σ H λx H1=>ty σ H1 λy H2=>∃a v,x=.ref a/\DGet H2 a y (some v)/\Q v H2
def tDIn(ty td:TE):TE:=λσ H Q=>ty σ H λy H1=>td σ H1 λx H2=>∃a o,x=.ref a/\DGet H2 a y o/\Q (.bl o.isSome) H2
def Ez(td ty tv:TE):TS:=λD σ H=>tv σ H λv H1=>td σ H1 λx H2=>ty σ H2 λy H3=>∃a H4,x=.ref a/\DPut H3 a y v H4/\D.nx σ H4
section
variable {X:Cx}{o i e value:Expr}{pos pos' tpos:Pos}{td ty tv:TE}
theorem JO(hu:X.A.units+1<cLine)(ho:PE X o td)(hi:PE X i ty)(hs:NoSl i):PE X (.Subscript o i pos) (Er td ty):=by intro pins s σ H Q I h;refine Rr PySem.F.slot_dict_getitem.lookup hs (thn (ho pins s σ H _ I h) λu s1⟨x,H1,I1,rx,q1⟩=>thn (hi pins s1 σ H1 _ I1 q1) λiv s2⟨y,H2,I2,ry,a,v,ex,g,q2⟩=>?_);subst ex;obtain rfl:u=Value.ref a:=rx;exact⟨PX I2 g,Tf hu I2 g ry λw' s3 I3 rw'=>⟨v,H2,I3,rw',q2⟩⟩
theorem WE(hu:X.A.units+1<cLine)(hi:PE X i ty)(ho:PE X o td):PC X .In i o (tDIn ty td):=by intro pins s σ H Q I h;refine thn (hi pins s σ H _ I h) λiv s1⟨y,H1,I1,ry,q1⟩=>thn (ho pins s1 σ H1 _ I1 q1) λu s2⟨x,H2,I2,rx,a,ov,ex,g,q2⟩=>?_;subst ex;obtain rfl:u=Value.ref a:=rx;exact d_in hu I2 g ry λs3 I3=>⟨.bl ov.isSome,H2,I3,rfl,q2⟩
theorem XE(hu:X.A.units+1<cLine)(ho:PE X o td)(hi:PE X i ty)(hv:PE X value tv)(hs:swapsWith value (some (.Subscript o i pos')) pos.line X.env=pure false):PS X (.Assign [.Subscript o i pos'] value pos) (Ez td ty tv):=by intro pins s σ H D I h;refine wpAny_Assign_Subscript (thn (hv pins s σ H _ I h) λr s1⟨v,H1,I1,rv,q1⟩=>thn (ho pins s1 σ H1 _ I1 q1) λu s2⟨x,H2,I2,rx,q2⟩=>thn (hi pins s2 σ H2 _ I2 q2) λiv s3⟨y,H3,I3,ry,a,H4,ex,g,q3⟩=>?_) hs;subst ex;obtain rfl:u=Value.ref a:=rx;exact Te hu I3 g ry rv λs4 I4=>⟨σ,H4,I4,q3⟩
end
theorem W6{P:Program}{w:World}{H:Hp}(h:Heap)(hb:sysModules<h.objs.size):ZG P w H (h.push {cls:=.type "dict",data:=.dict #[]}) h.objs.size (.dK []):=⟨Nat.zero_le _,beq_eq_false_iff_ne.mpr (Ne.symm (Nat.ne_of_lt hb)),[],.nil,Heap.DictOf.new h⟩
theorem PV{P:Program}{w:World}{H:Hp}(h:Heap)(hb:sysModules<h.objs.size):ZG P w H (h.push {cls:=.type "dict",data:=.dict #[]}) h.objs.size (.dT []):=⟨Nat.zero_le _,beq_eq_false_iff_ne.mpr (Ne.symm (Nat.ne_of_lt hb)),[],.nil,_,#[],0,Heap.get?_push_size _ rfl,⟨rfl,rfl,rfl⟩,rfl,rfl,List.nodup_nil⟩
def L8:TE:=λ_ H Q=>∀p,H p=none->Q (.ref p) (upd H p (.dK []))
def L4:TE:=λ_ H Q=>∀p,H p=none->Q (.ref p) (upd H p (.dT []))
section
variable {X:Cx}{pos:Pos}
theorem VI:PE X (.Dict [] [] pos) L8:=λpins s σ H Q I h=>wpAny_Dict_empty ⟨.ref s.heap.objs.size,_,I.laid (a:=s.heap.objs.size) (o:=.dK []) (t':=s.toks) (λ_ _ q=>Heap.get?_push_of_some _ q) (Nat.le_refl _) (W6 s.heap I.big),rfl,h _ (I.hok.fresh (Nat.le_refl _))⟩
theorem Wz:PE X (.Dict [] [] pos) L4:=λpins s σ H Q I h=>wpAny_Dict_empty ⟨.ref s.heap.objs.size,_,I.laid (a:=s.heap.objs.size) (o:=.dT []) (t':=s.toks) (λ_ _ q=>Heap.get?_push_of_some _ q) (Nat.le_refl _) (PV s.heap I.big),rfl,h _ (I.hok.fresh (Nat.le_refl _))⟩
end
structure M1(X:Cx)(o:Expr)(m:Str)(apos:Pos)(e:Expr)(cpos:Pos):Prop where
 base:attributeBase o m X.env (eval o X.env)=eval o X.env
 few:((backTo cpos (starEach [e] X.env)).all (λx=>!x.1)&&(backToKw cpos (keywordEach [] X.env)).all (λx=>x.1.isSome)
 &&decide (([e]:List Expr).length+([]:List Keyword).length+(if([]:List Keyword).isEmpty then 0 else 1)<30))=true
 line:(apos.endLine==cpos.line)=true
 trees:backTo cpos (starEach [e] X.env)=[(false,eval e X.env)]
structure M2(X:Cx)(o:Expr)(m:Str)(apos:Pos)(e f:Expr)(cpos:Pos):Prop where
 base:attributeBase o m X.env (eval o X.env)=eval o X.env
 few:((backTo cpos (starEach [e,f] X.env)).all (λx=>!x.1)&&(backToKw cpos (keywordEach [] X.env)).all (λx=>x.1.isSome)
 &&decide (([e,f]:List Expr).length+([]:List Keyword).length+(if([]:List Keyword).isEmpty then 0 else 1)<30))=true
 line:(apos.endLine==cpos.line)=true
 trees:backTo cpos (starEach [e,f] X.env)=[(false,eval e X.env),(false,eval f X.env)]
open PySem PySem.Spec PyProof.Rows
theorem J9(z:Str):strIterType z="str_ascii_iterator"\/strIterType z="str_iterator":=by
 unfold strIterType;split
 ·exact .inl rfl
 ·exact .inr rfl
theorem MF{P:Program}{w:World}{A:Around}(hh:A.handled=none)(it:Addr)(x:Str)(t:Tok):Walks P w A it [it] [it] x.cps.size (SignAt x) (λi h=>h.IsStrIter it (strIterType x) x t i):=by
 rcases J9 x with e|e
 ·rw[e];exact Walks.strAscii hh it x t
 ·rw[e];exact Walks.strWide hh it x t
noncomputable def Its(z:Str):It:=⟨λi _=>i<z.length,λi H x H'=>H'=H/\∃c,z.cps.toList[i]?=some c/\x=.str ⟨#[c]⟩,λi _=>z.length<=i⟩
theorem TU{P:Program}{w:World}{K:PySem.W.Frag}{tg:Expr}(z:Str)(t:Tok)(it:Addr):
  Turn P w K tg (Its z) [it] it (λi h=>i<=z.length/\h.IsStrIter it (strIterType z) z t i) where
 mem:=by simp
 obj:=λi h st b hb=>by
  have e:b=it:=by simpa using hb
  subst e
  obtain⟨_,o,e,c,d⟩:=st
  exact⟨o,e,λv z=>by rw[d]at z;cases z⟩
 keep:=λi h h' st k=>by
  obtain⟨l,o,e,r⟩:=st
  exact⟨l,o,k it (by simp) o e,r⟩
 item:=by
  intro X hP hw hK hc i pins s σ H E I hf st hg
  subst hP hw hK
  obtain⟨f0,f1,f2,f3,f4,f5⟩:=hf it (by simp)
  have W:=MF (P:=X.prog) (w:=X.w) (I.ok.hd hc) it z t
  refine W.item i s _ _ hg st.2 λv h' tk hv st' kk=>?_
  obtain⟨c,u,hcps,rfl⟩:=hv
  have I1:Inv X pins σ H {s with heap:=h',toks:=tk}:=I.turned (λb o hb e=>kk b o (by simpa using hb) e) f0 f1 f3 f4 f5
  obtain⟨o,e,c',d⟩:=id st'
  refine⟨_,rfl,RT (s:={s with heap:=h',toks:=tk}) e c' d ?_ ⟨.str ⟨#[c]⟩,H,I1,⟨u,rfl⟩,⟨rfl,c,by simpa using hcps,rfl⟩,⟨hg,st'⟩,λb hb=>(hf b hb).1⟩⟩
  rcases J9 z with e|e<;>rw[e]<;>decide
 done:=by
  intro X hP hw hK hc i pins s σ H E I hf st hg
  subst hP hw hK
  obtain⟨f0,f1,f2,f3,f4,f5⟩:=hf it (by simp)
  have W:=MF (P:=X.prog) (w:=X.w) (I.ok.hd hc) it z t
  obtain⟨hl,st⟩:=st
  have e:i=z.length:=Nat.le_antisymm hl hg
  subst e
  exact W.done s _ _ st λh' tk kk=>⟨rfl,I.turned (λb o hb e=>kk b o (by simpa using hb) e) f0 f1 f3 f4 f5⟩
 self:=λA i s Q E st h=>by
  obtain⟨_,st⟩:=st
  rcases J9 z with e|e
  ·rw[e]at st;exact wpAny_pyIter_striter_ascii st h
  ·rw[e]at st;exact wpAny_pyIter_striter_wide st h
section
variable {X:Cx}{tg:Expr}
noncomputable def iStr(tl:TE):TI:=λσ H R=>tl σ H λx H1=>∃z,x=.str z/\R (Its z) H1
theorem Ds{l:Expr}{tl:TE}(hl:PE X l tl):PI X tg l (iStr tl):=by
 intro pins s σ H R I h;refine thn (hl pins s σ H _ I h) λv s1⟨x,H1,I1,r1,q1⟩=>?_;obtain⟨z,e,q⟩:=q1;subst e;obtain⟨t,rfl⟩:=r1;refine wpAny_pyIter_strU ?_;refine⟨s1.heap.objs.size,[s1.heap.objs.size],_,_,H1,rfl,I1.kept (t':=s1.toks) λb o e=>Heap.get?_push_of_some _ e,TU z t _,⟨Nat.zero_le _,_,Heap.get?_push_size _ rfl,rfl,rfl⟩,λb hb=>?_,q⟩;have e:b=s1.heap.objs.size:=by simpa using hb
 subst e;exact I1.fpOk (Nat.le_refl _) (I1.hok.fresh (Nat.le_refl _))
end
theorem X7{α:Type}{n:Nat}{l:List α}(h:l.length=n+1):∃a t,l=a::t/\t.length=n:=by
 cases l with
|nil=>cases h
|cons a t=>exact⟨a,t,rfl,Nat.succ.inj h⟩
theorem len1{α:Type}{l:List α}(h:l.length=1):∃a,l=[a]:=by obtain⟨a,t,rfl,h'⟩:=X7 h;exact⟨a,by rw[List.eq_nil_of_length_eq_zero h']⟩
theorem len2{α:Type}{l:List α}(h:l.length=2):∃a b,l=[a,b]:=by obtain⟨a,t,rfl,h'⟩:=X7 h;obtain⟨b,rfl⟩:=len1 h';exact⟨a,b,rfl⟩
theorem len3{α:Type}{l:List α}(h:l.length=3):∃a b c,l=[a,b,c]:=by obtain⟨a,t,rfl,h'⟩:=X7 h;obtain⟨b,c,rfl⟩:=len2 h';exact⟨a,b,c,rfl⟩
theorem len4{α:Type}{l:List α}(h:l.length=4):∃a b c d,l=[a,b,c,d]:=by obtain⟨a,t,rfl,h'⟩:=X7 h;obtain⟨b,c,d,rfl⟩:=len3 h';exact⟨a,b,c,d,rfl⟩
theorem len5{α:Type}{l:List α}(h:l.length=5):∃a b c d e,l=[a,b,c,d,e]:=by obtain⟨a,t,rfl,h'⟩:=X7 h;obtain⟨b,c,d,e,rfl⟩:=len4 h';exact⟨a,b,c,d,e,rfl⟩
theorem len6{α:Type}{l:List α}(h:l.length=6):∃a b c d e f,l=[a,b,c,d,e,f]:=by obtain⟨a,t,rfl,h'⟩:=X7 h;obtain⟨b,c,d,e,f,rfl⟩:=len5 h';exact⟨a,b,c,d,e,f,rfl⟩
section
variable {prog:Program}{w:World}{A:Around}{R:Result->Shared->Prop}{s:Shared}
noncomputable abbrev NoX:Value->Shared->Prop:=λ_ _=>False
theorem LQ{α:Type}{M:Model}{t:Sem α}{Q:α->Shared->Prop}{E:Value->Shared->Prop}(h:wpAny M A t Q NoX s):wpAny M A t Q E s:=wpAny_mono h (λ_ _ q=>q) λ_ _ x=>x.elim
theorem Gg{elt target iter:Expr}{ifs:List Expr}{scope:Scope}{pos:Pos}{it acc:Value}{env:Env}(I:Nat->Shared->Prop)
  (turn:∀n s,I n s->wpAny (model prog w) A (pyNext it) (λr s₁=>match r with
  |none=>R (.ok .next) s₁
  |some v=>wpAny (model prog w) A (letOwnedTupleGo target it v) (λ_ s₀=>wpAny (model prog w) A (assign target env v) (λ_ s₂=>
     wpAny (model prog w) A (forIn ifs true λc r=>if r=true then do let ok <-isTrue c env (eval c env);pure (ForInStep.yield ok)else pure (ForInStep.yield r)) (λok s₃=>
      if ok=true then wpAny (model prog w) A (eval elt env) (λx s₄=>wpAny (model prog w) A (call (.builtin "list.append") [acc,x]) (λ_ s₅=>∃m,m<n/\I m s₅) NoX s₄) NoX s₃
      else ∃m,m<n/\I m s₃) NoX s₂) NoX s₀) NoX s₁) NoX s)
  (n:Nat) (h:I n s):
  codeAny (model prog w) A (.compLoop (.ListComp elt [⟨target,iter,ifs,0⟩] scope pos) 0 it acc env) R s:=by
 refine codeAny_loop rfl I (λn s hI=>?_) n h
 show wpAny _ A ((compTurn (.ListComp elt [⟨target,iter,ifs,0⟩] scope pos) 0 it acc env).onRaise (λx=>do noteFrame x env;theTreesLotGoes x)) _ _ s
 refine wpAny_noted (LQ ?_)
 rw[compTurn_list]
 refine wpAny_bind (wpAny_standAt (wpAny_bind (thn (turn n s hI) (λr s₁ h₁=>?_))))
 cases r with
|none=>exact wpAny_pure h₁
|some v=>
  refine wpAny_bind (thn h₁ λ_ s₀ h₀=>?_)
  refine wpAny_bind (thn h₀ λ_ s₂ h₂=>wpAny_bind (thn h₂ λok s₃ h₃=>?_))
  cases ok with
 |false=>exact wpAny_pure ⟨rfl,h₃⟩
 |true=>exact wpAny_bind (wpAny_bind (thn h₃ λx s₄ h₄=>wpAny_bind (thn h₄ λ_ s₅ h₅=>wpAny_pure (wpAny_pure ⟨rfl,h₅⟩))))
end
noncomputable def clGo(env:Env):List (Str×NameKind)->List (Str×Addr)->List (Str×Addr)
|[],cs=>cs
|(n,k)::r,cs=>clGo env r (if k==.free then(n,(env.cells.lookup n).getD 0)::cs else cs)
noncomputable def clOf(scope:Scope)(env:Env):List (Str×Addr):=clGo env scope.names []
theorem Vm{env:Env}:∀(names:List (Str×NameKind))(cs:List (Str×Addr)),(∀x∈names,x.2=.free->∃c,env.cells.lookup x.1=some c) ->
  (forIn names cs λ(x:Str×NameKind)(r:List (Str×Addr))=>(match x with
  |(name,kind)=>if(kind==.free)=true then(do let c <-cellOf env name;pure (ForInStep.yield ((name,c)::r)))else pure (ForInStep.yield r):Sem (ForInStep (List (Str×Addr)))))
   = pure (clGo env names cs)
|[],cs,_=>rfl
|(n,k)::r,cs,h=>by
  rw[List.forIn_cons]
  cases hk:k==NameKind.free with
 |true=>
   obtain⟨c,hc⟩:=h (n,k) List.mem_cons_self (by simpa using hk)
   have e:cellOf env n=pure c:=by unfold cellOf;rw[show env.cells.lookup n=some c from hc]
   simp only[hk,if_true,e,clGo,pure_bind]
   rw[show env.cells.lookup n=some c from hc]
   exact Vm r _ λx hx=>h x (List.mem_cons_of_mem _ hx)
 |false=>
   simp only[hk,Bool.false_eq_true,if_false,clGo,pure_bind]
   exact Vm r _ λx hx=>h x (List.mem_cons_of_mem _ hx)
theorem Mn{scope:Scope}{env:Env}(h:∀x∈scope.names,x.2=.free->∃c,env.cells.lookup x.1=some c):closureFor scope env=pure (clOf scope env):=by have e:=Vm (env:=env) scope.names [] h;unfold closureFor clOf;rw[<-e];simp only[bind_pure]
theorem JX{env:Env}{x:Str}:∀(names:List (Str×NameKind))(cs:List (Str×Addr)),(∀y∈names,y.2=.free->∃c,env.cells.lookup y.1=some c)->(∀c,cs.lookup x=some c->env.cells.lookup x=some c) ->(∀c,(clGo env names cs).lookup x=some c->env.cells.lookup x=some c)/\(((x,NameKind.free)∈names\/(cs.lookup x).isSome=true)->((clGo env names cs).lookup x).isSome=true)
|[],cs,_,h=>⟨h,λz=>z.elim (λz=>absurd z (by simp)) id⟩
|(n,k)::r,cs,hf,h=>by
  have hr:∀y∈r,y.2=NameKind.free->∃c,env.cells.lookup y.1=some c:=λy hy=>hf y (List.mem_cons_of_mem _ hy);show(∀c,(clGo env r (if k==.free then(n,(env.cells.lookup n).getD 0)::cs else cs)).lookup x=some c->_)/\(_->((clGo env r (if k==.free then(n,(env.cells.lookup n).getD 0)::cs else cs)).lookup x).isSome=true);cases hk:k==NameKind.free with
 |true=>
   obtain⟨c0,hc0⟩:=hf (n,k) List.mem_cons_self (by simpa using hk);have hc0':env.cells.lookup n=some c0:=hc0;simp only[if_true,hc0',Option.getD_some];have h2:∀c,((n,c0)::cs).lookup x=some c->env.cells.lookup x=some c:=λc q=>by
    rw[List.lookup_cons]at q;cases hx:x==n with
   |true=>
     rw[hx]at q;have e:x=n:=by simpa using hx
     subst e;cases q;exact hc0'
   |false=>rw[hx]at q;exact h c q
   obtain⟨a,b⟩:=JX r ((n,c0)::cs) hr h2;refine⟨a,λz=>b ?_⟩;by_cases hx:x=n
   ·right;subst hx;simp
   ·rcases z with z|z
    ·rcases List.mem_cons.mp z with e|z
     ·exact absurd (congrArg Prod.fst e) hx
     ·exact .inl z
    ·right;have:(x==n)=false:=by simpa using hx
     rw[List.lookup_cons,this];exact z
 |false=>
   simp only[Bool.false_eq_true,if_false];obtain⟨a,b⟩:=JX r cs hr h;refine⟨a,λz=>b ?_⟩;rcases z with z|z
   ·rcases List.mem_cons.mp z with e|z
    ·have:k=.free:=(congrArg Prod.snd e).symm;rw[this]at hk;exact absurd hk (by decide)
    ·exact .inl z
   ·exact .inr z
structure CompScope(scope sc:Scope):Prop where
 kind:scope.kind=.function
 nocell:∀y∈scope.names,y.2≠.cell
 loc:∀y∈scope.names,y.2=.local->scope.names.lookup y.1=some .local
 free:∀y∈scope.names,y.2=.free->sc.names.lookup y.1=some .cell\/sc.names.lookup y.1=some .free
theorem Vz{scope:Scope}{env:Env}{x:Str}(nc:∀y∈scope.names,y.2≠.cell):∀{k:NameKind},(relabel scope env).names.lookup x=some k->(k=.cell\/k=.free)->(x,NameKind.free)∈scope.names:=by
 have go:∀(names:List (Str×NameKind)),(∀y∈names,y.2≠NameKind.cell)->∀{k:NameKind},(names.map λ(n,k)=>if(k==NameKind.free&&env.scope.kind==.function&&env.kindOf n==some .cell)then(n,NameKind.cell)else(n,k)).lookup x=some k->(k=.cell\/k=.free)->(x,NameKind.free)∈names:=by
  intro names;induction names with
 |nil=>intro _ k h _;simp at h
 |cons y r ih=>
   intro hn k h hk;obtain⟨n,k'⟩:=y;have hn':∀y∈r,y.2≠NameKind.cell:=λy hy=>hn y (List.mem_cons_of_mem _ hy);have hk':k'≠NameKind.cell:=hn (n,k') List.mem_cons_self;rw[List.map_cons]at h;by_cases hc:(k'==NameKind.free&&env.scope.kind==.function&&env.kindOf n==some .cell)=true
   ·simp only[hc,if_true]at h;rw[List.lookup_cons]at h;cases hx:x==n with
   |true=>
     have e:x=n:=by simpa using hx
     have e2:k'=.free:=by simp only[Bool.and_eq_true]at hc;simpa using hc.1.1
     subst e e2;exact List.mem_cons_self
   |false=>rw[hx]at h;exact List.mem_cons_of_mem _ (ih hn' h hk)
   ·simp only[hc]at h;simp only[if_false,Bool.false_eq_true]at h;rw[List.lookup_cons]at h;cases hx:x==n with
   |true=>
     rw[hx]at h;cases h;have e:x=n:=by simpa using hx
     subst e;rcases hk with e|e
     ·exact absurd e hk'
     ·rw[e];exact List.mem_cons_self
   |false=>rw[hx]at h;exact List.mem_cons_of_mem _ (ih hn' h hk)
 intro k h hk;exact go scope.names nc h hk
theorem MB{scope:Scope}{env:Env}{x:Str}:(relabel scope env).names.lookup x=some .local->scope.names.lookup x=some .local:=by
 have go:∀(names:List (Str×NameKind)),(names.map λ(n,k)=>if(k==NameKind.free&&env.scope.kind==.function&&env.kindOf n==some .cell)then(n,NameKind.cell)else(n,k)).lookup x=some .local->names.lookup x=some .local:=by
  intro names;induction names with
 |nil=>intro h;simp at h
 |cons y r ih=>
   intro h;obtain⟨n,k'⟩:=y;rw[List.map_cons]at h;rw[List.lookup_cons];by_cases hc:(k'==NameKind.free&&env.scope.kind==.function&&env.kindOf n==some .cell)=true
   ·simp only[hc,if_true]at h;rw[List.lookup_cons]at h;cases hx:x==n with
   |true=>rw[hx]at h;cases h
   |false=>rw[hx]at h;exact ih h
   ·simp only[hc]at h;simp only[if_false,Bool.false_eq_true]at h;rw[List.lookup_cons]at h;cases hx:x==n with
   |true=>rw[hx]at h;exact h
   |false=>rw[hx]at h;exact ih h
 exact go scope.names
noncomputable def Jo(X:Cx)(scope:Scope)(N:List Str)(C:Addr)(s:Shared)(H:Hp)(ex:List Addr)(pn:List (Addr×Obj)):Cx where
 prog:=X.prog
 w:=X.w
 K:=X.K
 mg:=X.mg
 base:=X.base
 A:=X.A
 N:=N
 s₀:=s
 H₀:=H
 env:=compEnvC scope (clOf scope X.env) C X.env
 outer:=X.stack
 stack:=X.stack
 ex:=ex
 calm:=X.calm
 fn:=λ_=>false
 pn:=pn
 xe:=NoX
noncomputable def inner(cp:List (Option Nat))(σ:St):St:=cp.map λo=>o.bind λj=>(σ[j]?).join
structure CompNames(N0:List Str)(scope:Scope)(N:List Str)(cp:List (Option Nat)):Prop where
 len:cp.length=N.length
 at_:∀(i j:Nat)(x:Str),cp[i]?=some (some j)->N[i]?=some x->N0[j]?=some x/\scope.names.lookup x=some .free
noncomputable def namesOk(N0:List Str)(scope:Scope)(N:List Str)(cp:List (Option Nat)):Bool:=(cp.length==N.length)&&(List.range cp.length).all λi=>match cp[i]?,N[i]? with
 |some (some j),some x=>N0[j]?==some x&&scope.names.lookup x==some .free
 |_,_=>true
theorem CompNames.mk'{N0:List Str}{scope:Scope}{N:List Str}{cp:List (Option Nat)}(h:namesOk N0 scope N cp=true):CompNames N0 scope N cp:=by unfold namesOk at h;rw[Bool.and_eq_true,List.all_eq_true]at h;refine⟨by simpa using h.1,λi j x h1 h2=>?_⟩;have hi:i<cp.length:=(List.getElem?_eq_some_iff.mp h1).1;have q:=h.2 i (List.mem_range.mpr hi);rw[h1,h2]at q;simpa using q
section
variable {X:Cx}{pins:List (Addr×Obj)}{σ:St}{H:Hp}{s:Shared}
theorem Mo{scope:Scope}(I:Inv X pins σ H s)(S:CompScope scope X.env.scope):∀y∈scope.names,y.2=.free->∃c,X.env.cells.lookup y.1=some c:=λy hy e=>I.ok.has y.1 (S.free y hy e)
theorem PJ{scope:Scope}{N:List Str}{cp:List (Option Nat)}{fp:List Addr}{od:Obj}{h4:Heap}{tk:Nat}(S:CompScope scope X.env.scope)(CN:CompNames X.N scope N cp)(I:Inv X pins σ H s)(hfp:∀b∈fp,FpOk X pins H b)(hfo:∀b∈fp,∃o,s.heap.get? b=some o)(hod:∀v,od.data≠.cell v)(hns:h4.Ns (s.heap.push od).objs.size (λx=>([]:List (Str×Value)).reverse.lookup x))(hk:∀b o,(s.heap.push od).get? b=some o->h4.get? b=some o)(hfr:od.isFreed=false):Inv (Jo X scope N (s.heap.push od).objs.size {s with heap:=s.heap.push od} H (s.heap.objs.size::fp) (X.pn++pins)) [(s.heap.objs.size,od)] (inner cp σ) H {s with heap:=h4,toks:=tk}:=by
 have cl:=Mo I S;have look:∀x c,(clOf scope X.env).lookup x=some c->X.env.cells.lookup x=some c:=λx=>(JX scope.names [] cl (λc q=>by simp at q)).1;have hasc:∀x,(x,NameKind.free)∈scope.names->∃c,(clOf scope X.env).lookup x=some c:=λx hx=>
  Option.isSome_iff_exists.mp ((JX scope.names [] cl (λc q=>by simp at q)).2 (.inl hx));have kp:∀b o,s.heap.get? b=some o->(s.heap.push od).get? b=some o:=λb o e=>Heap.get?_push_of_some _ e;have kp4:∀b o,s.heap.get? b=some o->h4.get? b=some o:=λb o e=>hk b o (kp b o e);have hz:(s.heap.push od).objs.size=s.heap.objs.size+1:=Heap.size_push ..;have I3:Inv X pins σ H {s with heap:=s.heap.push od}:=I.kept (t':=s.toks) kp;have hD:H s.heap.objs.size=none:=I.hok.fresh (Nat.le_refl _);have hC:H (s.heap.push od).objs.size=none:=I3.hok.fresh (Nat.le_refl _);have hDo:h4.get? s.heap.objs.size=some od:=hk _ _ (Heap.get?_push_size _ hfr);have stk:∀b∈frs X.stack,b<s.heap.objs.size:=λb hb=>by
  rcases List.mem_cons.mp (I.stkSub b hb)with e|e
  ·rw[e];exact I.lt
  ·exact Nat.lt_of_not_le λz=>I.nofs z e
 have fpn:∀b∈fp,b∉frs X.stack:=λb hb hs=>by
  obtain⟨_,g1,g2,_⟩:=hfp b hb;rcases List.mem_cons.mp (I.stkSub b hs)with e|e
  ·exact g1 e
  ·exact g2 e
 have fplt:∀b∈fp,b<s.heap.objs.size:=λb hb=>let ⟨o,e⟩:=hfo b hb;Heap.lt_size e
 refine⟨⟨I.ok.mod,S.kind,I.ok.glob,I.ok.blt,Nat.le_refl _,λx y c h1 h2=>I.ok.inj x y c (look x c h1) (look y c h2),λx hx=>?_,λx c hf _=>(by cases hf),I.ok.hd,I.ok.frames,.inl rfl,λb hb=>?_,I3.bs,Nat.le_trans I.ok.bsz I3.sz,λb o e hb=>?_,λb hb=>?_,I3.stack,I3.stkFree⟩,rfl,I.bare,Un.kept hk,⟨_,hns,λi x v h1 h2 h3=>?_⟩,λx c hx=>?_,hC,λx c hx=>I.freeC x c (look x c hx),λp hp=>?_,I.hok.kept kp4,?_⟩
 ·have hx':(relabel scope X.env).names.lookup x=some .cell\/(relabel scope X.env).names.lookup x=some .free:=hx;rcases hx' with e|e
  ·exact hasc x (Vz S.nocell e (.inl rfl))
  ·exact hasc x (Vz S.nocell e (.inr rfl))
 ·show b≠(s.heap.push od).objs.size/\∀x c,(clOf scope X.env).lookup x=some c->c≠b;rcases List.mem_cons.mp hb with e|hb
  ·subst e;refine⟨by rw[hz];exact Nat.ne_of_lt (Nat.lt_succ_self _),λx c hx z=>?_⟩;obtain⟨v,q⟩:=I.cell x c (look x c hx);exact absurd q.lt (by rw[z];exact Nat.lt_irrefl _)
  ·exact⟨by rw[hz];exact Nat.ne_of_lt (Nat.lt_succ_of_lt (fplt b hb)),λx c hx=>(hfp b hb).2.2.2.2.1 x c (look x c hx)⟩
 ·rcases List.mem_cons.mp hb with z|hb
  ·subst z;have h1:=Heap.lt_size (I.bk _ _ e);exact Nat.lt_irrefl _ h1
  ·obtain⟨_,_,_,g3,_⟩:=hfp b hb;rcases g3 with g3|g3
   ·exact I.ok.noex b o e g3
   ·have h1:=Heap.lt_size e;have h2:=I.ok.bsz;exact absurd (Nat.lt_of_lt_of_le h1 (Nat.le_trans h2 g3)) (Nat.lt_irrefl _)
 ·show b∉frs X.stack;rcases List.mem_cons.mp hb with z|hb
  ·subst z;exact λz=>Nat.lt_irrefl _ (stk _ z)
  ·exact fpn b hb
 ·have h2':(inner cp σ)[i]?=some (some v):=h2;unfold inner at h2';rw[List.getElem?_map]at h2';cases hc:cp[i]? with
 |none=>rw[hc]at h2';cases h2'
 |some oj=>
   rw[hc]at h2';cases oj with
  |none=>have:(none:Option V)=some v:=Option.some.inj h2';cases this
  |some j=>
    have h2'':(σ[j]?).join=some v:=Option.some.inj h2';have hσ:σ[j]?=some (some v):=by
     cases q:σ[j]? with
    |none=>rw[q]at h2'';cases h2''
    |some o=>rw[q]at h2'';exact congrArg some h2''
    obtain⟨hN,hlook⟩:=CN.at_ i j x hc h1;have hfree:(x,NameKind.free)∈scope.names:=PySem.mem_of_lookup hlook;have hk2:=S.free _ hfree rfl;obtain⟨m,hn,hl⟩:=I.loc;have hvis:Vis X.env.scope x:=hk2.elim (λz=>.inr (.inl z)) λz=>.inr (.inr z);obtain⟨u,ru,lk⟩:=hl j x v hN hσ hvis;refine⟨u,ru,?_⟩;rcases lk with⟨z,_⟩|⟨_,c,hcl,cc⟩
    ·rcases hk2 with q|q<;>(have z':=z.symm.trans q;cases z')
    ·obtain⟨c2,hc2⟩:=hasc x hfree;have hcc:c2=c:=by have:=(look x c2 hc2).symm.trans hcl;exact Option.some.inj this
     subst hcc;obtain⟨o,ho,hd⟩:=cc;refine .inr ⟨?_,c2,hc2,⟨o,kp4 _ _ ho,hd⟩⟩;rcases h3 with q|q|q
     ·have q':=(MB q).symm.trans hlook;cases q'
     ·exact .inl q
     ·exact .inr q
 ·obtain⟨v,o,ho,hd⟩:=I.cell x c (look x c hx);exact⟨v,o,kp4 _ _ ho,hd⟩
 ·have hp':p∈(X.pn++pins)++[(s.heap.objs.size,od)]:=hp;rcases List.mem_append.mp hp' with hp1|hp1
  ·obtain⟨e,n,ne,nf,d⟩:=I.pin p hp1;have hlt:=Heap.lt_size e;refine⟨kp4 _ _ e,n,by show p.1≠(s.heap.push od).objs.size;rw[hz];exact Nat.ne_of_lt (Nat.lt_succ_of_lt hlt),λhb=>?_,d⟩;rcases List.mem_cons.mp (I.stkSub _ hb)with z|z
   ·exact ne z
   ·exact nf z
  ·have e:p=(s.heap.objs.size,od):=by simpa using hp1
   subst e;exact⟨hDo,hD,by show s.heap.objs.size≠(s.heap.push od).objs.size;rw[hz];exact Nat.ne_of_lt (Nat.lt_succ_self _),λz=>Nat.lt_irrefl _ (stk _ z),hod⟩
 ·show(inner cp σ).length=N.length;unfold inner;rw[List.length_map];exact CN.len
end
noncomputable def Zw(its:List Value)(k:Nat):Obj:={cls:=.type "list",data:=.seq its.toArray k}
theorem XF{its:List Value}{k:Nat}:∀v,(Zw its k).data≠.cell v:=λv z=>by have z':Data.seq its.toArray k=Data.cell v:=z;cases z'
section
variable {X:Cx}
def PTs(X:Cx)(ifs:List Expr)(t:TT):Prop:=
 ∀(pins:List (Addr×Obj))(s:Shared)(σ:St)(H:Hp)(Q:Bool->Hp->Prop),Inv X pins σ H s->t σ H Q ->
  wpAny (model X.prog X.w) X.A (forIn ifs true λc r=>if r=true then do let ok <-isTrue c X.env (eval c X.env);pure (ForInStep.yield ok)else pure (ForInStep.yield r)) (TP X pins σ Q) X.xe s
def tYes:TT:=λ_ H Q=>Q true H
theorem Ys:PTs X [] tYes:=λ_ _ _ H _ I h=>wpAny_tests_nil ⟨H,I,h⟩
theorem Gs{c:Expr}{t:TT}(h:PT X c t):PTs X [c] t:=λpins s σ H Q I hw=>wpAny_tests_one (h pins s σ H Q I hw)
def Lx(cp:List (Option Nat))(wi:TI)(g:TG)(tc:TT)(te:TE):TE:=λσ H Q=>wi σ H λJ H1=>∃W:Nat->Nat->List V->St->Hp->Prop,(∃m,W 0 m [] (inner cp σ) H1)/\∀i m ys τ H,W i m ys τ H ->(J.stop i H/\∀l,H l=none->Q (.ref l) (upd H l (.lst ys))) \/(J.go i H/\ys.length<sizeLine/\∃N:List V->St->Hp->Prop,(∀ys' τ' H',N ys' τ' H'->∃m',m'<m/\W (i+1) m' ys' τ' H') /\∀x H',J.yld i H x H'->g x τ H' λτ2 H2=>tc τ2 H2 λb H3=>if b=true then te τ2 H3 λy H4=>N (ys++[y]) τ2 H4 else N ys τ2 H3)
theorem Us{J:It}{g:TG}{tc:TT}{te:TE}{τ0:St}{H0:Hp}{R:List V->Hp->Prop}(n:Nat)(hn:n<=sizeLine)(Pv:Nat->List V->St->Hp->Prop)(h0:Pv 0 [] τ0 H0)(hl:∀i ys τ H,Pv i ys τ H->ys.length<=i)(hgo:∀i ys τ H,i<n->Pv i ys τ H->J.go i H)(hstop:∀ys τ H,Pv n ys τ H->J.stop n H)(hs:∀i ys τ H x H',i<n->Pv i ys τ H->J.yld i H x H'->g x τ H' λτ2 H2=>tc τ2 H2 λb H3=>if b=true then te τ2 H3 λy H4=>Pv (i+1) (ys++[y]) τ2 H4 else Pv (i+1) ys τ2 H3)(hd:∀ys τ H,Pv n ys τ H->R ys H):∃W:Nat->Nat->List V->St->Hp->Prop,(∃m,W 0 m [] τ0 H0)/\∀i m ys τ H,W i m ys τ H ->(J.stop i H/\R ys H) \/(J.go i H/\ys.length<sizeLine/\∃N:List V->St->Hp->Prop,(∀ys' τ' H',N ys' τ' H'->∃m',m'<m/\W (i+1) m' ys' τ' H') /\∀x H',J.yld i H x H'->g x τ H' λτ2 H2=>tc τ2 H2 λb H3=>if b=true then te τ2 H3 λy H4=>N (ys++[y]) τ2 H4 else N ys τ2 H3):=by
 refine⟨λi m ys τ H=>m=n-i/\i<=n/\Pv i ys τ H,⟨n,rfl,Nat.zero_le _,h0⟩,?_⟩;rintro i m ys τ H ⟨rfl,hi,p⟩;by_cases hlt:i<n
 ·refine .inr ⟨hgo i ys τ H hlt p,?_,Pv (i+1),λys' τ' H' p'=>⟨n-(i+1),by omega,rfl,hlt,p'⟩,λx H' y=>hs i ys τ H x H' hlt p y⟩;have:=hl i ys τ H p;omega
 ·have e:i=n:=by omega
  subst e;exact .inl ⟨hstop ys τ H p,hd ys τ H p⟩
theorem Yd{J:It}{g:TG}{te:TE}{τ0:St}{H0:Hp}{R:List V->Hp->Prop}(n:Nat)(hn:n<=sizeLine)(Pv:Nat->List V->St->Hp->Prop)(h0:Pv 0 [] τ0 H0)(hl:∀i ys τ H,Pv i ys τ H->ys.length<=i)(hgo:∀i ys τ H,i<n->Pv i ys τ H->J.go i H)(hstop:∀ys τ H,Pv n ys τ H->J.stop n H)(hs:∀i ys τ H x H',i<n->Pv i ys τ H->J.yld i H x H'->g x τ H' λτ2 H2=>te τ2 H2 λy H4=>Pv (i+1) (ys++[y]) τ2 H4)(hd:∀ys τ H,Pv n ys τ H->R ys H):∃W:Nat->Nat->List V->St->Hp->Prop,(∃m,W 0 m [] τ0 H0)/\∀i m ys τ H,W i m ys τ H ->(J.stop i H/\R ys H) \/(J.go i H/\ys.length<sizeLine/\∃N:List V->St->Hp->Prop,(∀ys' τ' H',N ys' τ' H'->∃m',m'<m/\W (i+1) m' ys' τ' H') /\∀x H',J.yld i H x H'->g x τ H' λτ2 H2=>tYes τ2 H2 λb H3=>if b=true then te τ2 H3 λy H4=>N (ys++[y]) τ2 H4 else N ys τ2 H3):=Us (J:=J) (g:=g) (tc:=tYes) (te:=te) n hn Pv h0 hl hgo hstop hs hd
theorem YG{elt iter tg:Expr}{ifs:List Expr}{scope:Scope}{pos:Pos}{N:List Str}{cp:List (Option Nat)}{wi:TI}{g:TG}{tc:TT}{te:TE}(hc:X.calm=true){sc:Scope}{N0:List Str}(hS0:CompScope scope sc)(hN0:CompNames N0 scope N cp)(hi:PI X tg iter wi)(hg:∀C s H ex pn,PG (Jo X scope N C s H ex pn) tg g)(ht:∀C s H ex pn,PTs (Jo X scope N C s H ex pn) ifs tc)(he:∀C s H ex pn,PE (Jo X scope N C s H ex pn) elt te)(hsc:X.env.scope=sc:=by rfl)(hxn:X.N=N0:=by rfl)(hs:∀x,foldedSetIterable iter X.env x=pure x:=by intro _;rfl):PE X (.ListComp elt [⟨tg,iter,ifs,0⟩] scope pos) (Lx cp wi g tc te):=by
 subst hsc hxn;have hS:=hS0;have hN:=hN0;intro pins s σ H Q I h;rw[eval_ListComp];refine wpAny_comprehension_free (use:=none) (cl:=clOf scope X.env) rfl hs (Mn (Mo I hS)) hS.kind hS.loc (thn (hi pins s σ H _ I h) λv s1 h1=>thn h1 λitv s2 h2=>?_);obtain⟨it,fp,tn,J,H2,rfl,I2,T,st2,f2,W,⟨m0,w0⟩,turn⟩:=h2;refine wpAny_newObj_type (wpAny_newFunctionEnv hS.nocell (by intro y hy;simp at hy) (λh4 hns hsb=>?_) hS.kind);dsimp only at hns hsb ⊢;have hz:(s2.heap.push (Zw [] 0)).objs.size=s2.heap.objs.size+1:=Heap.size_push ..;have hk4:∀b o,(s2.heap.push (Zw [] 0)).get? b=some o->h4.get? b=some o:=λb o e=>hsb.extBut b o (Nat.ne_of_lt (Heap.lt_size e)) (Heap.get?_push_of_some _ e);have hfo:∀b∈fp,∃o,s2.heap.get? b=some o:=λb hb=>let ⟨o,e,_⟩:=T.obj _ _ st2 b hb;⟨o,e⟩
 have fplt:∀b∈fp,b<s2.heap.objs.size:=λb hb=>let ⟨o,e⟩:=hfo b hb;Heap.lt_size e
 generalize hXc:Jo X scope N (s2.heap.push (Zw [] 0)).objs.size {s2 with heap:=s2.heap.push (Zw [] 0)} H2 (s2.heap.objs.size::fp) (X.pn++pins)=Xc;have J0:∀tk,Inv Xc [(s2.heap.objs.size,Zw [] 0)] (inner cp σ) H2 {s2 with heap:=h4,toks:=tk}:=λtk=>by rw[<-hXc];exact PJ hS hN I2 f2 hfo XF hns hk4 rfl
 have hg':PG Xc tg g:=hXc▸hg _ _ _ _ _;have ht':PTs Xc ifs tc:=hXc▸ht _ _ _ _ _;have he':PE Xc elt te:=hXc▸he _ _ _ _ _;have eP:Xc.prog=X.prog:=by rw[<-hXc];rfl
 have eW:Xc.w=X.w:=by rw[<-hXc];rfl
 have eK:Xc.K=X.K:=by rw[<-hXc];rfl
 have eA:Xc.A=X.A:=by rw[<-hXc];rfl
 have eC:Xc.calm=true:=by rw[<-hXc];exact hc
 have eX:Xc.xe=NoX:=by rw[<-hXc];rfl
 have eE:Xc.env=compEnvC scope (clOf scope X.env) (s2.heap.push (Zw [] 0)).objs.size X.env:=by rw[<-hXc];rfl
 have eL:Xc.env.locals=(s2.heap.push (Zw [] 0)).objs.size:=by rw[eE];rfl
 have eFs:Xc.fs=frs X.stack:=by rw[<-hXc];rfl
 have eEx:Xc.ex=s2.heap.objs.size::fp:=by rw[<-hXc];rfl
 have eH0:Xc.H₀=H2:=by rw[<-hXc];rfl
 have eS0:Xc.s₀={s2 with heap:=s2.heap.push (Zw [] 0)}:=by rw[<-hXc];rfl
 have ePn:Xc.pn=X.pn++pins:=by rw[<-hXc];rfl
 have stk:∀b∈frs X.stack,b<s2.heap.objs.size:=λb hb=>by
  rcases List.mem_cons.mp (I2.stkSub b hb)with e|e
  ·rw[e];exact I2.lt
  ·exact Nat.lt_of_not_le λz=>I2.nofs z e
 have hDne:s2.heap.objs.size≠Xc.env.locals:=by rw[eL,hz];exact Nat.ne_of_lt (Nat.lt_succ_self _)
 have hDfs:s2.heap.objs.size∉Xc.fs:=by rw[eFs];exact λz=>Nat.lt_irrefl _ (stk _ z)
 have hDp:∀p∈Xc.pn,p.1≠s2.heap.objs.size:=λp hp=>by rw[ePn]at hp;exact Nat.ne_of_lt (Heap.lt_size (I2.pin p hp).1)
 have hDc:∀{τ:St}{H':Hp}{s':Shared}{ps:List (Addr×Obj)},Inv Xc ps τ H' s'->∀x c,Xc.env.cells.lookup x=some c->c≠s2.heap.objs.size:=λI' x c e=>(I'.ok.exf _ (by rw[eEx];exact List.mem_cons_self)).2 x c e;have stat:∀{τ:St}{H':Hp}{s':Shared}{ps:List (Addr×Obj)}{o:Obj},Inv Xc ps τ H' s'->(∀b∈fp,H' b=none)->∀b∈fp,FpOk Xc [(s2.heap.objs.size,o)] H' b:=λI' hn b hb=>by
  have q:=I'.ok.exf b (by rw[eEx];exact List.mem_cons_of_mem _ hb);refine⟨hn b hb,q.1,I'.ok.exfs b (by rw[eEx];exact List.mem_cons_of_mem _ hb),.inl (by rw[eEx];exact List.mem_cons_of_mem _ hb),q.2,λp hp=>?_⟩;rcases List.mem_append.mp hp with hp|hp
  ·rw[ePn]at hp;exact(f2 b hb).2.2.2.2.2 p hp
  ·have e:p.1=s2.heap.objs.size:=by rw[List.mem_singleton]at hp;rw[hp]
   rw[e];exact Nat.ne_of_gt (fplt b hb)
 have run:∀s5:Shared,(∃tk,s5={s2 with heap:=h4,toks:=tk})->codeAny (model X.prog X.w) X.A (.compLoop (.ListComp elt [⟨tg,iter,ifs,0⟩] scope pos) 0 (.ref it) (.ref s2.heap.objs.size) Xc.env) (compPost (model X.prog X.w) X.A X.xe none (EP X pins σ Q) (.ref s2.heap.objs.size) (s2.heap.push (Zw [] 0)).objs.size) s5:=by
  rintro s5 ⟨tk,rfl⟩;refine Gg (λn s'=>∃i ys τ H' its k,Inv Xc [(s2.heap.objs.size,Zw its k)] τ H' s'/\Vals ys its/\tn i s'.heap/\(∀b∈fp,H' b=none)/\W i n ys τ H'/\ys.length<=sizeLine) ?_ m0 ⟨0,[],inner cp σ,H2,[],0,J0 tk,.nil,T.keep _ _ _ st2 λb hb o e=>hk4 b o (Heap.get?_push_of_some _ e),λb hb=>(f2 b hb).1,w0,Nat.zero_le _⟩;rintro n s3 ⟨i,ys,τ,H3,its,k,I3,rv,st3,fr3,w3,hl3⟩;rcases turn i n ys τ H3 w3 with⟨stop,qn⟩|⟨go,hl,Nw,hNw,step⟩
  ·have dn:=T.done Xc eP eW eK eC i _ s3 τ H3 NoX I3 (stat I3 fr3) st3 stop;rw[eA]at dn;refine thn dn λr s4⟨hr,I4⟩=>?_;subst hr;obtain⟨m,hn,_⟩:=id I4.loc;rw[eL]at hn;refine⟨m,hn,λh' hs'=>?_⟩;obtain⟨eD,nD,_⟩:=I4.pin (s2.heap.objs.size,Zw its k) (List.mem_append_right _ List.mem_cons_self);have u4:=I4.base;rw[eFs,eEx,eH0,eS0]at u4;have hD2:H2 s2.heap.objs.size=none:=I2.hok.fresh (Nat.le_refl _);have hfree:=I4.free;rw[eL]at hfree;have kp:∀b o,s2.heap.get? b=some o->(s2.heap.push (Zw [] 0)).get? b=some o:=λb o e=>Heap.get?_push_of_some _ e;have nD':∀b o,s2.heap.get? b=some o->b≠s2.heap.objs.size:=λb o e=>Nat.ne_of_lt (Heap.lt_size e);have nC':∀b o,s2.heap.get? b=some o->b≠(s2.heap.push (Zw [] 0)).objs.size:=λb o e=>by rw[hz];exact Nat.ne_of_lt (Nat.lt_succ_of_lt (Heap.lt_size e))
   have nex:∀b o,s2.heap.get? b=some o->b∉fp->b∉s2.heap.objs.size::fp:=λb o e hb z=>(List.mem_cons.mp z).elim (nD' b o e) hb;refine⟨.ref s2.heap.objs.size,upd H3 s2.heap.objs.size (.lst ys),?_,rfl,qn _ nD⟩;refine I2.call' (s':={s4 with heap:=h'}) (ch:=fp) ?_ ⟨λb o e n hb hx=>?_,λb o e n hb hx=>?_,λb o e n hx=>?_,λb o e hx=>?_,λb xs q=>?_,λb o u q=>?_,λb ps q=>?_⟩ ?_ I4.bare λb hb=>?_
   ·have:=I4.os;rw[eS0]at this;exact this
   ·exact(hs'.2 b (nC' b o e)).trans (u4.keep b o (kp b o e) n hb (nex b o e hx))
   ·obtain⟨sl,q⟩:=u4.slot b o (kp b o e) n hb (nex b o e hx);exact⟨sl,(hs'.2 b (nC' b o e)).trans q⟩
   ·rw[Zj (nD' b o e)];exact u4.free b o (kp b o e) n (nex b o e hx)
   ·obtain⟨o',q⟩:=u4.there b o (kp b o e) (nex b o e hx);exact⟨o',(hs'.2 b (nC' b o e)).trans q⟩
   ·rw[Zj (Zk q hD2)];exact u4.tups b xs q
   ·rw[Zj (Zk q hD2)];exact u4.frzs b o u q
   ·rw[Zj (Zk q hD2)];exact u4.tbls b ps q
   ·intro b ob q;have keepC:∀c v,H3 c≠none->s4.heap.get? c=some v->h'.get? c=some v:=λc v hc q=>(hs'.2 c (λz=>hc (by rw[z];exact hfree))).trans q;by_cases hb:b=s2.heap.objs.size
    ·subst hb;rw[Ze]at q;cases q;exact⟨hl3,its,k,rv,(hs'.2 _ (by rw[hz];exact Nat.ne_of_lt (Nat.lt_succ_self _))).trans eD⟩
    ·rw[Zj hb]at q;have ok4:ZG X.prog X.w H3 s4.heap b ob:=by have:=I4.hok b ob q;rw[eP,eW]at this;exact this
     refine ok4.stay (λc v hc' q'=>keepC c v ?_ q') (λc q'=>by rw[Zj (Zk q' nD)];exact q') λc xs q'=>by rw[Zj (Zk q' nD)];exact q'
     rcases hc' with rfl|hc'
     ·rw[q];simp
     ·rw[hc'];simp
   ·obtain⟨g0,g1,g2,g3,g4,g5⟩:=f2 b hb;exact⟨g3,g1,g4,g5⟩
  ·have itm:=T.item Xc eP eW eK eC i _ s3 τ H3 NoX I3 (stat I3 fr3) st3 go;rw[eA]at itm;refine thn itm λr s4⟨u,hr,h4'⟩=>?_;subst hr;refine thn h4' λ_ s5⟨x,H5,I5,r5,y5,st5,fr5⟩=>?_;have I5':=I5.pinned (stat I5 fr5) (T.obj _ _ st5);have a1:=hg' _ s5 τ H5 x u _ I5' r5 (step x H5 y5);rw[eP,eW,eA,eX]at a1;refine thn a1 λ_ s6⟨τ6,H6,I6,q6⟩=>?_;have a2:=ht' _ s6 τ6 H6 _ I6 q6;rw[eP,eW,eA,eX]at a2;refine thn a2 λok s7⟨H7,I7,q7⟩=>?_;have tnAt:∀{τ':St}{H':Hp}{s':Shared},Inv Xc ([(s2.heap.objs.size,Zw its k)]++UL fp s5.heap) τ' H' s'->tn (i+1) s'.heap/\∀b∈fp,H' b=none:=λI'=>
    ⟨T.keep _ _ _ st5 λb hb o e=>(I'.pin (b,o) (List.mem_append_right _ (List.mem_append_right _ (mem_pinsAt hb e)))).1,λb hb=>by
     obtain⟨o,e,d⟩:=T.obj _ _ st5 b hb;exact(I'.pin (b,o) (List.mem_append_right _ (List.mem_append_right _ (mem_pinsAt hb e)))).2.1⟩;cases ok with
  |false=>rw[if_neg Bool.false_ne_true]at q7;rw[if_neg Bool.false_ne_true];obtain⟨m',hm,w7⟩:=hNw _ _ _ q7;exact⟨m',hm,i+1,ys,τ6,H7,its,k,I7.unpinned,rv,(tnAt I7).1,(tnAt I7).2,w7,hl3⟩
  |true=>
    rw[if_pos rfl]at q7;rw[if_pos rfl];have a3:=he' _ s7 τ6 H7 _ I7 q7;rw[eP,eW,eA,eX]at a3;refine thn a3 λv s8⟨y,H8,I8,r8,q8⟩=>?_;obtain⟨m',hm,w8⟩:=hNw _ _ _ q8;obtain⟨eD,nD,_⟩:=I8.pin (s2.heap.objs.size,Zw its k) (List.mem_append_right _ (List.mem_append_left _ List.mem_cons_self));have hlen:=rv.length;refine call_meets F.slot_list_append ⟨_,eD,rfl⟩ F.entry_list_append (F.args_list_append_2 _ _) (PySem.list_append s2.heap.objs.size its.toArray k v (by rw[List.size_toArray];omega)) ⟨eD,?_⟩;have q0:=PySem.IsL.update eD (·.push v);obtain⟨k',q⟩:∃k',(s8.heap.update s2.heap.objs.size (Obj.mapSeq (·.push v))).get? s2.heap.objs.size=some (Zw (its++[v]) k'):=⟨_,by
     have e:(its++[v]).toArray=its.toArray.push v:=by simp
     unfold Zw;rw[e];exact q0⟩;have I9:Inv Xc [] τ6 H8 s8:=I8.pins_of λp hp=>absurd (show p∈([]:List (Addr×Obj))from hp) (by simp);refine⟨m',hm,i+1,ys++[y],τ6,H8,its++[v],k',?_,rv.append (.cons r8 .nil),T.keep _ _ _ (tnAt I8).1 λb hb o e=>?_,(tnAt I8).2,w8,?_⟩
    ·refine Inv.pins_of (pins:=[]) (I9.turned (t':=s8.toks) (it:=s2.heap.objs.size) (λb o hb e=>(Heap.get?_update_other _ _ (Ne.symm hb)).trans e) nD hDne (.inl (by rw[eEx];exact List.mem_cons_self)) (hDc I9) (λp hp=>hDp p (by simpa using hp))) λp hp=>?_;have e:p=(s2.heap.objs.size,Zw (its++[v]) k'):=by simpa using hp
     subst e;exact⟨q,nD,hDne,hDfs,XF⟩
    ·exact(Heap.get?_update_other _ _ (Nat.ne_of_gt (fplt b hb))).trans e
    ·rw[List.length_append,List.length_singleton];omega
 have st4:tn 0 h4:=T.keep _ _ _ st2 λb hb o e=>hk4 b o (Heap.get?_push_of_some _ e);have fin:=codeAny_compStart_list (run _ ⟨_,rfl⟩) (T.self X.A 0 {s2 with heap:=h4,toks:=s2.toks+([]:List (Str×Value)).length} _ (notedBy (model X.prog X.w) X.A Xc.env λx s'=>(compPost (model X.prog X.w) X.A X.xe none (EP X pins σ Q) (.ref s2.heap.objs.size) (s2.heap.push (Zw [] 0)).objs.size) (.error x) s') st4 (run _ ⟨_,rfl⟩));rw[eE]at fin;exact fin
theorem Kw{bs:List Bool}:∀{us:List Value},Vals (bs.map V.bl) us->∀(i:Nat)(v:Value),us[i]?=some v->∃b,bs[i]?=some b/\v=.bool b:=by
 induction bs with
|nil=>intro us r i v e;rw[List.map_nil]at r;cases r;simp at e
|cons b bs ih=>
  intro us r i v e;rw[List.map_cons]at r;cases r with
 |cons r1 r2=>
   cases i with
  |zero=>simp at e;subst e;exact⟨b,rfl,r1⟩
  |succ i=>obtain⟨b',h1,h2⟩:=ih r2 i v (by simpa using e);exact⟨b',by simpa using h1,h2⟩
theorem all_range(bs:List Bool):(List.range bs.length).all (λi=>bs.getD i true)=bs.all id:=by
 rw[Bool.eq_iff_iff,List.all_eq_true,List.all_eq_true];constructor
 ·intro h b hb;obtain⟨i,hi⟩:=List.mem_iff_getElem?.mp hb;have hl:i<bs.length:=(List.getElem?_eq_some_iff.mp hi).1;have:=h i (List.mem_range.mpr hl);rw[List.getD_eq_getElem?_getD,hi]at this;exact this
 ·intro h i hi;have hl:=List.mem_range.mp hi;rw[List.getD_eq_getElem?_getD,List.getElem?_eq_getElem hl];exact h _ (List.getElem_mem hl)
theorem Km(hc:X.calm=true):YK X (.builtin "all") (λxs H Q=>∃(p:Addr)(bs:List Bool),xs=[.ref p]/\SqL X.K H p (bs.map V.bl)/\Q (.bl (bs.all id)) H):=by
 intro pins s σ H xs us Q I r h;obtain⟨p,bs,rfl,hq,q⟩:=h;obtain⟨u,rfl,ru⟩:=vals1 r;cases ru;obtain⟨its,rv,pl,hz⟩:=I.list hq;have hl:=rv.length;rw[List.length_map]at hl;refine call_all_walk (wpAny_pyIter_list pl.isList ?_);have hne:p≠s.heap.objs.size:=by obtain⟨o,n,e,_⟩:=pl;exact Nat.ne_of_lt (Heap.lt_size e)
 refine⟨s.heap.objs.size,_,_,_,_,_,λi=>bs.getD i true,rfl,Walks.list (A:=X.A.in1) (I.ok.hd hc) s.heap.objs.size p hne its.toArray,⟨⟨_,Heap.get?_push_size _ rfl,rfl,rfl⟩,?_⟩,λi v s' Q' E' hp hQ=>?_,λh' tk kk=>?_⟩
 ·obtain⟨o,e,c,n,d⟩:=pl.isList;exact⟨o,Heap.get?_push_of_some _ e,c,n,d⟩
 ·obtain⟨b,hb,rfl⟩:=Kw rv i v (by simpa using hp);have:bs.getD i true=b:=by rw[List.getD_eq_getElem?_getD,hb];rfl
  exact wpAny_truthy_bool (this▸hQ)
 ·have e:(List.range its.toArray.size).all (λi=>bs.getD i true)=bs.all id:=by rw[List.size_toArray,<-hl];exact all_range bs
  rw[e];refine⟨.bl (bs.all id),H,I.kept (t':=tk) λb o q=>?_,rfl,q⟩;exact kk b o (by simp;exact Nat.ne_of_lt (Heap.lt_size q)) (Heap.get?_push_of_some _ q)
theorem Ky{ys:List Str}:∀{us:List Value},Vals (ys.map V.str) us->StrsAre us ys:=by
 induction ys with
|nil=>intro us r;rw[List.map_nil]at r;cases r;exact .nil
|cons y ys ih=>
  intro us r;rw[List.map_cons]at r;cases r with
 |cons r1 r2=>obtain⟨t,e⟩:=r1;subst e;exact .cons y t (ih r2)
theorem RQ:MtR X "str.join" (λx vs H Q=>∃(z:Str)(p:Addr)(ys:List Str),x=.str z/\vs=[.ref p]/\SqL X.K H p (ys.map V.str)/\(ys.map (·.length)).sum+ys.length*z.length<=16777216/\Q (.str (Txt.join z ys)) H):=by intro pins s σ H x xs v us Q I rx rs h;obtain⟨z,p,ys,rfl,rfl,hq,hz,q⟩:=h;obtain⟨t,rfl⟩:=rx;obtain⟨u,rfl,ru⟩:=vals1 rs;cases ru;obtain⟨its,rv,pl,hl⟩:=I.list hq;exact join_list pl.isList (by simpa using Ky rv) hz λt' k=>⟨.str (Txt.join z ys),H,I.tok k,⟨t',rfl⟩,q⟩
theorem Qu:SlR X (λx lo hi H Q=>∃z,x=.str z/\z.length<=sizeLine/\Q (.str (Txt.slice z lo hi)) H):=by
 intro pins s σ H x v vl vu lo hi sl Q I rx hs pl pu h;obtain⟨z,rfl,hz,q⟩:=h;obtain⟨t,rfl⟩:=rx;have fin:∀t' k,EP X pins σ Q (.str (Txt.slice z lo hi) t') {s with toks:=k}:=λt' k=>⟨.str _,H,I.tok k,⟨t',rfl⟩,q⟩;have len:=Nat.le_trans (Txt.slice_le z lo hi) hz;refine⟨"str",_,PyProof.Rows.slot_str_getitem.lookup,typeIs_str _ _ _,?_⟩;obtain⟨o,ho,hc,hd⟩:=hs;cases pl with
|none=>
  cases pu with
 |none=>exact wpAny_getItem_str_slice (l:=none) (u:=none) (st:=none) ⟨o,ho,hc,hd⟩ rfl (post_val_or_str ⟨len,fin⟩)
 |int j uj=>exact wpAny_getItem_str_slice (l:=none) (u:=some (j,uj)) (st:=none) ⟨o,ho,hc,hd⟩ rfl (post_val_or_str ⟨len,fin⟩)
|int i ui=>
  cases pu with
 |none=>exact wpAny_getItem_str_slice (l:=some (i,ui)) (u:=none) (st:=none) ⟨o,ho,hc,hd⟩ rfl (post_val_or_str ⟨len,fin⟩)
 |int j uj=>exact wpAny_getItem_str_slice (l:=some (i,ui)) (u:=some (j,uj)) (st:=none) ⟨o,ho,hc,hd⟩ rfl (post_val_or_str ⟨len,fin⟩)
def EY(i j:Int):Prop:=0<j/\j.natAbs.log2<9000
theorem WJ:OpR X (binaryOp .FloorDiv) (rI EY λi j=>.int (i / j)):=opI λi j _ _ _ _ _ hc q=>by have h1:(0:Int)<j:=hc.1;exact floordiv_int (by omega) (by rw[Int.fdiv_eq_ediv_of_nonneg i (by omega)];exact q) (.inl (PyProof.noPylong_of_log2 hc.2))
theorem Qd:YK X (.builtin "isinstance") (λxs H Q=>∃x c t b,xs=[x,.ty c]/\TyOf X.K H x t/\PySem.W.kitOne X.K t (.type c)=some b/\Q (.bl b) H):=by intro pins s σ H xs us Q I r h;obtain⟨x,c,t,b,rfl,ty,e,q⟩:=h;obtain⟨u,w',rfl,ru,rw'⟩:=vals2 r;cases rw';exact MU I ru ty e λtk=>⟨.bl b,H,I.tok tk,rfl,q⟩
end
theorem NX:bootBuiltins "int"=some (.type "int"):=by decide +kernel
theorem Sh:bootBuiltins "bool"=some (.type "bool"):=by decide +kernel
theorem Ko:bootBuiltins "str"=some (.type "str"):=by decide +kernel
def Df(K:PySem.W.Frag)(mg:Str->Option Value)(x:Str)(st:Stmt)(ps:List Str):Prop:=∃f fd,Fun K x x st f fd/\mg x=some (.ref f)/\Binds K fd ps []
def Can(P:Program)(w:World)(K:PySem.W.Frag)(mg:Str->Option Value)(base:Heap)(k:Nat)(x:Str)(ps:List Str)(sp:Sp):Prop:=∃f fd,FnOk P w K mg base CX0 k f fd ps sp/\mg x=some (.ref f)/\PySem.W.keepIn K (.ref f)=true/\Binds K fd ps []
section
variable {P:Program}{w:World}{K:PySem.W.Frag}{mg:Str->Option Value}{base:Heap}
theorem Can.mono{j k:Nat}{x:Str}{ps:List Str}{sp:Sp}(C:Can P w K mg base j x ps sp)(h:j<=k):Can P w K mg base k x ps sp:=by obtain⟨f,fd,F,r⟩:=C;exact⟨f,fd,F.mono h,r⟩
theorem Df.can{x:Str}{st:Stmt}{N ps:List Str}{k:Nat}{sp:Sp}(D:Df K mg x st ps)(S:FnScope N ps (Zf st))(len:∀vs H Q E,sp vs H Q E->vs.length=ps.length)(hbody:∀(f:Addr)(cdv:Value)(A:Around)(outer:List Env)(s:Shared)(H:Hp)(vs:List V)(Q:VK)(E:XK),Room k (A.deeper (envOfC x (Zf st) s.heap.objs.size f cdv))->sp vs H Q E ->∃t,PSs (cxOf CX0 P w K mg base N x (Zf st) f cdv A outer s H E).nox (ZJ st) t/\t {nx:=λ_ H'=>Q .non H',rt:=Q} (start N vs) H):Can P w K mg base (k+1) x ps sp:=by obtain⟨f,fd,F,m,b⟩:=D;exact⟨f,fd,F.ok S len (λcdv A outer s H vs Q E hr h=>hbody f cdv A outer s H vs Q E hr h),m,F.kp,b⟩
end
section
variable {X:Cx}
theorem ZT{k:Nat}{x:Str}{ps:List Str}{sp:Sp}{p pos:Pos}{e:Expr}{es:List Expr}{t:TA}(C:Can X.prog X.w X.K X.mg X.base k x ps sp)(hr:Room k X.A)(hg:Gl X x)(ha:PA X (e::es) t)(hdb:(x==("__debug__":Str))=false:=by decide)(he:starEach (e::es) X.env=(false,eval e X.env)::starEach es X.env:=by rfl)(hpl:(backTo pos (starEach es X.env)).any (·.1)=false:=by rfl):PE X (.Call (.Name x p) (e::es) [] pos) (MN sp [] E0 t):=by obtain⟨f,fd,F,m,kp,b⟩:=C;exact RL F hr hg m kp b .nil Z1 ha hdb he hpl
end
inductive Th(H:Hp):V->String->Prop where
|non:Th H .non "NoneType"
|bl (b:Bool):Th H (.bl b) "bool"
|int (i:Int):Th H (.int i) "int"
|str (z:Str) (h:z.length<=1000):Th H (.str z) "str"
|lst {a:Addr}{xs:List V} (e:H a=some (.lst xs)):Th H (.ref a) "list"
|tup {a:Addr}{xs:List V} (e:H a=some (.tup xs)):Th H (.ref a) "tuple"
|dK {a:Addr}{kvs:List (Key×V)} (e:H a=some (.dK kvs)):Th H (.ref a) "dict"
theorem Th.ty{K:PySem.W.Frag}{H:Hp}{v:V}{T:String}(h:Th H v T):TyOf K H v (.type T):=by
 cases h with
|non=>exact .non
|bl b=>exact .bl b
|int i=>exact .int i
|str z h=>exact .str z
|lst e=>exact .lst e
|tup e=>exact .tup e
|dK e=>exact .dK e
theorem Th.same{H H':Hp}(s:Same H H'){v:V}{T:String}(h:Th H v T):Th H' v T:=by
 cases h with
|non=>exact .non
|bl b=>exact .bl b
|int i=>exact .int i
|str z h=>exact .str z h
|lst e=>exact .lst (s _ _ e)
|tup e=>exact .tup (s _ _ e)
|dK e=>exact .dK (s _ _ e)
section
variable (K:PySem.W.Frag)
theorem DK:PySem.W.kitOne K (.type "NoneType") (.type "int")=some false:=by kernel_rfl
theorem DL:PySem.W.kitOne K (.type "NoneType") (.type "bool")=some false:=by kernel_rfl
theorem DJ:PySem.W.kitOne K (.type "NoneType") (.type "str")=some false:=by kernel_rfl
theorem DW:PySem.W.kitOne K (.type "bool") (.type "int")=some true:=by kernel_rfl
theorem DX:PySem.W.kitOne K (.type "bool") (.type "bool")=some true:=by kernel_rfl
theorem DV:PySem.W.kitOne K (.type "bool") (.type "str")=some false:=by kernel_rfl
theorem DQ:PySem.W.kitOne K (.type "int") (.type "int")=some true:=by kernel_rfl
theorem DR:PySem.W.kitOne K (.type "int") (.type "bool")=some false:=by kernel_rfl
theorem DP:PySem.W.kitOne K (.type "int") (.type "str")=some false:=by kernel_rfl
theorem DH:PySem.W.kitOne K (.type "str") (.type "int")=some false:=by kernel_rfl
theorem DI:PySem.W.kitOne K (.type "str") (.type "bool")=some false:=by kernel_rfl
theorem DG:PySem.W.kitOne K (.type "str") (.type "str")=some true:=by kernel_rfl
theorem DN:PySem.W.kitOne K (.type "list") (.type "int")=some false:=by kernel_rfl
theorem DO:PySem.W.kitOne K (.type "list") (.type "bool")=some false:=by kernel_rfl
theorem DM:PySem.W.kitOne K (.type "list") (.type "str")=some false:=by kernel_rfl
theorem DE:PySem.W.kitOne K (.type "tuple") (.type "int")=some false:=by kernel_rfl
theorem DF:PySem.W.kitOne K (.type "tuple") (.type "bool")=some false:=by kernel_rfl
theorem DC:PySem.W.kitOne K (.type "tuple") (.type "str")=some false:=by kernel_rfl
theorem DT:PySem.W.kitOne K (.type "dict") (.type "int")=some false:=by kernel_rfl
theorem DU:PySem.W.kitOne K (.type "dict") (.type "bool")=some false:=by kernel_rfl
theorem DS:PySem.W.kitOne K (.type "dict") (.type "str")=some false:=by kernel_rfl
end
noncomputable def D4:V->Bool
|.str _=>true
|_=>false
noncomputable def WZ:V->Bool
|.int _=>true
|_=>false
noncomputable def LI:V->Bool
|.bl _=>true
|_=>false
theorem Th.kitS{K:PySem.W.Frag}{H:Hp}{v:V}{T:String}(h:Th H v T):PySem.W.kitOne K (.type T) (.type "str")=some (D4 v):=by
 cases h with
|non=>exact DJ K
|bl b=>exact DV K
|int i=>exact DP K
|str z h=>exact DG K
|lst e=>exact DM K
|tup e=>exact DC K
|dK e=>exact DS K
theorem Th.kitB{K:PySem.W.Frag}{H:Hp}{v:V}{T:String}(h:Th H v T):PySem.W.kitOne K (.type T) (.type "bool")=some (LI v):=by
 cases h with
|non=>exact DL K
|bl b=>exact DX K
|int i=>exact DR K
|str z h=>exact DI K
|lst e=>exact DO K
|tup e=>exact DF K
|dK e=>exact DU K
theorem Th.kitI{K:PySem.W.Frag}{H:Hp}{v:V}{T:String}(h:Th H v T):PySem.W.kitOne K (.type T) (.type "int")=some (WZ v||LI v):=by
 cases h with
|non=>exact DK K
|bl b=>exact DW K
|int i=>exact DQ K
|str z h=>exact DH K
|lst e=>exact DN K
|tup e=>exact DE K
|dK e=>exact DT K
section
variable {X:Cx}
def tIsi(K:PySem.W.Frag)(c:String)(te:TE):TE:=tCB (λxs H Q=>∃x c t b,xs=[x,.ty c]/\TyOf K H x t/\PySem.W.kitOne K t (.type c)=some b/\Q (.bl b) H) (Rq te (Rq (tC (.ty c)) tNil))
theorem UM{e:Expr}{te:TE}{c:String}{cx:Str}{p p2 pos:Pos}(he:PE X e te)(hg:Gl X "isinstance")(hm:X.mg "isinstance"=none)(hg2:Gl X cx)(hm2:X.mg cx=none)(hb:bootBuiltins cx=some (.type c))(hn:cx≠"__name__":=by decide)(hd:(cx==("__debug__":Str))=false:=by decide)(hs:starEach [e,.Name cx p2] X.env=(false,eval e X.env)::starEach [.Name cx p2] X.env:=by rfl):PE X (.Call (.Name "isinstance" p) [e,.Name cx p2] [] pos) (tIsi X.K c te):=ZC (p:=p) (pos:=pos) (Qd (X:=X)) hg hm PyProof.Rows.boot_isinstance (Zg he (Zg (Jj (v:=V.ty c) (pos:=p2) hg2 hm2 hb rfl hn hd) Zb) hs) (he:=hs)
end
def RecX(B:Heap)(x:Addr)(c:Value)(dd:Option Addr)(fl:Value)(h:Heap):Prop:=∃o vs,h.get? x=some o/\o.cls=c/\o.dict=dd/\o.data=.fields vs/\1<vs.size /\((vs[1]?=some .none/\fl=.none)\/∃T oT ts,vs[1]?=some (.ref T)/\B.get? T=none/\T≠x/\h.get? T=some oT/\oT.data=.fields ts/\ts[3]?=some fl)
structure Fly(B:Heap)(l:List Env)(x:Addr)(c:Value)(dd:Option Addr)(fl:Value)(h:Heap):Prop where
 keep:B.StaysIn h
 new:B.get? x=none
 frames:h.FunFrames B l
 row:RecX B x c dd fl h
theorem SM(o:Obj)(f:Array Value->Array Value):(o.mapFields f).dict=o.dict:=by obtain⟨c,d,dt,sl⟩:=o;cases dt<;>rfl
theorem YX{h:Heap}{b T:Addr}{o oT:Obj}{ts:Array Value}(hb:h.get? b=some o)(hn:∀vs,o.data≠.fields vs)(hT:h.get? T=some oT)(hd:oT.data=.fields ts):b≠T:=by rintro rfl;rw[hT]at hb;cases hb;exact hn ts hd
section
variable {M:Model}{A:Around}{E:Value->Shared->Prop}{s:Shared}{B:Heap}{env:Env}{outer:List Env}{L x:Addr}{c:Value}{dd:Option Addr}{Q:Unit->Shared->Prop}
theorem MX{o:Obj}{vs:Array Value}{head:Value}{had:Bool}(hfr:A.frames=some (env::outer))(hf:env.frame=some L)(hl:s.heap.FunFrames B (env::outer))(hk:B.StaysIn s.heap)(hn:B.get? x=none)
  (hx:s.heap.get? x=some o) (hc:o.cls=c) (hdd:o.dict=dd) (hd:o.data=.fields vs) (hz:1<vs.size)
  (hQ:∀h',Fly B (env::outer) x c dd (rawInt L) h'->s.heap.UpToSlots h'->Q () {s with heap:=h'}):
  wpAny M A (do let fr <-frameOf env;let pl <-entryPlaceOf L had;let t <-EntryCells.newEntry head fr .none (rawInt L) .none pl;setField (.ref x) 1 t) Q E s:=by
 have xf:x∉(env::outer).filterMap (·.frame):=λhm=>by
  obtain⟨_,u,hu,hnf⟩:=hl.mem hm
  rw[hx]at hu
  cases hu
  exact hnf vs hd
 refine wpAny_bind (wpAny_frameOf_fun hfr hl hf λh1 so=>?_)
 refine wpAny_bind (wpAny_entryPlaceOf λpl hpl=>?_)
 unfold EntryCells.newEntry newFields
 refine wpAny_bind (wpAny_newObj_type ?_ (hpl.sizeOk5 _ _ _ _ _))
 have x1:h1.get? x=some o:=(so.2.1 x xf).trans hx
 have k1:B.StaysIn h1:=λb u hb=>(so.2.1 b λhm=>by rw[(hl.mem hm).1]at hb;cases hb).trans (hk b u hb)
 generalize hOT:({cls:=.type "traceback",dict:=none,data:=.fields ([head,.ref L,.none,rawInt L,.none]++(if pl.isEmpty then List.replicate 6 Value.none else pl)).toArray}:Obj)=oT
 have x2:(h1.push oT).get? x=some o:=Heap.get?_push_of_some _ x1
 have nT:h1.objs.size≠x:=Nat.ne_of_gt (Heap.lt_size x1)
 have d3:=Obj.data_mapFields hd (·.setIfInBounds 1 (Value.ref h1.objs.size))
 have x3:=Heap.get?_update_self (Obj.mapFields (·.setIfInBounds 1 (Value.ref h1.objs.size))) x2 (Obj.isFreed_of_fields d3)
 refine wpAny_setField x2 hd hz (hQ _ ?_ ?_)
 ·have other:∀b u,b≠x->h1.get? b=some u->((h1.push oT).update x (Obj.mapFields (·.setIfInBounds 1 (Value.ref h1.objs.size)))).get? b=some u:=λb u hb q=>by
   rw[Heap.get?_update_other _ _ (Ne.symm hb)]
   exact Heap.get?_push_of_some _ q
  refine⟨λb u hb=>other b u (λq=>by rw[q,hn]at hb;cases hb) (k1 b u hb),hn,hl.of_keeps λb u hb hnf=>?_,?_⟩
  ·obtain⟨sl,q⟩:=so.2.2 b u hb
   exact⟨_,other b _ (YX hb hnf hx hd) q,rfl⟩
  ·have oTf:oT.isFreed=false:=by rw[<-hOT];rfl
   refine⟨_,_,x3,(Obj.cls_mapFields _ _).trans hc,(SM _ _).trans hdd,d3,by simpa using hz,.inr ⟨h1.objs.size,oT,([head,.ref L,.none,rawInt L,.none]++(if pl.isEmpty then List.replicate 6 Value.none else pl)).toArray,by simp[hz],k1.fresh,nT,?_,by rw[<-hOT],?_⟩⟩
   ·rw[Heap.get?_update_other _ _ (Ne.symm nT)]
    exact Heap.get?_push_size h1 oTf
   ·first
    |(simp;done)
    |(rcases hpl with rfl|⟨_,_,_,_,_,_,_,rfl⟩<;>simp)
 ·intro b u hb hnf
  obtain⟨sl,q⟩:=so.2.2 b u hb
  refine⟨sl,?_⟩
  rw[Heap.get?_update_other _ _ (Ne.symm (YX hb hnf hx hd))]
  exact Heap.get?_push_of_some _ q
theorem PM(hfr:A.frames=some (env::outer))(hf:env.frame=some L)(F:Fly B (env::outer) x c dd .none s.heap)(hQ:∀h',Fly B (env::outer) x c dd (rawInt L) h'->s.heap.UpToSlots h'->Q () {s with heap:=h'}):wpAny M A (noteFrame (.ref x) env) Q E s:=by
 obtain⟨o,vs,hx,hc,hdd,hd,hz,tr⟩:=F.row;unfold noteFrame;simp only[hf];rcases tr with⟨h1,_⟩|⟨T,oT,ts,h1,bT,nT,hT,hdT,h3⟩
 ·refine wpAny_bind (wpAny_field hx hd h1 ?_);rw[if_neg (by decide)];exact MX hfr hf F.frames F.keep F.new hx hc hdd hd hz hQ
 ·refine wpAny_bind (wpAny_field hx hd h1 ?_);rw[if_pos (show(Value.ref T != Value.none)=true from by simp)];refine wpAny_bind (wpAny_field hT hdT h3 ?_);rw[if_neg (show ¬((Value.none==rawInt L)=true)from by simp[rawInt])];refine wpAny_bind (wpAny_setField hT hdT (Array.getElem?_eq_some_iff.mp h3).1 ?_);have other:∀b,b≠T->(s.heap.update T (Obj.mapFields (·.setIfInBounds 3 Value.none))).get? b=s.heap.get? b:=λb hb=>Heap.get?_update_other _ _ (Ne.symm hb);refine MX hfr hf (F.frames.of_keeps λb u hb hnf=>⟨u,(other b (YX hb hnf hT hdT)).trans hb,rfl⟩) (λb u hb=>(other b λq=>by rw[q,bT]at hb;cases hb).trans (F.keep b u hb)) F.new ((other x (Ne.symm nT)).trans hx) hc hdd hd hz λh' F' U=>hQ h' F' λb u hb hnf=>U b u ((other b (YX hb hnf hT hdT)).trans hb) hnf
theorem PN{l:List Env}{fl:Value}(F:Fly B l x c dd fl s.heap)(hQ:∀h',Fly B l x c dd .none h'->s.heap.UpToSlots h'->Q () {s with heap:=h'}):wpAny M A (setFlight (.ref x) none) Q E s:=by
 obtain⟨o,vs,hx,hc,hdd,hd,hz,tr⟩:=F.row;unfold setFlight;rcases tr with⟨h1,e⟩|⟨T,oT,ts,h1,bT,nT,hT,hdT,h3⟩
 ·subst e;refine wpAny_bind (wpAny_field hx hd h1 ?_);rw[if_neg (by decide)];exact wpAny_pure (hQ _ F (.refl _))
 ·have z3:3<ts.size:=(Array.getElem?_eq_some_iff.mp h3).1;refine wpAny_bind (wpAny_field hx hd h1 ?_);rw[if_pos (show(Value.ref T != Value.none)=true from by simp)];have other:∀b,b≠T->(s.heap.update T (Obj.mapFields (·.setIfInBounds 3 ((none:Option Addr).elim Value.none λf=>rawInt f)))).get? b=s.heap.get? b:=λb hb=>Heap.get?_update_other _ _ (Ne.symm hb);refine wpAny_setField hT hdT z3 (hQ _ ⟨λb u hb=>(other b λq=>by rw[q,bT]at hb;cases hb).trans (F.keep b u hb),F.new,F.frames.of_keeps λb u hb hnf=>⟨u,(other b (YX hb hnf hT hdT)).trans hb,rfl⟩,?_⟩ λb u hb hnf=>⟨u.slots,(other b (YX hb hnf hT hdT)).trans hb⟩);exact⟨o,vs,(other x (Ne.symm nT)).trans hx,hc,hdd,hd,hz,.inr ⟨T,_,_,h1,bT,nT,Heap.get?_update_self _ hT (Obj.isFreed_of_fields (Obj.data_mapFields hdT _)),Obj.data_mapFields hdT _,by simp[z3]⟩⟩
theorem Tc(hfr:A.frames=some (env::outer))(hf:env.frame=some L)(F:Fly B (env::outer) x c dd .none s.heap)(hQ:∀h',Fly B outer x c dd .none h'->s.heap.UpToSlots h'->Q () {s with heap:=h'}):wpAny M A (leaving env (.ref x)) Q E s:=by unfold leaving;refine wpAny_bind (PM hfr hf F λh1 F1 U1=>?_);refine PN (s:={s with heap:=h1}) F1 λh2 F2 U2=>?_;exact hQ h2 ⟨F2.keep,F2.new,F2.frames.2.2,F2.row⟩ (U1.trans U2)
end
structure BaseX(B:Heap)(fs:List Addr)(x:Addr)(H H':Hp)(h:Heap):Prop where
 trk:∀b u,H' b=some u->∃o,B.get? b=some o
 old:∀b o,h.get? b=some o->H b=none->b∉fs->B.get? b=some o
 all:∀b o,h.get? b=some o->b∈fs\/b=x\/∃o',B.get? b=some o'
 xn:H' x=none
noncomputable def CX1(P:Program)(w:World):CXT:=λouter H s E e s'=>∃(x:Addr)(c:Value)(dd:Option Addr)(B:Heap)(H':Hp),e=.ref x/\s'.os=s.os/\AllBare s'.gens/\Un (frs outer) [] H H' s.heap s'.heap/\HOk P w H' s'.heap /\Fly B outer x c dd .none s'.heap/\BaseX B (frs outer) x H H' s.heap/\E c dd H'
theorem PK{P:Program}{w:World}{H:Hp}{h h' B:Heap}(ok:HOk P w H h)(trk:∀b u,H b=some u->∃o,B.get? b=some o)(k:B.StaysIn h)(k':B.StaysIn h'):HOk P w H h':=λb u e=>by
 have go:∀c v,H c≠none->h.get? c=some v->h'.get? c=some v:=λc v hc q=>by
  cases e':H c with
 |none=>exact absurd e' hc
 |some u'=>obtain⟨o,ho⟩:=trk c u' e';have:=k c o ho;rw[q]at this;cases this;exact k' c _ ho
 refine(ok b u e).stay (λc v hc q=>go c v ?_ q) (λ_ q=>q) λ_ _ q=>q;rcases hc with rfl|hc
 ·rw[e];simp
 ·rw[hc];simp
section
variable {P:Program}{w:World}{K:PySem.W.Frag}{mg:Str->Option Value}{base:Heap}{N:List Str}{qual:Str}{scope:Scope}{f:Addr}{cd:Value}{A:Around}{outer:List Env}{s:Shared}{H:Hp}{E:XK}
theorem WR{pins:List (Addr×Obj)}{σ:St}{H1:Hp}{s1:Shared}{x:Addr}{c:Value}{dd:Option Addr}{B:Heap}(I:Inv (cxOf (CX1 P w) P w K mg base N qual scope f cd A outer s H E) pins σ H1 s1)(F:Fly B (cxOf (CX1 P w) P w K mg base N qual scope f cd A outer s H E).stack x c dd .none s1.heap)(b:BaseX B (frs outer) x H H1 s.heap)(hE:E c dd H1):(cxOf (CX1 P w) P w K mg base N qual scope f cd A outer s H E).xe (.ref x) s1:=by
 refine Tc (L:=s.heap.objs.size) I.ok.frames rfl F λh2 F2 U=>?_;have un:Un (frs outer) [] H H1 s.heap s1.heap:=I.base;refine⟨x,c,dd,B,H1,rfl,I.os,I.bare,⟨λd o e n hd _=>F2.keep d o (b.old d o e n hd),λd o e n hd _=>?_,un.free,λd o e _=>?_,un.tups,un.frzs,un.tbls⟩,PK I.hok b.trk F.keep F2.keep,F2,b,hE⟩
 ·obtain⟨sl,q⟩:=un.slot d o e n hd (by simp);obtain⟨_,o',ho',hnf⟩:=I.ok.funs.mem hd;have eo:o'=o:=by have:s.heap.get? d=some o':=ho';rw[e]at this;exact(Option.some.inj this).symm
  subst eo;obtain⟨sl2,q2⟩:=U d _ q hnf;exact⟨sl2,q2⟩
 ·rcases b.all d o e with z|z|⟨o',z⟩
  ·obtain⟨_,o2,ho2,hnf⟩:=I.ok.funs.mem z;have ho2':s.heap.get? d=some o2:=ho2;obtain⟨sl,q⟩:=un.slot d o2 ho2' (I.ok.frf d z) z (by simp);obtain⟨sl2,q2⟩:=U d _ q hnf;exact⟨_,q2⟩
  ·subst z;obtain⟨o3,_,q,_⟩:=F2.row;exact⟨o3,q⟩
  ·exact⟨o',F2.keep d o' z⟩
theorem BaseX.up{X:Cx}{pins:List (Addr×Obj)}{σ:St}{H1 H2:Hp}{s1:Shared}{x:Addr}{B:Heap}(I:Inv X pins σ H1 s1)(hex:X.ex=[])(b:BaseX B (frs X.stack) x H1 H2 s1.heap):BaseX B X.fs x X.H₀ H2 X.s₀.heap:=by
 have low:∀d o,X.s₀.heap.get? d=some o->d∈frs X.stack->d∈X.fs:=λd o e hd=>by
  rcases List.mem_cons.mp (I.stkSub d hd)with z|z
  ·exact absurd (Nat.lt_of_lt_of_le (Heap.lt_size e) I.ok.above) (by rw[z];exact Nat.lt_irrefl _)
  ·exact z
 refine⟨b.trk,λd o e n hd=>?_,λd o e=>?_,b.xn⟩
 ·exact b.old d o (I.base.keep d o e n hd (by rw[hex];simp)) (I.base.free d o e n (by rw[hex];simp)) λz=>hd (low d o e z)
 ·obtain⟨o1,e1⟩:=I.base.there d o e (by rw[hex];simp);rcases b.all d o1 e1 with z|z|z
  ·exact .inl (low d o e z)
  ·exact .inr (.inl z)
  ·exact .inr (.inr z)
theorem Y6:Passes (CX1 P w) (cxOf (CX1 P w) P w K mg base N qual scope f cd A outer s H E) E:=by intro pins σ H1 s1 e s2 I h;obtain⟨x,c,dd,B,H2,rfl,os,bare,un,hok,F,b,hE⟩:=h;have I2:Inv (cxOf (CX1 P w) P w K mg base N qual scope f cd A outer s H E) pins σ H2 s2:=I.call' os un hok bare λb z=>absurd z (by simp);exact WR I2 F (BaseX.up I rfl b) hE
end
noncomputable abbrev bmV:List Value:=[.type "ValueError",.type "Exception",.type "BaseException",.type "object"]
structure XC(K:PySem.W.Frag)(C fI Qa:Addr):Prop where
 obj:∃nm q N bs sn sub ab col dd k0 k1 k2 k3 k5,K.lookup C=some (excClassObj nm q C N bs (.ref Qa::bmV) true sn sub ab col dd k0 k1 k2 k3 k5 "ValueError.__new__") /\
  PySem.W.nsOkIn K N=true/\PySem.W.nsIn K N "__init__"=some (some (.ref fI))
 tail:PySem.W.tailIn K bmV (.ref Qa::bmV)=true
 fn:∃o,K.lookup fI=some o/\o.cls=.type "function"
 sa:PySem.W.findIn K (.ref C) "__setattr__"=some (some (.builtin "object.__setattr__"))
 ob:PySem.W.mroIn K C (.type "object")=some true
theorem QE{K:PySem.W.Frag}{h:Heap}{N:Addr}{mg:Str->Option Value}{n:Str}{v:Value}(X:K.In h)(G:h.Ns N mg)(e:PySem.W.nsIn K N n=some (some v)):mg n=some v:=by
 obtain⟨o,es,ep,ho,hd,_,hf⟩:=G;unfold PySem.W.nsIn at e;split at e
 ·rename_i c d es' n' sl q;have this:=X _ _ q;rw[ho]at this;cases this;cases hd;split at e
  ·rename_i en he;cases e;rw[<-hf];unfold nsFind findBy;rw[<-Array.find?_toList,he];rfl
  ·split at e<;>cases e
 ·cases e
section
variable {prog:Program}{w:World}{A:Around}{E:Value->Shared->Prop}{K:PySem.W.Frag}{C fI Qa:Addr}{h:Heap}{g:Array GenState}{d:Drawn}{t:Nat}{os:OsState}{rest:List Value}
theorem Qh{Q:Fin->Shared->Prop}(X:K.In h)(c:XC K C fI Qa)(hz:rest.length<=sizeLine)(hq:∀h' e,h.objs.size<=e->Heap.MadeExcOf h h' e (.ref C) rest->wpAny (model prog w) A (call (.ref fI) (.ref e::rest)) (λr s'=>r=.none/\Q (.done (.ret (.ref e))) s') E ⟨h',g,d,t,os⟩):wpAny (model prog w) A (Builtin.«type.__call__» ⟨.ref C::rest,[]⟩) Q E ⟨h,g,d,t,os⟩:=by
 obtain⟨nm,q,N,bs,sn,sub,ab,col,dd,k0,k1,k2,k3,k5,lk,nok,hin⟩:=c.obj;obtain⟨oI,lI,cI⟩:=c.fn;have FV:=PySem.F.excBase_ValueError;have hC:=X _ _ lk;have hN:h.Ns N (h.nsMap N):=.of_isNs (PySem.W.isNs_of_in X nok);have hI:h.nsMap N "__init__"=some (.ref fI):=QE X hN hin;have TL:OwnTail h bmV (.ref Qa::bmV):=PySem.W.tail_of_in X c.tail;repeat (first|with_reducible refine wpAny_loadPart_at hC ?_|(with_reducible refine wpAny_madeBy_exc hC ?_)|wp_step)
 refine codeAny_call_builtin_code (Code.quiet_builtin _ FV.quiet) (wpAny_check_new_subU FV FV.hasB TL hC ?_);refine codeAny_exc_new_subU FV FV.hasB FV TL hC ?_ hz;show wpAny _ _ _ _ _ _;generalize hh1:(h.push {cls:=.type "tuple",data:=.seq rest.toArray}).push {cls:=.ref C,data:=.fields #[.ref h.objs.size,.none,.none,.none,.bool false,.none]}=h1;have k1':∀b o,h.get? b=some o->h1.get? b=some o:=λb o e=>by rw[<-hh1];exact Heap.get?_push_of_some _ (Heap.get?_push_of_some _ e)
 have ge:h1.get? (h.objs.size+1)=some {cls:=.ref C,data:=.fields #[.ref h.objs.size,.none,.none,.none,.bool false,.none]}:=by rw[<-hh1];heap_get
 have gt:h1.get? h.objs.size=some {cls:=.type "tuple",data:=.seq rest.toArray}:=by rw[<-hh1];exact Heap.get?_push_of_some _ (Heap.get?_push_at rfl rfl)
 have hC1:=k1' _ _ hC;have hcC:(Value.ref C::.ref Qa::bmV).contains (.ref C)=true:=by simp
 unfold isInstance;repeat (first|with_reducible refine wpAny_loadPart_at ge ?_|(with_reducible refine wpAny_isSubtype_exc hC1 ?_;rw[hcC])|wp_step)
 show wpAny _ _ (typeLookup (.ref C) _) _ _ _;refine wpAny_typeLookup_tail hC1 (hN.keeps k1') (TL.keeps k1') FV.mroIs FV.init.lookup ?_;rw[hI];refine wpAny_holding (wpAny_bind (m:=bindSpecial _ _) ?_);unfold bindSpecial;refine wpAny_bind (wpAny_typeOf (T:="function") ⟨_,k1' _ _ (X _ _ lI),cI⟩ ?_);rw[if_pos (by decide)];have mk:Heap.MadeExcOf h h1 (h.objs.size+1) (.ref C) rest:=⟨k1',Heap.get?_none_of_le (Nat.le_succ _),h.objs.size,ge,Heap.get?_none_of_le (Nat.le_refl _),gt⟩;refine wpAny_pure (wpAny_bind (wpAny_mono (hq h1 _ (Nat.le_succ _) mk) (λr s' hr=>?_) λ_ _ z=>z));obtain⟨rfl,hQ⟩:=hr;wp_walk;exact hQ
theorem Ee{Q:Value->Shared->Prop}(X:K.In h)(c:XC K C fI Qa)(hz:rest.length<=sizeLine)(hq:∀h' e,h.objs.size<=e->Heap.MadeExcOf h h' e (.ref C) rest->wpAny (model prog w) (A.under (.builtin "type.__call__" ⟨.ref C::rest,[]⟩)) (call (.ref fI) (.ref e::rest)) (λr s'=>r=.none/\Q (.ref e) s') E ⟨h',g,d,t,os⟩):wpAny (model prog w) A (call (.ref C) rest) Q E ⟨h,g,d,t,os⟩:=by
 obtain⟨nm,q,N,bs,sn,sub,ab,col,dd,k0,k1,k2,k3,k5,lk,nok,hin⟩:=id c.obj;have hC:=X _ _ lk;have f1:=tc_lookup;have f2:=tc_bind (.ref C);have hT:(⟨h,g,d,t,os⟩:Shared).TypeIs (.ref C) "type":=⟨_,hC,rfl⟩;refine wpAny_call (codeAny_of_tree ?_);show wpAny _ _ (callAny (.ref C) _) _ _ _;repeat (any_goals (first|assumption|with_reducible refine wpAny_loadPart_at hC ?_|wp_step))
 refine⟨rfl,codeAny_call_builtin_at (Code.quiet_builtin _ (by decide +kernel)) entry_typeCall (wpAny_check_type_call_sub hC ?_)⟩;exact Qh X c hz λh' e he hm=>hq h' e he hm
theorem Nj{x:Addr}{name:Str}{v:Value}{mA:Str->Option Value}{tk:Tok}{Q:Fin->Shared->Prop}{ns:List Str}(X:K.In h)(c:XC K C fI Qa)(hna:PySem.W.findIn K (.ref C) name=some none)(I:h.Inst x C mA)(hw:Within mA ns)(hz:ns.length<=1000)(hq:∀h' tk',h'.Inst x C (λy=>if y=name then some v else mA y) ->(∀b o,b≠x->(∀o₀ dx,h.get? x=some o₀->o₀.dict=some dx->b≠dx)->h.get? b=some o->h'.get? b=some o) ->(∀o₀,h.get? x=some o₀->∃o₁ d₁,h'.get? x=some o₁/\o₁.cls=o₀.cls/\o₁.data=o₀.data/\o₁.dict=some d₁/\((o₀.dict=some d₁)\/(o₀.dict=none/\h.get? d₁=none)))->Q (.done (.ret .none)) ⟨h',g,d,tk',os⟩):wpAny (model prog w) A (Builtin.«object.__setattr__» ⟨[.ref x,.str name tk,v],[]⟩) Q E ⟨h,g,d,t,os⟩:=by
 obtain⟨nm,q,N,bs,sn,sub,ab,col,dd,k0,k1,k2,k3,k5,lk,nok,hin⟩:=c.obj;have hC:=X _ _ lk;obtain⟨o,hx,hc,hnc,hd⟩:=I;have hpass:=PySem.F.store_ValueError.passes (.ref x);have LN:=PySem.W.looks_findIn (M:=model prog w) X hna;unfold Builtin.«object.__setattr__»;repeat (first|rw[refuse_eq]|(rw[refuseLoop_ref,refuseLoop_ref,hpass])|(with_reducible refine wpAny_loadPart_at hx ?_;rw[hc])|(with_reducible refine wpAny_mroOf_exc hC ?_)|(with_reducible refine LN.at ?_)|wp_step)
 rcases hd with⟨hdn,hmA⟩|⟨dx,hdx,hne,hns⟩
 ·rw[hdn,if_neg (by simp[typeHasDict])];split
  ·rename_i hcd;cases hcd
  split
  ·rename_i cc hcd;exact absurd hcd (hnc cc)
  ·have xs:x≠h.objs.size:=Nat.ne_of_lt (Heap.lt_size hx);have dn:h.get? h.objs.size=none:=Heap.get?_none_of_le (Nat.le_refl _);have x1:(h.push {cls:=.type "dict",data:=.dict #[]}).get? x=some o:=Heap.get?_push_of_some _ hx;refine wpAny_bind (wpAny_alloc' (wpAny_bind (wpAny_update' x1 (wpAny_pure ?_))));generalize hU:(h.push {cls:=.type "dict",data:=.dict #[]}).update x (λo=>{cls:=o.cls,dict:=some h.objs.size,data:=o.data,slots:=o.slots})=hu;have gd:hu.get? h.objs.size=some {cls:=.type "dict",data:=.dict #[]}:=by rw[<-hU];exact(Heap.get?_update_ne _ _ _ _ xs.symm).trans (Heap.get?_push_at rfl rfl)
   have gx:hu.get? x=some {cls:=o.cls,dict:=some h.objs.size,data:=o.data,slots:=o.slots}:=by rw[<-hU];refine Heap.get?_update_self _ x1 ?_;have hfr:=(Heap.get?_some_iff.mp hx).2;obtain⟨oc,od,odt,osl⟩:=o;cases odt<;>first|rfl|exact hfr
   have nd:hu.Ns h.objs.size (λ_=>none):=⟨_,#[],_,gd,rfl,λe he=>absurd he (by simp),λ_=>rfl⟩;have ob:∀b u,b≠x->h.get? b=some u->hu.get? b=some u:=λb u hb e=>by rw[<-hU];exact(Heap.get?_update_ne _ _ _ _ hb).trans (Heap.get?_push_of_some _ e)
   show wpAny _ _ (Builtin.ObjectAttr.storeInDict h.objs.size (.str name tk) name v) _ _ _;unfold Builtin.ObjectAttr.storeInDict Builtin.ObjectAttr.newKeyGuard;refine wpAny_bind (wpAny_pure (wpAny_bind (wpAny_nsSet1 (Heap.Ns1.of_empty nd) λh2 n2 s2=>?_)));obtain⟨oD,esD,epD,hoD,hdD,hcD⟩:=n2.count (Within.cons name v Within.nil);refine wpAny_bind (wpAny_lookBehind hoD (by rw[hdD];exact pastItsLine_dict (Nat.le_trans hcD (by rw[List.length_cons,List.length_nil,sizeLine_eq];omega))) ?_);wp_walk;have gx2:h2.get? x=some {cls:=o.cls,dict:=some h.objs.size,data:=o.data,slots:=o.slots}:=(s2.2 x xs).trans gx;refine hq h2 _ ⟨_,gx2,hc,hnc,.inr ⟨h.objs.size,rfl,xs.symm,?_⟩⟩ (λb u hb _ e=>(s2.2 b (Nat.ne_of_lt (Heap.lt_size e))).trans (ob b u hb e)) λo₀ e₀=>?_
   ·obtain⟨o',es,ep,e1,e2,e3,eu,e4⟩:=n2;exact⟨o',es,ep,e1,e2,e3,eu,λy=>by rw[e4 y];by_cases hy:y=name<;>simp[hy,hmA]⟩
   ·have eo:o=o₀:=Option.some.inj (hx.symm.trans e₀);subst eo;exact⟨_,h.objs.size,gx2,rfl,rfl,rfl,.inr ⟨hdn,dn⟩⟩
 ·rw[hdx];refine wpAny_pure ?_;show wpAny _ _ (Builtin.ObjectAttr.storeInDict dx (.str name tk) name v) _ _ _;unfold Builtin.ObjectAttr.storeInDict Builtin.ObjectAttr.newKeyGuard;refine wpAny_bind (wpAny_pure (wpAny_bind (wpAny_nsSet1 hns λh2 n2 s2=>?_)));obtain⟨oD,esD,epD,hoD,hdD,hcD⟩:=n2.count (Within.cons name v hw);refine wpAny_bind (wpAny_lookBehind hoD (by rw[hdD];exact pastItsLine_dict (Nat.le_trans hcD (by rw[List.length_cons,sizeLine_eq];omega))) ?_);wp_walk;have gx2:=(s2.2 x hne.symm).trans hx;refine hq h2 _ ⟨o,gx2,hc,hnc,.inr ⟨dx,hdx,hne,n2⟩⟩ (λb u _ hbd e=>(s2.2 b (hbd o dx hx hdx)).trans e) λo₀ e₀=>?_;have eo:o=o₀:=Option.some.inj (hx.symm.trans e₀);subst eo;exact⟨_,dx,gx2,rfl,rfl,hdx,.inl hdx⟩
end
noncomputable def ErrN(x C:Addr)(dd:Option Addr):HO:=.ext λh=>∃o vs,h.get? x=some o/\o.cls=.ref C/\o.dict=dd/\o.data=.fields vs/\1<vs.size/\vs[1]?=some .none
noncomputable def XD(d:Addr)(fs:List (Str×V)):HO:=.ext λh=>∃mA,h.Ns1 d mA/\(∀f,RelO (fs.lookup f) (mA f))/\PySem.Within mA (fs.map (·.1))/\fs.length<=1000
section
variable {P:Program}{w:World}{H:Hp}{h:Heap}{x C d:Addr}{dd:Option Addr}{fs:List (Str×V)}
theorem XH:ZG P w H h x (ErrN x C dd)↔∃o vs,h.get? x=some o/\o.cls=.ref C/\o.dict=dd/\o.data=.fields vs/\1<vs.size/\vs[1]?=some .none:=by
 constructor
 ·intro z;exact z.1
 ·rintro ⟨o,vs,hx,r⟩;exact⟨⟨o,vs,hx,r⟩,⟨o,hx⟩,λh1 h2⟨o',vs',e,r'⟩k=>⟨o',vs',k _ e,r'⟩⟩
theorem Rj:ZG P w H h d (XD d fs)↔∃mA,h.Ns1 d mA/\(∀f,RelO (fs.lookup f) (mA f))/\PySem.Within mA (fs.map (·.1))/\fs.length<=1000:=by
 constructor
 ·intro z;exact z.1
 ·rintro ⟨mA,⟨o,es,ep,e,r⟩,q⟩;exact⟨⟨mA,⟨o,es,ep,e,r⟩,q⟩,⟨o,e⟩,λh1 h2⟨m,⟨o',es',ep',e',r'⟩,q'⟩k=>⟨m,⟨o',es',ep',k _ e',r'⟩,q'⟩⟩
end
section
variable {X:Cx}{pins:List (Addr×Obj)}{σ:St}{H:Hp}{s:Shared}{x C fI Qa:Addr}{name:Str}{y:V}{u:Value}{Q:Unit->Shared->Prop}
theorem N9{A:Around}{E:Value->Shared->Prop}{mA:Str->Option Value}{ns:List Str}(I:Inv X pins σ H s)(c:XC X.K C fI Qa)(hna:PySem.W.findIn X.K (.ref C) name=some none)(In:s.heap.Inst x C mA)(hw:PySem.Within mA ns)(hz:ns.length<=1000)(hq:∀h' tk',h'.Inst x C (λz=>if z=name then some u else mA z) ->(∀b o,b≠x->(∀o₀ dx,s.heap.get? x=some o₀->o₀.dict=some dx->b≠dx)->s.heap.get? b=some o->h'.get? b=some o) ->(∀o₀,s.heap.get? x=some o₀->∃o₁ d₁,h'.get? x=some o₁/\o₁.cls=o₀.cls/\o₁.data=o₀.data/\o₁.dict=some d₁/\((o₀.dict=some d₁)\/(o₀.dict=none/\s.heap.get? d₁=none)))->Q () {s with heap:=h',toks:=tk'}):wpAny (model X.prog X.w) A (setAttr (.ref x) name u) Q E s:=by
 have KX:=I.kIn;obtain⟨o,hx,hc,hnc,hd⟩:=id In;have no:PySem.W.notCls o=true:=by
  unfold PySem.W.notCls;split
  ·rename_i cc e;exact absurd e (hnc cc)
  ·rfl
 obtain⟨od,IA⟩:∃od,PySem.W.InstAt s.heap x o C od:=by
  rcases hd with⟨e,_⟩|⟨dx,e,_,oD,es,ep,hD,_⟩
  ·exact⟨none,hx,hc,no,by rw[e];trivial⟩
  ·exact⟨some oD,hx,hc,no,by rw[e];exact hD⟩
 have SF:=PySem.F.store_object;refine PySem.W.set_plain KX IA c.sa ?_;have sub:PySem.W.Looks (model X.prog X.w) s.heap (isInstance (.ref x) (.type "object")) true:=IA.type.andThen (PySem.W.looks_mroIn KX c.ob);refine codeAny_call_builtin SF.slot.plain SF.entry (@PySem.W.check_slot (model X.prog X.w) _ _ {s with toks:=s.toks+1} "object.__setattr__" "object" "__setattr__" (.ref x) [.str name s.toks,u] [] _ SF.kind SF.split sub (SF.args (.ref x) (.str name s.toks) u) ?_);exact Nj (h:=s.heap) (g:=s.gens) (d:=s.drawn) (t:=s.toks+1) (os:=s.os) KX c hna In hw hz λh' tk' I' kk same=>hq h' tk' I' kk same
end
def Jv(H:Hp)(h:Heap)(d:Addr):Prop:=(H d=none/\h.get? d=none)\/∃φ,H d=some (.ext φ)
section
variable {P:Program}{w:World}{H:Hp}{h h':Heap}{x d:Addr}{o1 o2:HO}{fs:List Addr}
theorem Jv.ne{b:Addr}{u:HO}(q:Jv H h d)(e:H b=some u)(hu:∀φ,u≠.ext φ):b≠d:=by
 rintro rfl;rcases q with⟨z,_⟩|⟨φ,z⟩
 ·rw[e]at z;cases z
 ·rw[e]at z;cases z;exact hu φ rfl
theorem J8{b:Addr}(hx:b≠x)(hd:b≠d):upd (upd H d o1) x o2 b=H b:=by rw[Zj hx,Zj hd]
theorem Pu{a:Addr}{o:HO}(z:ZG P w H h a o):∃ob,h.get? a=some ob:=by
 induction o with
|lst xs=>obtain⟨_,_,_,_,e⟩:=z;exact⟨_,e⟩
|tup xs=>obtain⟨_,_,_,ob,e,_⟩:=z;exact⟨_,e⟩
|dK kvs=>obtain⟨_,_,_,_,ob,_,_,e,_⟩:=z;exact⟨_,e⟩
|dT kvs=>obtain⟨_,_,_,_,ob,_,_,e,_⟩:=z;exact⟨_,e⟩
|set S n=>obtain⟨ob,_,_,_,e,_⟩:=z;exact⟨_,e⟩
|ins C dx fs=>obtain⟨_,_,_,e,_⟩:=z;exact⟨_,e⟩
|own y=>exact z
|xd fs=>obtain⟨_,⟨ob,_,_,e,_⟩,_⟩:=z;exact⟨_,e⟩
|rng lo hi=>obtain⟨_,_,_,e⟩:=z;exact⟨_,e⟩
|frz ob u ih=>exact⟨_,z.1⟩
|tbl ps=>exact⟨_,z⟩
|met f y=>exact⟨_,z⟩
|ext φ=>exact z.2.1
theorem TR(qx:Jv H h x)(qd:Jv H h d)(k:∀b o,b≠x->b≠d->h.get? b=some o->h'.get? b=some o)(xo:∃o,h'.get? x=some o)(dO:∃o,h'.get? d=some o):Un fs [] H (upd (upd H d o1) x o2) h h':=by
 have off:∀{z:Addr},Jv H h z->∀b o,h.get? b=some o->H b=none->b≠z:=by
  intro z q b o e n;rintro rfl;rcases q with⟨_,y⟩|⟨φ,y⟩
  ·rw[e]at y;cases y
  ·rw[n]at y;cases y
 refine⟨λb o e n _ _=>k b o (off qx b o e n) (off qd b o e n) e,λb o e n _ _=>⟨o.slots,k b o (off qx b o e n) (off qd b o e n) e⟩,λb o e n _=>(J8 (off qx b o e n) (off qd b o e n)).trans n,λb o e _=>?_,λb xs e=>(J8 (qx.ne e (by simp)) (qd.ne e (by simp))).trans e,λb o u e=>(J8 (qx.ne e (by simp)) (qd.ne e (by simp))).trans e,λb ps e=>⟨#[],(J8 (qx.ne e (by simp)) (qd.ne e (by simp))).trans (by simpa using e)⟩⟩;by_cases hx:b=x
 ·exact hx▸xo
 ·by_cases hd:b=d
  ·exact hd▸dO
  ·exact⟨o,k b o hx hd e⟩
theorem RS(ok:HOk P w H h)(qx:Jv H h x)(qd:Jv H h d)(ne:d≠x)(k:∀b o,b≠x->b≠d->h.get? b=some o->h'.get? b=some o)(nx:ZG P w (upd (upd H d o1) x o2) h' x o2)(nd:ZG P w (upd (upd H d o1) x o2) h' d o1):HOk P w (upd (upd H d o1) x o2) h':=λb u e=>by
 by_cases hx:b=x
 ·subst hx;rw[Ze]at e;cases e;exact nx
 ·by_cases hd:b=d
  ·subst hd;rw[Zj ne,Ze]at e;cases e;exact nd
  ·rw[J8 hx hd]at e;refine(ok b u e).stay (λc v hc q=>?_) (λc q=>(J8 (qx.ne q (by simp)) (qd.ne q (by simp))).trans q) λc xs q=>(J8 (qx.ne q (by simp)) (qd.ne q (by simp))).trans q;rcases hc with rfl|hc
   ·exact k _ v hx hd q
   ·exact k _ v (qx.ne hc (by simp)) (qd.ne hc (by simp)) q
end
section
variable {X:Cx}{pins:List (Addr×Obj)}{σ:St}{H:Hp}{s:Shared}{x C fI Qa:Addr}{f:Str}{y:V}{u:Value}{Q:Unit->Shared->Prop}
theorem MY{dd:Option Addr}{h:Heap}(e:H x=some (ErrN x C dd)):Jv H h x:=.inr ⟨_,e⟩
theorem Pn{fs:List (Str×V)}{mA:Str->Option Value}(r:∀g,RelO (fs.lookup g) (mA g))(ry:RelV y u)(g:Str):RelO ((putF f y fs).lookup g) (if g=f then some u else mA g):=by
 rw[Zl];by_cases q:g=f
 ·rw[if_pos q,if_pos q];exact ry
 ·rw[if_neg q,if_neg q];exact r g
theorem GC{fs:List (Str×V)}{mA:Str->Option Value}(wi:PySem.Within mA (fs.map (·.1))):PySem.Within (λg=>if g=f then some u else mA g) ((putF f y fs).map (·.1)):=λg hg=>by
 by_cases q:g=f
 ·rw[q];exact(X8 f y fs).1
 ·refine(X8 f y fs).2 g (wi g λz=>hg ?_);show(if g=f then some u else mA g)=none;rw[if_neg q];exact z
theorem TN{A:Around}{E:Value->Shared->Prop}(I:Inv X pins σ H s)(c:XC X.K C fI Qa)(hna:PySem.W.findIn X.K (.ref C) f=some none)(e:H x=some (ErrN x C none))(ry:RelV y u)(h:∀d s',d≠x->H d=none->Inv X pins σ (upd (upd H d (XD d [(f,y)])) x (ErrN x C (some d))) s'->Q () s'):wpAny (model X.prog X.w) A (setAttr (.ref x) f u) Q E s:=by
 obtain⟨o,vs,hx,hc,hdd,hd,hz,h1⟩:=XH.mp (I.hok x _ e);have In:s.heap.Inst x C (λ_=>none):=⟨o,hx,hc,(λcc q=>by rw[hd]at q;cases q),.inl ⟨hdd,λ_=>rfl⟩⟩;refine N9 (ns:=[]) I c hna In (λg hg=>absurd rfl hg) (Nat.zero_le _) λh' tk' I' k same=>?_;obtain⟨o₁,d₁,hx',c1,dt1,dd1,sd⟩:=same o hx;have dn:s.heap.get? d₁=none:=by
  rcases sd with z|⟨_,z⟩
  ·rw[hdd]at z;cases z
  ·exact z
 obtain⟨o',hx2,_,_,hdx⟩:=I';have eo:o'=o₁:=Option.some.inj (hx2.symm.trans hx');subst eo;have Hd:H d₁=none:=by
  cases q:H d₁ with
 |none=>rfl
 |some v=>
   obtain⟨ob,z⟩:∃ob,s.heap.get? d₁=some ob:=by have:=I.hok _ _ q;exact Pu this
   rw[dn]at z;cases z
 rcases hdx with⟨z,_⟩|⟨dx,z,ne,ns⟩
 ·rw[dd1]at z;cases z
 ·have ed:d₁=dx:=by rw[dd1]at z;exact Option.some.inj z
  subst ed;have kk:∀b ob,b≠x->b≠d₁->s.heap.get? b=some ob->h'.get? b=some ob:=λb ob hb _ q=>k b ob hb (λo₀ dx' e0 e1=>by rw[hx]at e0;cases e0;rw[hdd]at e1;cases e1) q;have qx:Jv H s.heap x:=MY e;have qd:Jv H s.heap d₁:=.inl ⟨Hd,dn⟩;have nd:ZG X.prog X.w (upd (upd H d₁ (XD d₁ [(f,y)])) x (ErrN x C (some d₁))) h' d₁ (XD d₁ [(f,y)]):=Rj.mpr ⟨_,ns,λg=>Pn (fs:=[]) (mA:=λ_=>none) (λ_=>True.intro) ry g,GC (fs:=[]) λg hg=>absurd rfl hg,by simp⟩;have nx:ZG X.prog X.w (upd (upd H d₁ (XD d₁ [(f,y)])) x (ErrN x C (some d₁))) h' x (ErrN x C (some d₁)):=XH.mpr ⟨o',vs,hx',c1.trans hc,dd1,dt1.trans hd,hz,h1⟩;obtain⟨oD,_,_,hoD,_⟩:=id ns;exact h d₁ _ ne Hd (I.un (TR qx qd kk ⟨_,hx'⟩ ⟨_,hoD⟩) (RS I.hok qx qd ne kk nx nd))
theorem So{A:Around}{E:Value->Shared->Prop}{d:Addr}{fs:List (Str×V)}(I:Inv X pins σ H s)(c:XC X.K C fI Qa)(hna:PySem.W.findIn X.K (.ref C) f=some none)(e:H x=some (ErrN x C (some d)))(ed:H d=some (XD d fs))(ne:d≠x)(hl:fs.length<1000)(ry:RelV y u)(h:∀s',Inv X pins σ (upd (upd H d (XD d (putF f y fs))) x (ErrN x C (some d))) s'->Q () s'):wpAny (model X.prog X.w) A (setAttr (.ref x) f u) Q E s:=by
 obtain⟨o,vs,hx,hc,hdd,hd,hz,h1⟩:=XH.mp (I.hok x _ e);obtain⟨mA,ns,r,wi,_⟩:=Rj.mp (I.hok d _ ed);have In:s.heap.Inst x C mA:=⟨o,hx,hc,(λcc q=>by rw[hd]at q;cases q),.inr ⟨d,hdd,ne,ns⟩⟩;refine N9 (ns:=fs.map (·.1)) I c hna In wi (by rw[List.length_map];omega) λh' tk' I' k same=>?_;obtain⟨o₁,d₁,hx',c1,dt1,dd1,sd⟩:=same o hx;have e1:d₁=d:=by
  rcases sd with z|⟨z,_⟩
  ·rw[hdd]at z;exact(Option.some.inj z).symm
  ·rw[hdd]at z;cases z
 subst e1;obtain⟨o',hx2,_,_,hdx⟩:=I';have eo:o'=o₁:=Option.some.inj (hx2.symm.trans hx');subst eo;rcases hdx with⟨z,_⟩|⟨dx,z,_,ns'⟩
 ·rw[dd1]at z;cases z
 ·have ed':d₁=dx:=by rw[dd1]at z;exact Option.some.inj z
  subst ed';have kk:∀b ob,b≠x->b≠d₁->s.heap.get? b=some ob->h'.get? b=some ob:=λb ob hb hbd q=>k b ob hb (λo₀ dx' e0 e1=>by rw[hx]at e0;cases e0;rw[hdd]at e1;cases e1;exact hbd) q;have qx:Jv H s.heap x:=MY e;have qd:Jv H s.heap d₁:=.inr ⟨_,ed⟩;have nd:ZG X.prog X.w (upd (upd H d₁ (XD d₁ (putF f y fs))) x (ErrN x C (some d₁))) h' d₁ (XD d₁ (putF f y fs)):=Rj.mpr ⟨_,ns',λg=>Pn r ry g,GC wi,by have:=Z6 f y fs;omega⟩;have nx:ZG X.prog X.w (upd (upd H d₁ (XD d₁ (putF f y fs))) x (ErrN x C (some d₁))) h' x (ErrN x C (some d₁)):=XH.mpr ⟨o',vs,hx',c1.trans hc,dd1,dt1.trans hd,hz,h1⟩;obtain⟨oD,_,_,hoD,_⟩:=id ns';exact h _ (I.un (TR qx qd kk ⟨_,hx'⟩ ⟨_,hoD⟩) (RS I.hok qx qd ne kk nx nd))
def Ex(K:PySem.W.Frag)(ta tv:TE)(f:Str):TS:=λD σ H=>tv σ H λy H1=>ta σ H1 λx H2=>∃a C fI Qa,x=.ref a/\H2 a=some (ErrN a C none)/\XC K C fI Qa/\PySem.W.findIn K (.ref C) f=some none /\∀d,d≠a->H2 d=none->D.nx σ (upd (upd H2 d (XD d [(f,y)])) a (ErrN a C (some d)))
def Ey(K:PySem.W.Frag)(ta tv:TE)(f:Str):TS:=λD σ H=>tv σ H λy H1=>ta σ H1 λx H2=>∃a C fI Qa d fs,x=.ref a/\H2 a=some (ErrN a C (some d))/\H2 d=some (XD d fs)/\d≠a/\fs.length<1000/\XC K C fI Qa/\PySem.W.findIn K (.ref C) f=some none /\D.nx σ (upd (upd H2 d (XD d (putF f y fs))) a (ErrN a C (some d)))
section
variable {o value:Expr}{pos pos':Pos}{ta tv:TE}
theorem RH(ha:PE X o ta)(hv:PE X value tv)(hs:swapsWith value (some (.Attribute o f pos')) pos.line X.env=pure false):PS X (.Assign [.Attribute o f pos'] value pos) (Ex X.K ta tv f):=by intro pins s σ H D I h;refine plainObj_wpAny_Assign_Attribute (thn (hv pins s σ H _ I h) λu s1⟨y,H1,I1,ry,q⟩=>thn (ha pins s1 σ H1 _ I1 q) λov s2⟨x,H2,I2,rx,a,C,fI,Qa,ex,ea,c,n,q2⟩=>?_) hs;subst ex;obtain rfl:ov=Value.ref a:=rx;exact TN I2 c n ea ry λd s3 ne hn I3=>⟨σ,_,I3,q2 d ne hn⟩
theorem RI(ha:PE X o ta)(hv:PE X value tv)(hs:swapsWith value (some (.Attribute o f pos')) pos.line X.env=pure false):PS X (.Assign [.Attribute o f pos'] value pos) (Ey X.K ta tv f):=by intro pins s σ H D I h;refine plainObj_wpAny_Assign_Attribute (thn (hv pins s σ H _ I h) λu s1⟨y,H1,I1,ry,q⟩=>thn (ha pins s1 σ H1 _ I1 q) λov s2⟨x,H2,I2,rx,a,C,fI,Qa,d,fs,ex,ea,ed,ne,hl,c,n,q2⟩=>?_) hs;subst ex;obtain rfl:ov=Value.ref a:=rx;exact So I2 c n ea ed ne hl ry λs3 I3=>⟨σ,_,I3,q2⟩
end
end
section
variable {X:Cx}{CX:CXT}{k:Nat}{f C Qa:Addr}{fd:FuncData}{ps:List Str}{sp:Sp}{dvs:List V}{ds:List Value}{E:XK}{x m:Str}{p pos apos:Pos}{e o:Expr}{es:List Expr}{ta:TE}{t:TA}
theorem Sz{pins:List (Addr×Obj)}{σ:St}{H:Hp}{s:Shared}{Q:VK}{us:List Value}{vs:List V}(c:XC X.K C f Qa)(F:FnOk X.prog X.w X.K X.mg X.base CX k f fd ps sp)(hr:Room (k+1) X.A)(hb:Binds X.K fd ps ds)(hd:Vals dvs ds)(hx:Passes CX X E)(I:Inv X pins σ H s)(r:Vals vs us)(hz:us.length<=sizeLine)(h:∀x,H x=none->sp (.ref x::(vs++dvs)) (upd H x (ErrN x C none)) (λv H2=>v=.non/\Q (.ref x) H2) E):wpAny (model X.prog X.w) X.A (call (.ref C) us) (EP X pins σ Q) X.xe s:=by
 refine Ee (h:=s.heap) (g:=s.gens) (d:=s.drawn) (t:=s.toks) (os:=s.os) I.kIn c hz λh' a ha mk=>?_;obtain⟨kk,_,T,ge,_,_⟩:=mk;have hq:=h a (I.hok.fresh ha);have I2:Inv X pins σ (upd H a (ErrN a C none)) {s with heap:=h'}:=I.laid (t':=s.toks) kk ha (XH.mpr ⟨_,_,ge,rfl,rfl,rfl,by simp,by simp⟩);have r2:Vals (V.ref a::(vs++dvs)) (Value.ref a::(us++ds)):=.cons rfl (r.append hd);have hl:(Value.ref a::us++ds).length=ps.length:=by have e:=r2.length;rw[F.len _ _ _ _ hq]at e;exact e.symm
 refine wpAny_call (codeAny_mono (F.run _ X.stack {s with heap:=h'} _ ⟨Value.ref a::us,[]⟩ (Value.ref a::(us++ds)) _ _ E (hr.make C us []) (I2.env0.make C us []) (hb _ (Value.ref a::us) I2.kIn hl) r2 hq) λr s' hq'=>?_);cases r with
|error e=>exact hx pins σ _ _ e s' I2 hq'
|ok fl=>
  cases fl with
 |ret u=>obtain⟨v,H',I3,rv,ev,q3⟩:=I2.after hq';subst ev;exact⟨rv,⟨V.ref a,H',I3,rfl,q3⟩⟩
 |next=>exact False.elim hq'
 |brk=>exact False.elim hq'
 |cont=>exact False.elim hq'
end
noncomputable def del(H:Hp)(a:Addr):Hp:=λb=>if b=a then none else H b
theorem JH{H:Hp}{a:Addr}:del H a a=none:=by simp[del]
theorem XQ{H:Hp}{a b:Addr}(h:b≠a):del H a b=H b:=by simp[del,h]
section
variable {M:Model}{A:Around}{E:Value->Shared->Prop}{env:Env}{K:PySem.W.Frag}
theorem SE{s:Shared}{x:Sem Value}{Q:Flow->Shared->Prop}(hh:A.handled=none)(h:wpAny M A x (λv s₁=>∃e oe C fI Qa vs,v=.ref e/\XC K C fI Qa/\K.In s₁.heap/\s₁.heap.get? e=some oe/\oe.cls=.ref C/\oe.data=.fields vs/\vs[1]?=some .none/\E (.ref e) s₁) E s):wpAny M A (raiseStmt env (some x) none) Q E s:=by
 unfold raiseStmt;refine wpAny_bind (wpAny_mono h (λv s₁ h₁=>?_) λ_ _ x=>x);obtain⟨e,⟨oc,od,odt,osl⟩,C,fI,Qa,vs,rfl,c,KI,he,hc,hvs,h1,hE⟩:=h₁;obtain rfl:oc=.ref C:=hc;obtain rfl:odt=.fields vs:=hvs;obtain⟨hp,g,d,tk,os⟩:=s₁;obtain⟨nm,q,N,bs,sn,sub,ab,col,dd,k0,k1,k2,k3,k5,lk,nok,hin⟩:=id c.obj;have hC:=KI _ _ lk;have hcB:(Value.ref C::.ref Qa::bmV).contains (.type "BaseException")=true:=by rw[List.contains_cons,List.contains_cons,show bmV.contains (.type "BaseException")=true from by decide,Bool.or_true,Bool.or_true]
 repeat (first|with_reducible refine wpAny_loadPart_at he ?_|with_reducible refine wpAny_loadPart_at hC ?_|(with_reducible refine wpAny_isSubtype_exc hC ?_;rw[hcB])|wp_step)
 show wpAny M A (match vs[1]? with|some x=>pure x|none=>unsupported "internal:no-such-field") _ _ _
 rw[h1];refine wpAny_pure ?_;show wpAny M A (if(Value.none != Value.none)=true then _ else pure ()) _ _ _;rw[if_neg (by decide)];exact wpAny_pure (wpAny_raiseNew_none hh hE)
end
section
variable {X:Cx}{pins:List (Addr×Obj)}{σ:St}{H:Hp}{s:Shared}{a C:Addr}{dd:Option Addr}{E:XK}
theorem raised(I:Inv X pins σ H s)(e:H a=some (ErrN a C dd))(hE:E (.ref C) dd (del H a)):CX1 X.prog X.w X.stack H s E (.ref a) s:=by
 obtain⟨o,vs,hx,hc,hdd,hd,hz,h1⟩:=XH.mp (I.hok a _ e);have na:∀b u,H b=some u->(∀φ,u≠.ext φ)->b≠a:=λb u q n z=>by subst z;rw[e]at q;cases q;exact n _ rfl
 have fr:a∉frs X.stack:=λz=>by rw[I.stkFree a z]at e;cases e
 have hB:∀b o',s.heap.get? b=some o'->b≠a->b∉frs X.stack->(PySem.W.hideAll s.heap (a::frs X.stack)).get? b=some o':=λb o' q n1 n2=>PySem.W.hideAll_get _ q λz=>by
  rcases List.mem_cons.mp z with z|z
  ·exact n1 z
  ·exact n2 z
 refine⟨a,.ref C,dd,PySem.W.hideAll s.heap (a::frs X.stack),del H a,rfl,rfl,I.bare,⟨λb o q _ _ _=>q,λb o q _ _ _=>⟨o.slots,q⟩,λb o q n _=>?_,λb o q _=>⟨o,q⟩,λb xs q=>(XQ (na b _ q (by simp))).trans q,λb o u q=>(XQ (na b _ q (by simp))).trans q,λb ps q=>⟨#[],by rw[XQ (na b _ q (by simp))];simpa using q⟩⟩,?_,?_,?_,hE⟩
 ·by_cases hb:b=a
  ·rw[hb];exact JH
  ·rw[XQ hb];exact n
 ·intro b u q;have hb:b≠a:=λz=>by rw[z,JH]at q;cases q
  rw[XQ hb]at q;exact(I.hok b u q).stay (λ_ _ _ z=>z) (λc z=>(XQ (na c _ z (by simp))).trans z) λc xs z=>(XQ (na c _ z (by simp))).trans z
 ·refine⟨λb u q=>PySem.W.of_hideAll _ q,PySem.W.hideAll_none _ (.head _),?_,o,vs,hx,hc,hdd,hd,hz,.inl ⟨h1,rfl⟩⟩;have go:∀l:List Env,(∀b∈frs l,b∈a::frs X.stack)->s.heap.FunFrames X.base l->s.heap.FunFrames (PySem.W.hideAll s.heap (a::frs X.stack)) l:=by
   intro l;induction l with
  |nil=>intro _ _;trivial
  |cons env r ih=>
    intro hs ⟨hk,⟨L,oL,hf,hn,ho,hnd⟩,hr⟩;have hL:frs (env::r)=L::frs r:=by unfold frs;rw[List.filterMap_cons,hf]
    exact⟨hk,⟨L,oL,hf,PySem.W.hideAll_none _ (hs L (by rw[hL];exact .head _)),ho,hnd⟩,ih (λb hb=>hs b (by rw[hL];exact .tail _ hb)) hr⟩
  exact go X.stack (λb hb=>.tail _ hb) I.stack
 ·refine⟨λb u q=>?_,λb o' q n hb=>hB b o' q (λz=>by rw[z,e]at n;cases n) hb,λb o' q=>?_,JH⟩
  ·have hb:b≠a:=λz=>by rw[z,JH]at q;cases q
   rw[XQ hb]at q;obtain⟨o',z⟩:=Pu (I.hok b u q);exact⟨o',hB b o' z hb λm=>by rw[I.stkFree b m]at q;cases q⟩
  ·by_cases hb:b=a
   ·exact .inr (.inl hb)
   ·by_cases hf:b∈frs X.stack
    ·exact .inl hf
    ·exact .inr (.inr ⟨o',hB b o' q hb hf⟩)
end
noncomputable def ErrC(x C:Addr)(dd:Option Addr):HO:=.ext λh=>∃o vs,h.get? x=some o/\o.cls=.ref C/\o.dict=dd/\o.data=.fields vs
structure XB(K:PySem.W.Frag)(D:Addr):Prop where
 obj:∃nm q N bs bm hd sn sub ab col dd k0 k1 k2 k3 k5 nid,K.lookup D=some (excClassObj nm q D N bs bm hd sn sub ab col dd k0 k1 k2 k3 k5 nid)/\bm.contains (.type "BaseException")=true
theorem RX{P:Program}{w:World}{H:Hp}{h:Heap}{x C:Addr}{dd:Option Addr}:ZG P w H h x (ErrC x C dd)↔∃o vs,h.get? x=some o/\o.cls=.ref C/\o.dict=dd/\o.data=.fields vs:=by
 constructor
 ·intro z;exact z.1
 ·rintro ⟨o,vs,hx,r⟩;exact⟨⟨o,vs,hx,r⟩,⟨o,hx⟩,λh1 h2⟨o',vs',e,r'⟩k=>⟨o',vs',k _ e,r'⟩⟩
section
variable {M:Model}{A:Around}{E:Value->Shared->Prop}{K:PySem.W.Frag}{C D fI Qa e:Addr}{h:Heap}{g:Array GenState}{d:Drawn}{t:Nat}{os:OsState}{oe:Obj}
theorem Gf{Q:Bool->Shared->Prop}(KI:K.In h)(c:XC K C fI Qa)(b:XB K D)(he:h.get? e=some oe)(hcls:oe.cls=.ref C)(hq:Q ((Value.ref C::.ref Qa::bmV).contains (.ref D)) ⟨h,g,d,t,os⟩):wpAny M A (excMatches (.ref e) (.ref D)) Q E ⟨h,g,d,t,os⟩:=by
 obtain⟨nm,q,N,bs,sn,sub,ab,col,dd,k0,k1,k2,k3,k5,lk,nok,hin⟩:=id c.obj;obtain⟨nm',q',N',bs',bm',hd',sn',sub',ab',col',dd',k0',k1',k2',k3',k5',nid',lk',hb'⟩:=b.obj;have hC:=KI _ _ lk;have hD:=KI _ _ lk';have hcB:(Value.ref D::bm').contains (.type "BaseException")=true:=by rw[List.contains_cons,hb',Bool.or_true]
 have f:=tc_notTuple;generalize hcc:(Value.ref C::.ref Qa::bmV).contains (.ref D)=bb at hq;unfold excMatches;repeat (first|(with_reducible refine wpAny_loadPart_at he ?_;rw[hcls])|with_reducible refine wpAny_loadPart_at hC ?_|with_reducible refine wpAny_loadPart_at hD ?_|(with_reducible refine wpAny_isSubtype_exc hD ?_;rw[hcB])|(with_reducible refine wpAny_isSubtype_exc hC ?_;rw[hcc])|wp_step)
 first
 |exact hq
 |(cases bb<;>(wp_walk;exact hq))
theorem EJ{B:Heap}{x:Addr}{c:Value}{dd:Option Addr}{s:Shared}{Q:Unit->Shared->Prop}(F:RecX B x c dd .none s.heap)(hQ:∀h',(∀b o,s.heap.get? b=some o->h'.get? b=some o)->Q () {s with heap:=h'}):wpAny M A (setFlight (.ref x) none) Q E s:=by
 obtain⟨o,vs,hx,hc,hdd,hd,hz,tr⟩:=F;unfold setFlight;rcases tr with⟨h1,_⟩|⟨T,oT,ts,h1,bT,nT,hT,hdT,h3⟩
 ·refine wpAny_bind (wpAny_field hx hd h1 ?_);rw[if_neg (by decide)];exact wpAny_pure (hQ _ λ_ _ z=>z)
 ·have z3:3<ts.size:=(Array.getElem?_eq_some_iff.mp h3).1;refine wpAny_bind (wpAny_field hx hd h1 ?_);rw[if_pos (show(Value.ref T != Value.none)=true from by simp)];refine wpAny_setField hT hdT z3 (hQ _ λb u hb=>?_);by_cases hbT:b=T
  ·subst hbT;rw[hT]at hb;cases hb;have es:ts.setIfInBounds 3 Value.none=ts:=by
    apply Array.ext
    ·simp
    ·intro i h1 h2;rw[Array.getElem_setIfInBounds]
     ·split
      ·rename_i e3;subst e3;rw[Array.getElem?_eq_getElem z3]at h3;exact(Option.some.inj h3).symm
      ·rfl
   have eo:Obj.mapFields (·.setIfInBounds 3 ((none:Option Addr).elim Value.none λf=>rawInt f)) oT=oT:=by obtain⟨a1,a2,a3,a4⟩:=oT;cases hdT;show(⟨a1,a2,.fields (ts.setIfInBounds 3 Value.none),a4⟩:Obj)=_;rw[es]
   have:=Heap.get?_update_self (Obj.mapFields (·.setIfInBounds 3 ((none:Option Addr).elim Value.none λf=>rawInt f))) hT (by rw[eo];exact Obj.isFreed_of_fields hdT);rw[this,eo]
  ·rw[Heap.get?_update_other _ _ (Ne.symm hbT)];exact hb
end
noncomputable abbrev Cx.hot(X:Cx)(e:Value):Cx:={X with A:=X.A.mark (some e),calm:=false,xe:=λ_ _=>False}
section
variable {X:Cx}{pins:List (Addr×Obj)}{σ:St}{H:Hp}{s:Shared}{e:Value}
theorem Cx.Ok.hot(ok:X.Ok)(e:Value):(X.hot e).Ok:=⟨ok.mod,ok.kind,ok.glob,ok.blt,ok.above,ok.inj,ok.has,ok.cab,(λz=>absurd (show false=true from z) (by decide)),ok.frames,ok.stk,ok.exf,ok.bs,ok.bsz,ok.noex,ok.exfs,ok.funs,ok.frf⟩
theorem Inv.hot(I:Inv X pins σ H s)(e:Value):Inv (X.hot e) pins σ H s:=⟨I.ok.hot e,I.os,I.bare,I.base,I.loc,I.cell,I.free,I.freeC,I.pin,I.hok,I.len⟩
theorem Inv.unhot(ok:X.Ok)(I:Inv (X.hot e) pins σ H s):Inv X pins σ H s:=⟨ok,I.os,I.bare,I.base,I.loc,I.cell,I.free,I.freeC,I.pin,I.hok,I.len⟩
theorem forget{M:Model}{A:Around}{E:Value->Shared->Prop}{i:Nat}{n:Str}{pos:Pos}{Q:Unit->Shared->Prop}(I:Inv X pins σ H s)(hN:X.N.Nodup)(hi:X.N[i]?=some n)(hk:X.env.scope.names.lookup n=some .local)
  (h:∀s',Inv X pins (σ.set i none) H s'->Q () s'):wpAny M A (do bindName X.env n .none;unbindBehindTheSuite X.env n pos) Q E s:=by
 obtain⟨m,hn,hl⟩:=id I.loc
 have hcls:(X.env.scope.kind==.class||(X.env.scope.kind==.module&&X.env.locals != X.env.globals))=false:=by rw[I.ok.kind];rfl
 have hiσ:i<σ.length:=by rw[I.len];exact(List.getElem?_eq_some_iff.mp hi).1
 refine wpAny_nameGoes_keeps hk hn hcls λh' v hn' hs=>?_
 have up:∀b o,X.s₀.heap.get? b=some o->b≠X.env.locals:=λb o q=>Nat.ne_of_lt (Nat.lt_of_lt_of_le (Heap.lt_size q) I.ok.above)
 refine h _ ⟨I.ok,I.os,I.bare,⟨λb o q n' hb hx=>(hs.2 b (up b o q)).trans (I.base.keep b o q n' hb hx),λb o q n' hb hx=>?_,I.base.free,λb o q hx=>?_,I.base.tups,I.base.frzs,I.base.tbls⟩,⟨_,hn',λj y v' e1 e2 e3=>?_⟩,λy c q=>?_,I.free,I.freeC,λp hp=>?_,λb ob q=>?_,by simpa using I.len⟩
 ·obtain⟨sl,e1⟩:=I.base.slot b o q n' hb hx
  exact⟨sl,(hs.2 b (up b o q)).trans e1⟩
 ·obtain⟨o',e1⟩:=I.base.there b o q hx
  exact⟨o',(hs.2 b (up b o q)).trans e1⟩
 ·by_cases hj:j=i
  ·subst hj
   rw[List.getElem?_set_self hiσ]at e2
   cases e2
  ·rw[List.getElem?_set_ne (Ne.symm hj)]at e2
   obtain⟨u',r',q⟩:=hl j y v' e1 e2 e3
   refine⟨u',r',?_⟩
   rcases q with⟨k,q⟩|⟨k,c,q,z⟩
   ·refine .inl ⟨k,?_⟩
    have:y≠n:=λz=>hj (G9 hN e1 (z▸hi))
    simp[this,q]
   ·exact .inr ⟨k,c,q,z.sameBut hs (I.cne y c q)⟩
 ·obtain⟨w',z⟩:=I.cell y c q
  exact⟨w',z.sameBut hs (I.cne y c q)⟩
 ·obtain⟨q,n',ne,nf,d⟩:=I.pin p hp
  exact⟨(hs.2 p.1 ne).trans q,n',ne,nf,d⟩
 ·refine(I.hok b ob q).stay (λc w' hc z=>(hs.2 c ?_).trans z) (λ_ z=>z) λ_ _ z=>z
  rintro rfl
  rcases hc with rfl|hc
  ·rw[I.free]at q;cases q
  ·rw[I.free]at hc;cases hc
end
section
variable {X:Cx}{pins:List (Addr×Obj)}{σ:St}{H:Hp}{s:Shared}{x C fI Qa Dc:Addr}{dd:Option Addr}{B:Heap}{cn n:Str}{i:Nat}{p pos:Pos}{b₀:Stmt}{suite:List Stmt}{rest:List ExceptHandler}{ts:TS}{D:Ends}
noncomputable def lose(i:Nat)(D:Ends):Ends:={nx:=λσ H=>D.nx (σ.set i none) H,rt:=D.rt,bk:=λσ H=>D.bk (σ.set i none) H,ct:=λσ H=>D.ct (σ.set i none) H}
theorem QS{nm:Option Str}(I:Inv X pins σ H s)(R:RecX B x (.ref C) dd .none s.heap)(c:XC X.K C fI Qa)(b:XB X.K Dc)(hg:Gl X cn)(hm:X.mg cn=some (.ref Dc))(no:(Value.ref C::.ref Qa::bmV).contains (.ref Dc)=false)(h:wpAny (model X.prog X.w) X.A (handleBy (.ref x) X.env rest) (SP X pins D) X.xe s)(hd:(cn==("__debug__":Str))=false:=by decide):wpAny (model X.prog X.w) X.A (handleBy (.ref x) X.env (.ExceptHandler (some (.Name cn p)) nm (b₀::suite) pos::rest)) (SP X pins D) X.xe s:=by obtain⟨o,vs,hx,hc,_⟩:=R;refine wpAny_handleBy_cons (codeAny_handlers_test ?_) (by intro q;cases q);refine Jm (X:=X.hot (.ref x)) (I.hot _) hg hm ?_ hd;obtain⟨hh,g,d,tk,os⟩:=s;refine Gf I.kIn c b hx hc ?_;rw[no];exact h
theorem Tj(I:Inv X pins σ H s)(hH:H x=some (ErrC x C dd))(R:RecX B x (.ref C) dd .none s.heap)(c:XC X.K C fI Qa)(b:XB X.K Dc)(hg:Gl X cn)(hm:X.mg cn=some (.ref Dc))(yes:(Value.ref C::.ref Qa::bmV).contains (.ref Dc)=true)(hN:X.N.Nodup)(hi:X.N[i]?=some n)(hk:X.env.scope.names.lookup n=some .local)(hs:PSs (X.hot (.ref x)) (b₀::suite) ts)(h:ts (lose i D) (σ.set i (some (.ref x))) H)(hd:(cn==("__debug__":Str))=false:=by decide):wpAny (model X.prog X.w) X.A (handleBy (.ref x) X.env (.ExceptHandler (some (.Name cn p)) (some n) (b₀::suite) pos::rest)) (SP X pins D) X.xe s:=by
 obtain⟨o,vs,hx,hc,_⟩:=id R;refine wpAny_handleBy_cons (codeAny_handlers_test ?_) (by intro q;cases q);refine Jm (X:=X.hot (.ref x)) (I.hot _) hg hm ?_ hd;obtain⟨hh,g,d,tk,os⟩:=s;refine Gf I.kIn c b hx hc ?_;rw[yes];refine codeAny_handlers_suite_as (EJ R λh' k=>?_);have I2:Inv X pins σ H ⟨h',g,d,tk,os⟩:=I.kept (t':=tk) k;refine GJ (X:=X.hot (.ref x)) (v:=.ref x) (I2.hot _) hN hi (.inl hk) rfl (λs3 I3=>?_) (.inr hk);refine wpAny_mono (hs pins s3 _ H (lose i D) I3 h) (λf s4 q=>?_) λ_ _ z=>False.elim z;cases f with
|next=>obtain⟨σ',H',J,q⟩:=q;exact forget (J.unhot I.ok) hN hi hk λs' J'=>⟨_,H',J',q⟩
|brk=>obtain⟨σ',H',J,q⟩:=q;exact forget (J.unhot I.ok) hN hi hk λs' J'=>⟨_,H',J',q⟩
|cont=>obtain⟨σ',H',J,q⟩:=q;exact forget (J.unhot I.ok) hN hi hk λs' J'=>⟨_,H',J',q⟩
|ret u=>obtain⟨v,σ',H',J,r,q⟩:=q;exact forget (J.unhot I.ok) hN hi hk λs' J'=>⟨v,_,H',J',r,q⟩
end
section
variable {X:Cx}{pins:List (Addr×Obj)}{σ:St}{H1 H2:Hp}{s1 s2:Shared}{x C:Addr}{dd:Option Addr}{B h':Heap}{fl:Value}
theorem Ld(I:Inv X pins σ H1 s1)(os:s2.os=s1.os)(bare:AllBare s2.gens)(un:Un (frs X.stack) [] H1 H2 s1.heap s2.heap)(hok:HOk X.prog X.w H2 s2.heap)(F:Fly B X.stack x (.ref C) dd .none s2.heap)(b:BaseX B (frs X.stack) x H1 H2 s1.heap)(F':Fly B X.stack x (.ref C) dd fl h')(U:s2.heap.UpToSlots h'):Inv X pins σ (upd H2 x (ErrC x C dd)) {s2 with heap:=h'}:=by
 have nx:∀d o,s1.heap.get? d=some o->H1 d=none->d≠x:=by
  rintro d o e n rfl;by_cases hd:d∈frs X.stack
  ·obtain⟨_,o1,e1,nf⟩:=I.stack.mem hd;rw[e]at e1;cases e1;obtain⟨sl,q⟩:=un.slot d o e n hd (by simp);obtain⟨o3,vs,q3,_,_,q4,_⟩:=F.row;rw[q]at q3;cases q3;exact nf vs q4
  ·have:=b.old d o e n hd;rw[F.new]at this;cases this
 have hne:∀d u,H2 d=some u->d≠x:=by rintro d u e rfl;rw[b.xn]at e;cases e
 have hok':HOk X.prog X.w H2 h':=PK hok b.trk F.keep F'.keep;refine I.call' (s':={s2 with heap:=h'}) (ch:=[]) os ⟨λd o e n hd _=>F'.keep d o (b.old d o e n hd),λd o e n hd _=>?_,λd o e n hx=>?_,λd o e _=>?_,λd xs e=>?_,λd o u e=>?_,λd ps e=>?_⟩ (λd u e=>?_) bare λd z=>absurd z (by simp)
 ·obtain⟨sl,q⟩:=un.slot d o e n hd (by simp);obtain⟨_,o1,e1,nf⟩:=I.stack.mem hd;rw[e]at e1;cases e1;obtain⟨sl2,q2⟩:=U d _ q nf;exact⟨sl2,q2⟩
 ·rw[Zj (nx d o e n)];exact un.free d o e n hx
 ·rcases b.all d o e with z|z|⟨o',z⟩
  ·obtain⟨_,o1,e1,nf⟩:=I.stack.mem z;rw[e]at e1;cases e1;obtain⟨sl,q⟩:=un.slot d o e (I.stkFree d z) z (by simp);obtain⟨sl2,q2⟩:=U d _ q nf;exact⟨_,q2⟩
  ·subst z;obtain⟨o3,_,q,_⟩:=F'.row;exact⟨o3,q⟩
  ·exact⟨o',F'.keep d o' z⟩
 ·have:=un.tups d xs e;rw[Zj (hne d _ this)];exact this
 ·have:=un.frzs d o u e;rw[Zj (hne d _ this)];exact this
 ·obtain⟨more,this⟩:=un.tbls d ps e;exact⟨more,by rw[Zj (hne d _ this)];exact this⟩
 ·by_cases hd:d=x
  ·subst hd;rw[Ze]at e;cases e;obtain⟨o,vs,q1,q2,q3,q4,_⟩:=F'.row;exact RX.mpr ⟨o,vs,q1,q2,q3,q4⟩
  ·rw[Zj hd]at e;exact(hok' d u e).stay (λ_ _ _ q=>q) (λc q=>by rw[Zj (hne c _ q)];exact q) λc xs q=>by rw[Zj (hne c _ q)];exact q
end
noncomputable abbrev Cx.tryX(X:Cx)(E:Value->Shared->Prop)(pn':List (Addr×Obj)):Cx:={X with xe:=E,pn:=pn'}
section
variable {X:Cx}{pins pins':List (Addr×Obj)}{σ:St}{H:Hp}{s:Shared}{E:Value->Shared->Prop}
theorem Inv.try(I:Inv X pins σ H s)(E:Value->Shared->Prop):Inv (X.tryX E (X.pn++pins)) [] σ H s:=⟨⟨I.ok.mod,I.ok.kind,I.ok.glob,I.ok.blt,I.ok.above,I.ok.inj,I.ok.has,I.ok.cab,I.ok.hd,I.ok.frames,I.ok.stk,I.ok.exf,I.ok.bs,I.ok.bsz,I.ok.noex,I.ok.exfs,I.ok.funs,I.ok.frf⟩,I.os,I.bare,I.base,I.loc,I.cell,I.free,I.freeC,λp hp=>I.pin p (by simpa using hp),I.hok,I.len⟩
theorem Inv.untry(ok:X.Ok)(I:Inv (X.tryX E (X.pn++pins)) pins' σ H s):Inv X pins σ H s:=⟨ok,I.os,I.bare,I.base,I.loc,I.cell,I.free,I.freeC,λp hp=>I.pin p (List.mem_append_left _ hp),I.hok,I.len⟩
end
def JK(CX:CXT)(X:Cx)(E:XK)(p:St->Prop):Prop:=∀(pins:List (Addr×Obj))(σ:St)(H:Hp)(s:Shared)(e:Value)(s':Shared),p σ->Inv X pins σ H s->CX X.stack H s E e s'->X.xe e s'
def Hd(X:Cx)(hs:List ExceptHandler)(th:Addr->Addr->Option Addr->TS):Prop:=∀(pins:List (Addr×Obj))(s:Shared)(σ:St)(H:Hp)(D:Ends)(x C:Addr)(dd:Option Addr)(B:Heap),Inv X pins σ H s->H x=some (ErrC x C dd)->RecX B x (.ref C) dd .none s.heap->th x C dd D σ H ->wpAny (model X.prog X.w) X.A (handleBy (.ref x) X.env hs) (SP X pins D) X.xe s
noncomputable def hNil:Addr->Addr->Option Addr->TS:=λ_ _ _ _ _ _=>False
noncomputable def hAs(K:PySem.W.Frag)(Dc:Addr)(i:Nat)(ts:Addr->TS)(r:Addr->Addr->Option Addr->TS):Addr->Addr->Option Addr->TS:=λx C dd D σ H=>∃fI Qa,XC K C fI Qa /\(((Value.ref C::.ref Qa::bmV).contains (.ref Dc)=true/\ts x (lose i D) (σ.set i (some (.ref x))) H)\/((Value.ref C::.ref Qa::bmV).contains (.ref Dc)=false/\r x C dd D σ H))
def sTry(tb:(St->Prop)->XK->TS)(th:Addr->Addr->Option Addr->TS):TS:=λD σ H=>∃E:XK,tb (λσ'=>σ'=σ) E D σ H/\∀c dd H',E c dd H'->∃C,c=.ref C/\∀x,H' x=none->th x C dd D σ (upd H' x (ErrC x C dd))
section
variable {X:Cx}{Dc:Addr}{cn n:Str}{i:Nat}{p pos:Pos}{b₀:Stmt}{suite:List Stmt}{rest:List ExceptHandler}{ts:Addr->TS}{r th:Addr->Addr->Option Addr->TS}
theorem D5:Hd X [] hNil:=λ_ _ _ _ _ _ _ _ _ _ _ _ h=>False.elim h
theorem ES(b:XB X.K Dc)(hg:Gl X cn)(hm:X.mg cn=some (.ref Dc))(hN:X.N.Nodup)(hi:X.N[i]?=some n)(hk:X.env.scope.names.lookup n=some .local)(hs:∀x,PSs (X.hot (.ref x)) (b₀::suite) (ts x))(hr:Hd X rest r)(hd:(cn==("__debug__":Str))=false:=by decide):Hd X (.ExceptHandler (some (.Name cn p)) (some n) (b₀::suite) pos::rest) (hAs X.K Dc i ts r):=by
 rintro pins s σ H D x C dd B I hH R ⟨fI,Qa,c,⟨yes,h⟩|⟨no,h⟩⟩
 ·exact Tj I hH R c b hg hm yes hN hi hk (hs x) h hd
 ·exact QS I R c b hg hm no (hr pins s σ H D x C dd B I hH R h) hd
theorem Dq{body:List Stmt}{h₀:ExceptHandler}{hs:List ExceptHandler}{tb:(St->Prop)->XK->TS}(hst:X.stack=X.env::X.outer/\X.env.frame=some X.env.locals)(hb:∀(E':Value->Shared->Prop)(pn':List (Addr×Obj))(p:St->Prop)(E:XK),JK (CX1 X.prog X.w) (X.tryX E' pn') E p->PSs (X.tryX E' pn') body (tb p E))(hh:Hd X (h₀::hs) th):PS X (.Try body (h₀::hs) [] [] pos) (sTry tb th):=by
 rintro pins s σ H D I ⟨E,hbody,hE⟩;refine wpAny_Try_except ?_;generalize hXE:(λ(e:Value)(s₁:Shared)=>wpAny (model X.prog X.w) X.A (noteFrame e X.env) (λ_ s₂=>wpAny (model X.prog X.w) X.A (setFlight e none) (λ_ s₃=>wpAny (model X.prog X.w) X.A (handleBy e X.env (h₀::hs)) (SP X pins D) X.xe s₃) X.xe s₂) X.xe s₁)=E';have hp:JK (CX1 X.prog X.w) (X.tryX E' (X.pn++pins)) E (λσ'=>σ'=σ):=by
  rintro pins' σ' H1 s1 e s2 eσ J ⟨x,c,dd,B,H2,rfl,os,bare,un,hok,F,b,hc⟩;subst eσ;obtain⟨C,rfl,hth⟩:=hE c dd H2 hc;show E' (.ref x) s2;rw[<-hXE];have J':Inv X pins σ' H1 s1:=J.untry I.ok;have fr:X.A.frames=some (X.env::X.outer):=by rw[J'.ok.frames,hst.1]
  have FF:Fly B (X.env::X.outer) x (.ref C) dd .none s2.heap:=by rw[<-hst.1];exact F
  refine PM fr hst.2 FF λh1 F1 U1=>?_;refine PN (s:={s2 with heap:=h1}) F1 λh2 F2 U2=>?_;have F2':Fly B X.stack x (.ref C) dd .none h2:=by rw[hst.1];exact F2
  have I2:Inv X pins σ' (upd H2 x (ErrC x C dd)) {s2 with heap:=h2}:=Ld J' os bare un hok F b F2' (U1.trans U2);exact hh pins _ σ' _ D x C dd B I2 (Ze ..) F2.row (hth x b.xn)
 refine wpAny_mono (hb E' (X.pn++pins) _ E hp [] s σ H D (I.try E') hbody) (λf s1 q=>?_) λe s1 q=>?_
 ·cases f with
 |next=>obtain⟨σ',H',J,q⟩:=q;exact wpAny_execs_nil ⟨σ',H',J.untry I.ok,q⟩
 |brk=>obtain⟨σ',H',J,q⟩:=q;exact⟨σ',H',J.untry I.ok,q⟩
 |cont=>obtain⟨σ',H',J,q⟩:=q;exact⟨σ',H',J.untry I.ok,q⟩
 |ret u=>obtain⟨v,σ',H',J,r,q⟩:=q;exact⟨v,σ',H',J.untry I.ok,r,q⟩
 ·exact q
end
def tAt(p:St->Prop)(t:TE):TE:=λσ H Q=>p σ/\t σ H Q
section
variable {X:Cx}{CX:CXT}{k:Nat}{f C Qa:Addr}{fd:FuncData}{ps:List Str}{sp:Sp}{dvs:List V}{ds:List Value}{E:XK}{x m:Str}{pp pos apos:Pos}{e o:Expr}{es:List Expr}{ta:TE}{t:TA}{p:St->Prop}
def Qe(CX:CXT)(X:Cx)(E:XK)(σ:St):Prop:=∀(pins:List (Addr×Obj))(H:Hp)(s:Shared)(e:Value)(s':Shared),Inv X pins σ H s->CX X.stack H s E e s'->X.xe e s'
theorem JK.at{σ:St}(h:JK CX X E p)(hp:p σ):Qe CX X E σ:=λpins H s e s' I c=>h pins σ H s e s' hp I c
theorem EV{pins:List (Addr×Obj)}{σ:St}{H:Hp}{s:Shared}{Q:VK}{us:List Value}{vs:List V}(F:FnOk X.prog X.w X.K X.mg X.base CX k f fd ps sp)(hr:Room k X.A)(hb:Binds X.K fd ps ds)(hd:Vals dvs ds)(hx:Qe CX X E σ)(I:Inv X pins σ H s)(r:Vals vs us)(h:sp (vs++dvs) H Q E):wpAny (model X.prog X.w) X.A (call (.ref f) us) (EP X pins σ Q) X.xe s:=by
 have r2:Vals (vs++dvs) (us++ds):=r.append hd;have hl:(us++ds).length=ps.length:=(r2.length).symm.trans (F.len _ _ _ _ h);refine wpAny_call (codeAny_mono (F.run X.A X.stack s H ⟨us,[]⟩ (us++ds) (vs++dvs) Q E hr I.env0 (hb s us I.kIn hl) r2 h) λres s' hq=>?_);match res,hq with
|.error e,hq=>exact hx pins H s e s' I hq
|.ok (.ret u),hq=>exact I.after hq
|.ok .next,hq=>exact hq.elim
|.ok .brk,hq=>exact hq.elim
|.ok .cont,hq=>exact hq.elim
theorem QD(F:FnOk X.prog X.w X.K X.mg X.base CX k f fd ps sp)(hr:Room k X.A)(hg:Gl X x)(hm:X.mg x=some (.ref f))(hk:PySem.W.keepIn X.K (.ref f)=true)(hb:Binds X.K fd ps ds)(hd:Vals dvs ds)(hx:JK CX X E p)(ha:PA X (e::es) t)(hdb:(x==("__debug__":Str))=false:=by decide)(he:starEach (e::es) X.env=(false,eval e X.env)::starEach es X.env:=by rfl)(hpl:(backTo pos (starEach es X.env)).any (·.1)=false:=by rfl):PE X (.Call (.Name x pp) (e::es) [] pos) (tAt p (MN sp dvs E t)):=by rintro pins s σ H Q I ⟨hp,h⟩;refine wpAny_Call_Name_kw (Jm I hg hm ?_ hdb);refine PySem.W.callWith_K (h₀:=X.base) I.ok.mod.kin hk (thn (ha pos pins s σ H _ I h) λus s1⟨vs,H1,I1,r,q⟩=>⟨I1.kIn,?_⟩) he hpl;exact EV F hr hb hd (hx.at hp) I1 r q
end
structure XR(K:PySem.W.Frag)(C:Addr):Prop where
 ga:PySem.W.findIn K (.ref C) "__getattribute__"=some (some (.builtin "BaseException.__getattribute__"))
 gg:PySem.W.findIn K (.ref C) "__getattr__"=some none
 hd:PySem.W.hasDictIn K C=true
 be:PySem.W.mroIn K C (.type "BaseException")=some true
section
variable {prog:Program}{w:World}{A:Around}{E:Value->Shared->Prop}{K:PySem.W.Frag}{s:Shared}{x C d:Addr}{o:Obj}{mA:Str->Option Value}{f:Str}{v:Value}{expr:Bool}{Q:Value->Shared->Prop}
theorem xget(X:K.In s.heap)(r:XR K C)(hx:s.heap.get? x=some o)(hc:o.cls=.ref C)(hdt:∃vs,o.data=.fields vs)(hdd:o.dict=some d)(hn:s.heap.Ns1 d mA)(ha:PySem.W.findIn K (.ref C) f=some none)(hv:mA f=some v)(hh:PySem.W.handedIn v=true)(h:Q v {s with toks:=s.toks+1}):wpAny (model prog w) A (getAttr (.ref x) f expr) Q E s:=by
 obtain⟨od,ho,hl⟩:=MS hn;have no:PySem.W.notCls o=true:=by obtain⟨vs,e⟩:=hdt;unfold PySem.W.notCls;rw[e]
 have I:PySem.W.InstAt s.heap x o C (some od):=⟨hx,hc,no,by rw[hdd];exact ho⟩;have FB:=PySem.F.attrBase_ValueError;obtain⟨hp,g,dr,t,os⟩:=s;have L0:=I.type (M:=model prog w);have L1:=PySem.W.looks_findIn (M:=model prog w) X r.ga;have L2:=PySem.W.looks_findIn (M:=model prog w) X r.gg;have L3:=PySem.W.looks_find (M:=model prog w) X I (PySem.W.findObj_own r.hd ha rfl (by rw[hl,hv]));have sub:PySem.W.Looks (model prog w) hp (isInstance (.ref x) (.type "BaseException")) true:=L0.andThen (PySem.W.looks_mroIn X r.be);unfold getAttr getAttrBy;refine wpAny_bind (wpAny_mkText (wpAny_holding (wpAny_bind (L0.at (wpAny_bind (L1.at ?_))))));show wpAny _ _ (if(onTheHeap (Value.ref C)&&Value.builtin "BaseException.__getattribute__"==Value.builtin "object.__getattribute__")=true then _ else _) _ _ _;rw[if_neg (by simp)];unfold getAttrByItsOwn hookBefore;rw[if_pos (show onTheHeap (Value.ref C)=true from rfl)];refine wpAny_bind (L2.at ?_);refine wpAny_bind (wpAny_attempt (wpAny_holding ?_));unfold callGetattribute;rw[if_neg (show ¬((expr&&onTheHeap (Value.builtin "BaseException.__getattribute__"))=true)from by cases expr<;>simp[onTheHeap])];unfold boundAndCalled;rw[FB.ga.bind];refine wpAny_bind (wpAny_pure ?_);refine wpAny_call (codeAny_call_builtin FB.ga.plain PySem.F.entry_bexc_ga (@PySem.W.check_slot (model prog w) _ _ _ "BaseException.__getattribute__" "BaseException" "__getattribute__" (.ref x) [.str f t] [] _ (by decide +kernel) (by decide +kernel) sub (PySem.F.args_bexc_ga (.ref x) (.str f t)) ?_));unfold Builtin.«object.__getattribute__»;refine wpAny_bind (wpAny_pure (wpAny_bind (wpAny_pure (wpAny_bind (L0.at (wpAny_bind (L3.at (wpAny_pure ?_))))))));show wpAny _ _ (handedOut v) _ _ _;rw[PySem.W.handedOut_of hh];exact wpAny_pure h
end
def Sn(H:Hp)(a C d:Addr):Prop:=H a=some (ErrC a C (some d))\/H a=some (ErrN a C (some d))
theorem Sn.obj{P:Program}{w:World}{H:Hp}{h:Heap}{a C d:Addr}(e:Sn H a C d)(ok:HOk P w H h):∃o vs,h.get? a=some o/\o.cls=.ref C/\o.dict=some d/\o.data=.fields vs:=by
 rcases e with e|e
 ·exact RX.mp (ok a _ e)
 ·obtain⟨o,vs,h1,h2,h3,h4,_⟩:=XH.mp (ok a _ e);exact⟨o,vs,h1,h2,h3,h4⟩
def Eh(K:PySem.W.Frag)(ta:TE)(f:Str):TE:=λσ H Q=>ta σ H λx H1=>∃a C d fs v,x=.ref a/\Sn H1 a C d/\H1 d=some (XD d fs)/\XR K C/\ZZ K C f/\fs.lookup f=some v/\Q v H1
section
variable {X:Cx}{o:Expr}{ta:TE}{f:Str}{pos:Pos}
theorem KW(ha:PE X o ta)(hb:attributeBase o f X.env (eval o X.env)=eval o X.env:=by rfl):PE X (.Attribute o f pos) (Eh X.K ta f):=by intro pins s σ H Q I h;refine Si hb (thn (ha pins s σ H _ I h) λov s1⟨x,H1,I1,rx,a,C,d,fs,v,ex,ea,ed,c,n,l,q⟩=>?_);subst ex;obtain rfl:ov=Value.ref a:=rx;obtain⟨ob,vs,h1,h2,h3,h4⟩:=ea.obj I1.hok;obtain⟨mA,ns,r,_⟩:=Rj.mp (I1.hok d _ ed);obtain⟨u,hu,ru⟩:=RelO.some_of (v:=v) (o:=mA f) (by rw[<-l];exact r f);exact xget I1.kIn c h1 h2 ⟨vs,h4⟩ h3 ns n hu (MW ru) ⟨v,H1,I1.tok _,ru,q⟩
end
section
variable {P:Program}{w:World}{K:PySem.W.Frag}{mg:Str->Option Value}{base:Heap}
theorem Fun.okX{x qual:Str}{st:Stmt}{f:Addr}{fd:FuncData}{N ps:List Str}{k:Nat}{sp:Sp}(F:Fun K x qual st f fd)(S:FnScope N ps (Zf st))(len:∀vs H Q E,sp vs H Q E->vs.length=ps.length)(hbody:∀(cdv:Value)(A:Around)(outer:List Env)(s:Shared)(H:Hp)(vs:List V)(Q:VK)(E:XK),Room k (A.deeper (envOfC qual (Zf st) s.heap.objs.size f cdv))->sp vs H Q E ->∃t,PSs (cxOf (CX1 P w) P w K mg base N qual (Zf st) f cdv A outer s H E) (ZJ st) t/\t {nx:=λ_ H'=>Q .non H',rt:=Q} (start N vs) H):FnOk P w K mg base (CX1 P w) (k+1) f fd ps sp:=by obtain⟨oc,od,kV,doc,pm,an,cdv,ct,osl,rfl,lk,hcd⟩:=F.ex;exact LJ lk hcd S len λA outer s H vs Q E hr hsp=>hbody cdv A outer s H vs Q E hr hsp
def CanX(P:Program)(w:World)(K:PySem.W.Frag)(mg:Str->Option Value)(base:Heap)(k:Nat)(x:Str)(ps:List Str)(sp:Sp):Prop:=∃f fd,FnOk P w K mg base (CX1 P w) k f fd ps sp/\mg x=some (.ref f)/\PySem.W.keepIn K (.ref f)=true/\Binds K fd ps []
theorem CanX.mono{j k:Nat}{x:Str}{ps:List Str}{sp:Sp}(C:CanX P w K mg base j x ps sp)(h:j<=k):CanX P w K mg base k x ps sp:=by obtain⟨f,fd,F,r⟩:=C;exact⟨f,fd,F.mono h,r⟩
theorem Df.canX{x:Str}{st:Stmt}{N ps:List Str}{k:Nat}{sp:Sp}(D:Df K mg x st ps)(S:FnScope N ps (Zf st))(len:∀vs H Q E,sp vs H Q E->vs.length=ps.length)(hbody:∀(f:Addr)(cdv:Value)(A:Around)(outer:List Env)(s:Shared)(H:Hp)(vs:List V)(Q:VK)(E:XK),Room k (A.deeper (envOfC x (Zf st) s.heap.objs.size f cdv))->sp vs H Q E ->∃t,PSs (cxOf (CX1 P w) P w K mg base N x (Zf st) f cdv A outer s H E) (ZJ st) t/\t {nx:=λ_ H'=>Q .non H',rt:=Q} (start N vs) H):CanX P w K mg base (k+1) x ps sp:=by obtain⟨f,fd,F,m,b⟩:=D;exact⟨f,fd,F.okX S len (λcdv A outer s H vs Q E hr h=>hbody f cdv A outer s H vs Q E hr h),m,F.kp,b⟩
end
section
variable {X:Cx}{E:XK}
theorem Xe{k:Nat}{x:Str}{ps:List Str}{sp:Sp}{p pos:Pos}{e:Expr}{es:List Expr}{t:TA}(C:CanX X.prog X.w X.K X.mg X.base k x ps sp)(hx:Passes (CX1 X.prog X.w) X E)(hr:Room k X.A)(hg:Gl X x)(ha:PA X (e::es) t)(hdb:(x==("__debug__":Str))=false:=by decide)(he:starEach (e::es) X.env=(false,eval e X.env)::starEach es X.env:=by rfl)(hpl:(backTo pos (starEach es X.env)).any (·.1)=false:=by rfl):PE X (.Call (.Name x p) (e::es) [] pos) (MN sp [] E t):=by obtain⟨f,fd,F,m,kp,b⟩:=C;exact RL F hr hg m kp b .nil hx ha hdb he hpl
end
def Qr(C:Addr)(names:List Str):Sp:=λvs H Q _=>∃a xs,vs=.ref a::xs/\xs.length=names.length/\H a=some (ErrN a C none) /\∀H' d,d≠a->H d=none->H' a=some (ErrN a C (some d))->H' d=some (XD d (names.zip xs))->(∀b,b≠a->b≠d->H' b=H b)->Q .non H'
structure Err(P:Program)(w:World)(K:PySem.W.Frag)(mg:Str->Option Value)(base:Heap)(x:Str)(names:List Str)(C:Addr):Prop where
 xc:∃fI Qa fd ps,XC K C fI Qa/\FnOk P w K mg base CX0 1 fI fd ps (Qr C names)/\ps.length<=1000/\Binds K fd ps []
 xr:XR K C
 mg:mg x=some (.ref C)
 kp:PySem.W.keepIn K (.ref C)=true
section
variable {X:Cx}{E:XK}{x:Str}{names:List Str}{C:Addr}{p cpos pos:Pos}{e:Expr}{es:List Expr}{t:TA}
def KO(C:Addr)(names:List Str)(t:TA)(E:XK):TS:=λ_ σ H=>t σ H λvs H1=>vs.length=names.length/\∀H' d,H1 d=none->H' d=some (XD d (names.zip vs))->(∀b,b≠d->H' b=H1 b)->E (.ref C) (some d) H'
theorem XY(R:Err X.prog X.w X.K X.mg X.base x names C)(hx:Passes (CX1 X.prog X.w) X E)(hcalm:X.calm=true)(hr:Room 2 X.A)(hg:Gl X x)(ha:PA X (e::es) t)(hdb:(x==("__debug__":Str))=false:=by decide)(he:starEach (e::es) X.env=(false,eval e X.env)::starEach es X.env:=by rfl)(hpl:(backTo cpos (starEach es X.env)).any (·.1)=false:=by rfl):PS X (.Raise (some (.Call (.Name x p) (e::es) [] cpos)) none pos) (KO C names t E):=by
 obtain⟨fI,Qa,fd,ps,xc,F,hn,hb⟩:=R.xc;intro pins s σ H D I h;rw[arm_exec_Raise];refine wpAny_bind (wpAny_standAt ?_);refine SE (K:=X.K) (I.ok.hd hcalm) (wpAny_bind (wpAny_mono (wpAny_Call_Name_kw (Jm I hg R.mg ?_ hdb)) (λu s1 q=>wpAny_bind (wpAny_standAt (wpAny_pure q))) λ_ _ z=>z));refine PySem.W.callWith_K (h₀:=X.base) I.ok.mod.kin R.kp (thn (ha cpos pins s σ H _ I h) λus s1⟨vs,H1,I1,r,hl,q⟩=>⟨I1.kIn,?_⟩) he hpl;refine thn (Sz (k:=1) (E:=E0) (Q:=λv H2=>∃a d H',v=.ref a/\H2 a=some (ErrN a C (some d))/\del H2 a=H'/\E (.ref C) (some d) H') (dvs:=[]) (ds:=[]) xc F hr hb .nil Z1 I1 r ?_ λa ha'=>?_) λu s2 q2=>?_
 ·rw[sizeLine_eq];have e1:=r.length;have e2:=F.len (.ref s1.heap.objs.size::vs) (upd H1 s1.heap.objs.size (ErrN s1.heap.objs.size C none)) (λ_ _=>True) E0 ⟨_,vs,rfl,hl,Ze ..,λ_ _ _ _ _ _ _=>trivial⟩;rw[List.length_cons]at e2;have e3:us.length=vs.length:=e1.symm;show us.length<=_;omega
 ·rw[List.append_nil];refine⟨a,vs,rfl,hl,Ze ..,λH' d hne hd h1 h2 h3=>⟨rfl,a,d,_,rfl,h1,rfl,q (del H' a) d ?_ ?_ ?_⟩⟩
  ·rwa [Zj hne]at hd
  ·rw[XQ hne];exact h2
  ·intro b hb;by_cases hba:b=a
   ·rw[hba,JH,ha']
   ·rw[XQ hba,h3 b hba hb,Zj hba]
 ·obtain⟨v,H2,I2,rv,a,d,H',ev,ea,eH,hE⟩:=q2;subst ev;obtain rfl:u=Value.ref a:=rv;obtain⟨o,vs',hx',hc,hdd,hd,hz,h1⟩:=XH.mp (I2.hok a _ ea);exact⟨a,o,C,fI,Qa,vs',rfl,xc,I2.kIn,hx',hc,hd,h1,hx pins σ H2 s2 _ s2 I2 (raised I2 ea (by rw[eH];exact hE))⟩
end
noncomputable def VC(f v:Str)(p1 p2 p3 p4:Pos):Stmt:=.Assign [.Attribute (.Name "self" p1) f p2] (.Name v p3) p4
theorem Jw{N ps:List Str}{sc:Scope}(S:FnScope N ps sc){x:Str}(h:x∈ps):Vis sc x:=by
 rcases S.par x h with z|z
 ·exact .inl z
 ·exact .inr (.inl z)
section
variable {P:Program}{w:World}{K:PySem.W.Frag}{mg:Str->Option Value}{base:Heap}{fI C Qa:Addr}{fd:FuncData}{qual f1 v1 f2 v2 f3 v3:Str}{st:Stmt}{p1 p2 p3 p4 q1 q2 q3 q4 r1 r2 r3 r4:Pos}
def Plain(x:Str):Prop:=(x==("__debug__":Str))=false/\(x==("__classdict__":Str))=false
theorem EM(F:Fun K "__init__" qual st fI fd)(S:FnScope ["self",v1] ["self",v1] (Zf st))(hb:ZJ st=[VC f1 v1 p1 p2 p3 p4])(pl:Plain v1)(xc:XC K C fI Qa)(n1:ZZ K C f1):FnOk P w K mg base CX0 1 fI fd ["self",v1] (Qr C [f1]):=by
 refine F.ok (k:=0) S (λvs H Q E h=>?_) λcdv A outer s H vs Q E hr h=>?_
 ·obtain⟨a,xs,rfl,hl,_⟩:=h;rw[List.length_cons,hl];rfl
 ·obtain⟨a,xs,rfl,hl,hH,k⟩:=h;obtain⟨y,rfl⟩:=len1 hl;rw[hb];refine⟨_,Zi (RH (Ji (i:=0) rfl (Jw S (by simp)) (by decide) (by decide)) (Ji (i:=1) rfl (Jw S (by simp)) pl.1 pl.2) rfl),?_⟩;refine⟨y,rfl,.ref a,rfl,a,C,fI,Qa,rfl,hH,xc,n1,λd hne hd=>?_⟩;exact k _ d hne hd (Ze ..) (by rw[Zj hne,Ze];rfl) λb hb1 hb2=>by rw[Zj hb1,Zj hb2]
theorem EL(F:Fun K "__init__" qual st fI fd)(S:FnScope ["self",v1,v2,v3] ["self",v1,v2,v3] (Zf st))(hb:ZJ st=[VC f1 v1 p1 p2 p3 p4,VC f2 v2 q1 q2 q3 q4,VC f3 v3 r1 r2 r3 r4])(pl1:Plain v1)(pl2:Plain v2)(pl3:Plain v3)(xc:XC K C fI Qa)(n1:ZZ K C f1)(n2:ZZ K C f2)(n3:ZZ K C f3)(h12:f1≠f2)(h13:f1≠f3)(h23:f2≠f3):FnOk P w K mg base CX0 1 fI fd ["self",v1,v2,v3] (Qr C [f1,f2,f3]):=by
 refine F.ok (k:=0) S (λvs H Q E h=>?_) λcdv A outer s H vs Q E hr h=>?_
 ·obtain⟨a,xs,rfl,hl,_⟩:=h;rw[List.length_cons,hl];rfl
 ·obtain⟨a,xs,rfl,hl,hH,k⟩:=h;obtain⟨y,z,u,rfl⟩:=len3 hl;rw[hb];refine⟨_,Zd (RH (Ji (i:=0) rfl (Jw S (by simp)) (by decide) (by decide)) (Ji (i:=1) rfl (Jw S (by simp)) pl1.1 pl1.2) rfl) (Zd (RI (Ji (i:=0) rfl (Jw S (by simp)) (by decide) (by decide)) (Ji (i:=2) rfl (Jw S (by simp)) pl2.1 pl2.2) rfl) (Zi (RI (Ji (i:=0) rfl (Jw S (by simp)) (by decide) (by decide)) (Ji (i:=3) rfl (Jw S (by simp)) pl3.1 pl3.2) rfl))),?_⟩;refine⟨y,rfl,.ref a,rfl,a,C,fI,Qa,rfl,hH,xc,n1,λd hne hd=>?_⟩;refine⟨z,rfl,.ref a,rfl,a,C,fI,Qa,d,[(f1,y)],rfl,Ze ..,by rw[Zj hne,Ze],hne,by simp,xc,n2,?_⟩;refine⟨u,rfl,.ref a,rfl,a,C,fI,Qa,d,putF f2 z [(f1,y)],rfl,Ze ..,by rw[Zj hne,Ze],hne,by simp[putF,h12],xc,n3,?_⟩;refine k _ d hne hd (Ze ..) ?_ λb hb1 hb2=>by rw[Zj hb1,Zj hb2,Zj hb1,Zj hb2,Zj hb1,Zj hb2]
  rw[Zj hne,Ze];show some (XD d (putF f3 u (putF f2 z [(f1,y)])))=_;simp[putF,h12,h13,h23]
end
structure XK1(K:PySem.W.Frag)(mg:Str->Option Value)(x:Str)(C fI Qa:Addr):Prop where
 xc:XC K C fI Qa
 xr:XR K C
 xb:XB K C
 mg:mg x=some (.ref C)
 kp:PySem.W.keepIn K (.ref C)=true
section
variable {X:Cx}{a b e:Expr}{es:List Expr}{ta tb te:TE}{t:TA}{pos:Pos}
noncomputable def notStar:Expr->Bool
|.Starred ..=>false
|_=>true
theorem Qp{env:Env}(h:notStar e=true):starEach (e::es) env=(false,eval e env)::starEach es env:=by cases e<;>first|rfl|cases h
theorem Za(ha:PE X e te)(hr:PA X es t)(hn:notStar e=true:=by rfl):PA X (e::es) (Rq te t):=Zg ha hr (Qp hn)
theorem il(K:PySem.W.Frag)(ha:PE X a ta)(hb:PE X b tb)(hK:X.K=K:=by rfl)(hs:N5 b:=by exact λ_ _=>rfl):PE X (.Subscript a b pos) (tOp (rIxL K) ta tb):=by subst hK;exact Yb Lg ha hb hs
theorem it(K:PySem.W.Frag)(ha:PE X a ta)(hb:PE X b tb)(hK:X.K=K:=by rfl)(hs:N5 b:=by exact λ_ _=>rfl):PE X (.Subscript a b pos) (tOp (rIxT K) ta tb):=by subst hK;exact Yb Z4 ha hb hs
theorem cn{k j:Nat}{x:Str}{ps:List Str}{sp:Sp}{p:Pos}(C:Can X.prog X.w X.K X.mg X.base k x ps sp)(hr:Room j X.A)(ha:PA X (e::es) t)(hk:k<=j:=by decide)(hg:Gl X x:=by rfl)(hdb:(x==("__debug__":Str))=false:=by decide)(he:starEach (e::es) X.env=(false,eval e X.env)::starEach es X.env:=by rfl)(hpl:(backTo pos (starEach es X.env)).any (·.1)=false:=by rfl):PE X (.Call (.Name x p) (e::es) [] pos) (MN sp [] E0 t):=ZT C (hr.mono hk) hg ha hdb he hpl
theorem st(i:Nat){x:Str}{p:Pos}(hN:X.N.Nodup)(he:PE X e te)(hi:X.N[i]?=some x:=by rfl)(hx:Loc X.env.scope x:=by exact Or.inl rfl)(hs:swapsWith e (some (.Name x p)) pos.line X.env=pure false:=by rfl)(hf:X.fn x=true\/X.env.scope.names.lookup x=some .local:=by first|exact .inl rfl|exact .inr rfl):PS X (.Assign [.Name x p] e pos) (tAsg te (RV i)):=Yl hN hi hx he hs hf
end
theorem zl{n:Nat}(h:Nat.ble n 1000=true:=by rfl):n<=sizeLine:=Nat.le_trans (Nat.le_of_ble_eq_true h) (by decide)
theorem gE{α:Type}{l:List α}{i:Nat}(h:i<l.length):l[i]?=some l[i]:=List.getElem?_eq_getElem h
theorem scO{N P:List Str}{sc:Scope}(h:sc.kind=.function/\sc.isCoroutine=false/\sc.isGenerator=false/\N.Nodup/\N.take P.length=P/\(∀x∈P,sc.names.lookup x=some .local\/sc.names.lookup x=some .cell)/\∀y∈sc.names,y.2≠.free):FnScope N P sc:=⟨h.1,h.2.1,h.2.2.1,h.2.2.2.1,h.2.2.2.2.1,h.2.2.2.2.2.1,h.2.2.2.2.2.2⟩
def Xw(K:PySem.W.Frag)(w:World)(a:Addr)(z:Str)(v:V):Prop:=∃es n u,K.lookup a=some ⟨.type "dict",none,.dict es n,#[]⟩/\PySem.W.KeysLit w.params es.toList/\PySem.W.nsIn K a z=some (some u)/\RelV v u
def Eo(K:PySem.W.Frag)(w:World)(td ty:TE):TE:=λσ H Q=>td σ H λx H1=>ty σ H1 λy H2=>∃a z v,x=.ref a/\y=.str z/\Xw K w a z v/\Q v H2
section
variable {X:Cx}{o i:Expr}{td ty:TE}{pos:Pos}
theorem NI(ho:PE X o td)(hi:PE X i ty)(hs:NoSl i):PE X (.Subscript o i pos) (Eo X.K X.w td ty):=by intro pins s σ H Q I h;refine Rr PySem.F.slot_dict_getitem.lookup hs (thn (ho pins s σ H _ I h) λu s1⟨x,H1,I1,rx,q1⟩=>thn (hi pins s1 σ H1 _ I1 q1) λiv s2⟨y,H2,I2,ry,a,z,v,ex,ey,⟨es,n,u',hl,hk,hn,rv⟩,q2⟩=>?_);subst ex ey;obtain rfl:u=Value.ref a:=rx;obtain⟨t,rfl⟩:=(show ∃t,iv=Value.str z t from ry);have hm:=PySem.W.mapOf_K (prog:=X.prog) I2.kIn hl hk;exact⟨hm.typeIs,wpAny_getItem_of (strKind_is X.prog X.w z t) hm (PySem.W.find_K hl hn) ⟨v,H2,I2.tok _,rv,q2⟩⟩
end
end L2
namespace T
open PySem L2
noncomputable def top(i:Nat):Stmt:=PySem.Challenge.pw_homequay_k11_each_step.main.body.getD i (.Pass ⟨0,0,0,0⟩)
noncomputable abbrev m_BadTable___init__:Stmt:=inClass (top 3) 0
noncomputable abbrev m_NoStep___init__:Stmt:=inClass (top 8) 0
noncomputable abbrev f_is_whole:Stmt:=top 15
noncomputable abbrev f_is_within:Stmt:=top 16
noncomputable abbrev f_is_text_of:Stmt:=top 17
noncomputable abbrev f_is_name:Stmt:=top 18
noncomputable abbrev f_is_group_name:Stmt:=top 19
noncomputable abbrev m_Step___init__:Stmt:=inClass (top 21) 0
noncomputable abbrev m_Step_key:Stmt:=inClass (top 21) 1
noncomputable abbrev m_Step_tail:Stmt:=inClass (top 21) 2
noncomputable abbrev m_Step_head:Stmt:=inClass (top 21) 3
noncomputable abbrev m_Step_room:Stmt:=inClass (top 21) 4
noncomputable abbrev m_Step_price:Stmt:=inClass (top 21) 5
noncomputable abbrev m_SetOut___init__:Stmt:=inClass (top 22) 0
noncomputable abbrev m_Ride___init__:Stmt:=inClass (top 23) 0
noncomputable abbrev m_Walk___init__:Stmt:=inClass (top 24) 0
noncomputable abbrev m_Wait___init__:Stmt:=inClass (top 25) 0
noncomputable abbrev f_set_out_of:Stmt:=top 26
noncomputable abbrev f_walk_of:Stmt:=top 27
noncomputable abbrev f_wait_of:Stmt:=top 28
noncomputable abbrev f_step_or_none:Stmt:=top 29
noncomputable abbrev f_step_of:Stmt:=top 30
noncomputable abbrev f_is_known:Stmt:=top 38
noncomputable abbrev f_rows_of:Stmt:=top 39
noncomputable abbrev f_wrong_beginning:Stmt:=top 40
noncomputable abbrev f_wrong_ends:Stmt:=top 41
noncomputable abbrev f_wrong_place:Stmt:=top 42
noncomputable abbrev f_wrong_ride:Stmt:=top 43
noncomputable abbrev f_wrong_way:Stmt:=top 44
noncomputable abbrev f_wrong_group:Stmt:=top 45
noncomputable abbrev f_refuse_row:Stmt:=top 46
noncomputable abbrev m_Table___init__:Stmt:=inClass (top 47) 0
noncomputable abbrev m_Table_take_places:Stmt:=inClass (top 47) 1
noncomputable abbrev m_Table_take_rides:Stmt:=inClass (top 47) 2
noncomputable abbrev m_Table_take_ways:Stmt:=inClass (top 47) 3
noncomputable abbrev m_Table_take_groups:Stmt:=inClass (top 47) 4
noncomputable abbrev m_Table_told:Stmt:=inClass (top 47) 5
noncomputable abbrev m_Table_is_place:Stmt:=inClass (top 47) 6
noncomputable abbrev m_Table_is_home:Stmt:=inClass (top 47) 7
noncomputable abbrev m_Table_is_ride:Stmt:=inClass (top 47) 8
noncomputable abbrev m_Table_is_way:Stmt:=inClass (top 47) 9
noncomputable abbrev m_Table_is_group:Stmt:=inClass (top 47) 10
noncomputable abbrev m_Table_room_of:Stmt:=inClass (top 47) 11
noncomputable abbrev m_Table_ride_row:Stmt:=inClass (top 47) 13
noncomputable abbrev m_Table_way_row:Stmt:=inClass (top 47) 14
noncomputable abbrev m_Table_group_row:Stmt:=inClass (top 47) 15
noncomputable abbrev f__law_box:Stmt:=top 50
noncomputable abbrev f__law_take:Stmt:=top 51
noncomputable abbrev f__law_names:Stmt:=top 52
noncomputable abbrev f__law_places:Stmt:=top 53
noncomputable abbrev f__law_size:Stmt:=top 54
noncomputable abbrev f__law_ends:Stmt:=top 55
noncomputable abbrev f__law_ride:Stmt:=top 56
noncomputable abbrev f__law_way:Stmt:=top 57
noncomputable abbrev f__law_group:Stmt:=top 58
noncomputable abbrev f__law_world:Stmt:=top 59
noncomputable abbrev f__law_steps:Stmt:=top 60
noncomputable abbrev f__law_table:Stmt:=top 61
noncomputable abbrev f__law_bad_key:Stmt:=top 62
noncomputable abbrev f__law_is_key:Stmt:=top 63
noncomputable abbrev f__law_refused:Stmt:=top 64
noncomputable abbrev f__law_right:Stmt:=top 65
noncomputable abbrev f_law:Stmt:=top 66
end T
namespace K1
noncomputable def LET:List Nat:=[97,98,99,100,101,102,103,104,105,106,107,108,109,110,111,112,113,114,115,116,117,118,119,120,121,122]
noncomputable def FIG:List Nat:=[48,49,50,51,52,53,54,55,56,57]
noncomputable def lenB(n:Int)(y:List Nat):Bool:=decide ((1:Int)<=y.length)&&decide ((y.length:Int)<=n)
noncomputable def YC(n:Int)(zs y:List Nat):Bool:=lenB n y&&y.all λc=>decide (c∈zs)
noncomputable def X6(n:Int)(zs y:List Nat):Bool:=YC n zs y&&decide (y.getD 0 0∈LET)
open PySem L2
noncomputable abbrev Wk:Stmt:=T.f_is_whole
noncomputable abbrev RE:Stmt:=T.f_is_within
noncomputable abbrev NC:Stmt:=T.f_is_text_of
noncomputable abbrev LB:Stmt:=T.f_is_name
noncomputable abbrev Wl:Stmt:=T.f_is_group_name
noncomputable def tLET:Str:="abcdefghijklmnopqrstuvwxyz"
noncomputable def tNAME:Str:="abcdefghijklmnopqrstuvwxyz0123456789"
noncomputable def tGROUP:Str:="abcdefghijklmnopqrstuvwxyz0123456789."
structure Txt(K:PySem.W.Frag)(mg:Str->Option Value):Prop where
 lets:∃t,mg "LETTERS"=some (.str tLET t)
 names:∃t,mg "NAME_SIGNS"=some (.str tNAME t)
 groups:∃t,mg "GROUP_SIGNS"=some (.str tGROUP t)
 ln:∃t,mg "LONGEST_NAME"=some (.int 8 t)
 lg:∃t,mg "LONGEST_GROUP_NAME"=some (.int 12 t)
 isi:mg "isinstance"=none
 int:mg "int"=none
 bool:mg "bool"=none
 str:mg "str"=none
 len:mg "len"=none
 all:mg "all"=none
noncomputable def TQ(x:V):Bool:=WZ x
noncomputable def Zu(x:V)(lo hi:Int):Bool:=match x with
|.int i=>decide (lo<=i)&&decide (i<=hi)
|_=>false
noncomputable def codes(z:Str):List Nat:=z.cps.toList
noncomputable def Ro(x:V)(n:Int)(z:Str):Bool:=match x with
|.str y=>YC n (codes z) (codes y)
|_=>false
noncomputable def VM(x:V)(n:Int)(z:Str):Bool:=match x with
|.str y=>X6 n (codes z) (codes y)
|_=>false
def Ru:Sp:=λvs H Q _=>∃x T,vs=[x]/\Th H x T/\Q (.bl (TQ x)) H
def YM:Sp:=λvs H Q _=>∃x T lo hi,vs=[x,.int lo,.int hi]/\Th H x T/\Q (.bl (Zu x lo hi)) H
def GN:Sp:=λvs H Q _=>∃x T n z,vs=[x,.int n,.str z]/\Th H x T/\∀H',Same H H'->Q (.bl (Ro x n z)) H'
def Np(n:Int)(z:Str):Sp:=λvs H Q _=>∃x T,vs=[x]/\Th H x T/\∀H',Same H H'->Q (.bl (VM x n z)) H'
theorem slen{z:Str}(h:z.length<=1000):z.length<=sizeLine:=Nat.le_of_lt (Xf h)
theorem clen(z:Str):(codes z).length=z.length:=by simp[codes,Str.length]
section
variable {P:Program}{w:World}{K:PySem.W.Frag}{mg:Str->Option Value}{base:Heap}
theorem KH:FnScope ["thing"] ["thing"] (Zf Wk):=⟨rfl,rfl,rfl,by decide +kernel,rfl,by decide +kernel,by decide +kernel⟩
theorem Na(T:Txt K mg)(D:Df K mg "is_whole" Wk ["thing"]):Can P w K mg base 1 "is_whole" ["thing"] Ru:=by
 refine D.can KH (λvs H Q E h=>?_) (λf cdv A outer s H vs Q E hr h=>?_)
 ·obtain⟨x,T',rfl,_⟩:=h;rfl
 ·obtain⟨x,T',rfl,th,k⟩:=h;refine⟨_,Zi (Zo (JD (UM (c:="int") (pv 0) rfl T.isi rfl T.int NX) (Y9 (Dt (UM (c:="bool") (pv 0) rfl T.isi rfl T.bool Sh))))),?_⟩;refine⟨_,rfl,_,_,_,_,rfl,th.ty,th.kitI,_,rfl,?_⟩;have fin:∀b,b=TQ x->Q (.bl b) H:=λb e=>e▸k;refine ite2 (λe=>?_) (λe=>fin _ ?_)
  ·refine⟨_,rfl,_,_,_,_,rfl,th.ty,th.kitB,_,rfl,fin _ ?_⟩;cases th<;>first|rfl|(exact absurd (show false=true from e) Bool.false_ne_true)
  ·cases th<;>first|rfl|(exact absurd rfl e)
theorem Wc:FnScope ["thing","low","high"] ["thing","low","high"] (Zf RE):=⟨rfl,rfl,rfl,by decide +kernel,rfl,by decide +kernel,by decide +kernel⟩
theorem Mp(D:Df K mg "is_within" RE ["thing","low","high"])(CW:Can P w K mg base 1 "is_whole" ["thing"] Ru):Can P w K mg base 2 "is_within" ["thing","low","high"] YM:=by
 refine D.can Wc (λvs H Q E h=>?_) (λf cdv A outer s H vs Q E hr h=>?_)
 ·obtain⟨x,T',lo,hi,rfl,_⟩:=h;rfl
 ·obtain⟨x,T',lo,hi,rfl,th,k⟩:=h;refine⟨_,Zi (Zo (JD (ZT CW hr rfl (Zg (pv 0) Zb)) (Y9 (WB RN RN (pv 1) (pv 0) (pv 2))))),?_⟩;refine⟨_,rfl,x,T',rfl,th,_,rfl,?_⟩;have fin:∀b,b=Zu x lo hi->Q (.bl b) H:=λb e=>e▸k;refine ite2 (λe=>?_) (λe=>fin _ ?_)
  ·cases th with
  |int i=>
    refine⟨_,rfl,_,rfl,_,_,rfl,rfl,_,rfl,?_⟩;refine ite2 (λe2=>?_) (λe2=>fin _ ?_)
    ·refine⟨_,rfl,_,_,rfl,rfl,fin _ ?_⟩;show _=(decide (lo<=i)&&decide (i<=hi));rw[e2,Bool.true_and]
    ·show false=(decide (lo<=i)&&decide (i<=hi));have e3:decide (lo<=i)=false:=by simpa using e2
     rw[e3,Bool.false_and]
  |_=>exact absurd (show false=true from e) Bool.false_ne_true
  ·cases th<;>first|rfl|(exact absurd rfl e)
theorem Wg:FnScope ["thing","longest","signs"] ["thing","longest","signs"] (Zf NC):=⟨rfl,rfl,rfl,by decide +kernel,rfl,by decide +kernel,by decide +kernel⟩
noncomputable def cs1:Scope:={kind:=.function,names:=[(Str.ofString ".0",.local),(Str.ofString "sign",.local),(Str.ofString "signs",.free)],isGenerator:=false,isCoroutine:=false,more:=[]}
theorem Ea:CompScope cs1 (Zf NC):=⟨rfl,by decide +kernel,by decide +kernel,by decide +kernel⟩
theorem Ec:(["sign","signs"]:List Str).Nodup:=by decide +kernel
theorem Eb:CompNames ["thing","longest","signs"] cs1 ["sign","signs"] [none,some 2]:=.mk' (by decide +kernel)
theorem QM(z:Str)(c:Nat):(!(Builtin.Str.occurrences z ⟨#[c]⟩ 0 z.length 1).isEmpty)=decide (c∈codes z):=PySem.StrLaws.found_one z c
theorem take_all{α β:Type}(l:List α)(p:α->β)(i:Nat)(c:α)(h:l[i]?=some c):(l.take (i+1)).map p=(l.take i).map p++[p c]:=by rw[List.take_add_one,h,List.map_append];rfl
theorem QX(T:Txt K mg)(D:Df K mg "is_text_of" NC ["thing","longest","signs"]):Can P w K mg base 1 "is_text_of" ["thing","longest","signs"] GN:=by
 refine D.can Wg (λvs H Q E h=>?_) (λf cdv A outer s H vs Q E hr h=>?_)
 ·obtain⟨x,T',n,z,rfl,_⟩:=h;rfl
 ·obtain⟨x,T',n,z,rfl,th,k⟩:=h;refine⟨_,Zd (ZH (PW.pt (VA (ZQ (ZD (UM (c:="str") (pv 0) rfl T.isi rfl T.str Ko))) (Jf (ZQ (Wr RN RN Zc (ZC Kl rfl T.len PySem.boot_len (Zg (pv 0) Zb)) (pv 1)))))) (Zi (Zo J5)) Zv) (Zi (Zo (ZC (Km rfl) rfl T.all PyProof.Rows.boot_all (Zg (YG (scope:=cs1) (N:=["sign","signs"]) (cp:=[none,some 2]) rfl Ea Eb (Ds (pv 0)) (λC s H ex pn=>Zp (i:=0) Ec rfl (Or.inl rfl)) (λC s H ex pn=>Ys) (λC s H ex pn=>YB UO (pv 0) (pv 1) (by with_unfolding_all rfl))) Zb)))),?_⟩;have fin:∀b H',Same H H'->b=Ro x n z->Q (.bl b) H':=λb H' sm e=>e▸k H' sm;refine⟨_,rfl,_,_,_,_,rfl,th.ty,th.kitS,_,rfl,?_⟩;refine ite2 (λe=>?_) (λe=>?_)
  ·refine iteT (fin _ _ (Same.refl _) ?_);cases th<;>first|rfl|(exact absurd (show false=true from e) Bool.false_ne_true)
  ·cases th with
  |str y hy=>
    have hlen:(codes y).length=y.length:=clen y;refine⟨_,rfl,_,_,rfl,⟨slen hy,rfl⟩,_,_,rfl,rfl,_,rfl,?_⟩;refine ite2 (λe1=>?_) (λe1=>?_)
    ·refine⟨_,rfl,_,_,rfl,rfl,_,rfl,?_⟩;refine ite2 (λe2=>?_) (λe2=>?_)
     ·refine fin _ _ (Same.refl _) ?_;show false=YC n (codes z) (codes y);unfold YC lenB;have e3:decide ((y.length:Int)<=n)=false:=by simpa using e2
      rw[hlen,e3,Bool.and_false,Bool.false_and]
     ·have e3:decide ((y.length:Int)<=n)=true:=by simpa using e2
      refine⟨_,rfl,y,rfl,Yd (J:=Its y) y.length (slen hy) (λi ys τ H1=>H1=H/\ys=((codes y).take i).map (λc=>V.bl (decide (c∈codes z)))/\∃v,τ=[v,some (.str z)]) ⟨rfl,rfl,none,rfl⟩ (λi ys τ H1 p=>?_) (λi ys τ H1 hi p=>hi) (λys τ H1 p=>Nat.le_refl _) (λi ys τ H1 x' H2 hi p yl=>?_) (λys τ H1 p l hl=>?_)⟩
      ·rw[p.2.1,List.length_map,List.length_take];omega
      ·obtain⟨rfl,rfl,v,rfl⟩:=p;obtain⟨rfl,c,hc,rfl⟩:=yl;refine⟨_,rfl,_,rfl,_,_,rfl,rfl,rfl,?_,_,rfl⟩;rw[QM];exact(take_all (codes y) (λc=>V.bl (decide (c∈codes z))) i c hc).symm
      ·obtain⟨rfl,rfl,v,rfl⟩:=p;refine⟨l,(codes y).map (λc=>decide (c∈codes z)),rfl,SqL.of ?_,fin _ _ (λb o q=>?_) ?_⟩
       ·rw[Ze,<-hlen,List.take_length,List.map_map];rfl
       ·rw[Zj (Zk q hl)];exact q
       ·show _=YC n (codes z) (codes y);unfold YC lenB;rw[hlen,e1,e3,Bool.true_and,Bool.true_and,List.all_map];rfl
    ·refine⟨_,rfl,iteT (fin _ _ (Same.refl _) ?_)⟩;show false=YC n (codes z) (codes y);unfold YC lenB;have e3:decide ((1:Int)<=y.length)=false:=by simpa using e1
     rw[hlen,e3,Bool.false_and,Bool.false_and]
  |_=>exact absurd rfl e
theorem cLET:codes tLET=LET:=by decide +kernel
theorem EX:codes tNAME=LET++FIG++[]:=by decide +kernel
theorem Ed:codes tGROUP=LET++FIG++[46]:=by decide +kernel
theorem MM{x:V}{n:Int}{z:Str}(h:Ro x n z=true):∃y c r,x=.str y/\codes y=c::r:=by
 cases x with
|str y=>
  have h':YC n (codes z) (codes y)=true:=h;unfold YC lenB at h';rw[Bool.and_eq_true,Bool.and_eq_true]at h';have h1:=of_decide_eq_true h'.1.1;cases e:codes y with
 |nil=>rw[e]at h1;simp at h1
 |cons c r=>exact⟨y,c,r,rfl,e⟩
|_=>exact absurd (show false=true from h) Bool.false_ne_true
theorem Sj{y:Str}{c:Nat}{r:List Nat}(e:codes y=c::r):atI y.cps.toList 0=some c:=by have e':y.cps.toList=c::r:=e;rw[e'];exact Zn (j:=0) rfl
theorem _root_.L2.Th.strLen{H:Hp}{y:Str}{T:String}(h:Th H (.str y) T):y.length<=1000:=by
 cases h with
|str z h=>exact h
theorem U4{x:V}{n:Int}{z:Str}(h:Ro x n z=false):VM x n z=false:=by
 cases x with
|str y=>have h':YC n (codes z) (codes y)=false:=h;show(YC n (codes z) (codes y)&&_)=false;rw[h',Bool.false_and]
|_=>rfl
theorem KG:FnScope ["thing"] ["thing"] (Zf LB):=⟨rfl,rfl,rfl,by decide +kernel,rfl,by decide +kernel,by decide +kernel⟩
theorem Ki(T:Txt K mg)(D:Df K mg "is_name" LB ["thing"])(CT:Can P w K mg base 1 "is_text_of" ["thing","longest","signs"] GN):Can P w K mg base 2 "is_name" ["thing"] (Np 8 tNAME):=by
 refine D.can KG (λvs H Q E h=>?_) (λf cdv A outer s H vs Q E hr h=>?_)
 ·obtain⟨x,T',rfl,_⟩:=h;rfl
 ·obtain⟨x,T',rfl,th,k⟩:=h;obtain⟨t1,h1⟩:=T.ln;obtain⟨t2,h2⟩:=T.names;obtain⟨t3,h3⟩:=T.lets;refine⟨_,Zi (Zo (JD (ZT CT hr rfl (Zg (pv 0) (Zg (ZO (v:=V.int 8) rfl h1 ⟨t1,rfl⟩) (Zg (ZO (v:=V.str tNAME) rfl h2 ⟨t2,rfl⟩) Zb)))) (Y9 (YB UO (Yb Mb (pv 0) Zc (λ_ _=>rfl)) (ZO (v:=V.str tLET) rfl h3 ⟨t3,rfl⟩) (by with_unfolding_all rfl))))),?_⟩;refine⟨_,rfl,x,T',8,tNAME,rfl,th,λH' sm=>⟨_,rfl,?_⟩⟩;have fin:∀b,b=VM x 8 tNAME->Q (.bl b) H':=λb e=>e▸k H' sm;refine ite2 (λe=>?_) (λe=>fin _ ?_)
  ·obtain⟨y,c,r,rfl,ey⟩:=MM e;refine⟨_,rfl,y,0,c,rfl,rfl,slen th.strLen,Sj ey,_,_,rfl,rfl,fin _ ?_⟩;have e':YC 8 (codes tNAME) (codes y)=true:=e;show _=(YC 8 (codes tNAME) (codes y)&&decide ((codes y).getD 0 0∈LET));rw[QM,e',Bool.true_and,cLET,ey];rfl
  ·exact(U4 (by simpa using e)).symm
theorem Wb:FnScope ["thing"] ["thing"] (Zf Wl):=⟨rfl,rfl,rfl,by decide +kernel,rfl,by decide +kernel,by decide +kernel⟩
theorem TK(T:Txt K mg)(D:Df K mg "is_group_name" Wl ["thing"])(CT:Can P w K mg base 1 "is_text_of" ["thing","longest","signs"] GN):Can P w K mg base 2 "is_group_name" ["thing"] (Np 12 tGROUP):=by
 refine D.can Wb (λvs H Q E h=>?_) (λf cdv A outer s H vs Q E hr h=>?_)
 ·obtain⟨x,T',rfl,_⟩:=h;rfl
 ·obtain⟨x,T',rfl,th,k⟩:=h;obtain⟨t1,h1⟩:=T.lg;obtain⟨t2,h2⟩:=T.groups;obtain⟨t3,h3⟩:=T.lets;refine⟨_,Zi (Zo (JD (ZT CT hr rfl (Zg (pv 0) (Zg (ZO (v:=V.int 12) rfl h1 ⟨t1,rfl⟩) (Zg (ZO (v:=V.str tGROUP) rfl h2 ⟨t2,rfl⟩) Zb)))) (Y9 (YB UO (Yb Mb (pv 0) Zc (λ_ _=>rfl)) (ZO (v:=V.str tLET) rfl h3 ⟨t3,rfl⟩) (by with_unfolding_all rfl))))),?_⟩;refine⟨_,rfl,x,T',12,tGROUP,rfl,th,λH' sm=>⟨_,rfl,?_⟩⟩;have fin:∀b,b=VM x 12 tGROUP->Q (.bl b) H':=λb e=>e▸k H' sm;refine ite2 (λe=>?_) (λe=>fin _ ?_)
  ·obtain⟨y,c,r,rfl,ey⟩:=MM e;refine⟨_,rfl,y,0,c,rfl,rfl,slen th.strLen,Sj ey,_,_,rfl,rfl,fin _ ?_⟩;have e':YC 12 (codes tGROUP) (codes y)=true:=e;show _=(YC 12 (codes tGROUP) (codes y)&&decide ((codes y).getD 0 0∈LET));rw[QM,e',Bool.true_and,cLET,ey];rfl
  ·exact(U4 (by simpa using e)).symm
end
end K1
namespace TB
open PySem L2 PySem.Spec PyProof.Rows
def Bad(C:Addr)(p a y:V)(H:Hp)(E:XK):Prop:=∀H' d,H d=none->H' d=some (XD d [("part",p),("at",a),("why",y)])->(∀b,b≠d->H' b=H b)->E (.ref C) (some d) H'
def JA(C:Addr):Sp:=λvs H Q E=>∃p a y,vs=[p,a,y]/\((y=.non/\Q .non H)\/(y≠.non/\Bad C p a y H E))
section
variable {P:Program}{w:World}{K:PySem.W.Frag}{mg:Str->Option Value}{base:Heap}{C:Addr}
theorem Wh:FnScope ["part","at","why"] ["part","at","why"] (Zf T.f_refuse_row):=⟨rfl,rfl,rfl,by decide +kernel,rfl,by decide +kernel,by decide +kernel⟩
theorem Q1(B:Err P w K mg base "BadTable" ["part","at","why"] C)(D:Df K mg "refuse_row" T.f_refuse_row ["part","at","why"]):CanX P w K mg base 3 "refuse_row" ["part","at","why"] (JA C):=by
 refine D.canX Wh (λvs H Q E h=>?_) λf cdv A outer s H vs Q E hr h=>?_
 ·obtain⟨p,a,y,rfl,_⟩:=h;rfl
 ·obtain⟨p,a,y,rfl,h⟩:=h;refine⟨_,Zi (ZH (ZF JQ (pv 2) ZI (ZE _)) (Zi (XY (E:=E) B Y6 rfl hr rfl (Zg (pv 0) (Zg (pv 1) (Zg (pv 2) Zb))))) Zv),?_⟩;refine⟨_,rfl,rfl,_,rfl,?_⟩;rcases h with⟨rfl,h⟩|⟨hn,h⟩
  ·exact iteF h
  ·rw[if_pos (by simp[hn])];exact⟨_,rfl,_,rfl,_,rfl,rfl,h⟩
structure Txt(K:PySem.W.Frag)(mg:Str->Option Value):Prop where
 turns:∃t,mg "MOST_TURNS"=some (.int 50 t)
 room:∃t,mg "MOST_ROOM"=some (.int 1000 t)
 way:∃t,mg "LONGEST_WAY"=some (.int 50 t)
 people:∃t,mg "MOST_PEOPLE"=some (.int 300 t)
 isi:mg "isinstance"=none
 str:mg "str"=none
 tup:mg "tuple"=none
 lst:mg "list"=none
 len:mg "len"=none
noncomputable def Z8(r:V):V:=if(decide (r=.non)||K1.Zu r 0 1000)=true then .non else .str "number"
def Pc:Sp:=λvs H Q _=>∃p n r T,vs=[.ref p]/\H p=some (.tup [n,r])/\Th H r T/\Q (Z8 r) H
theorem We:FnScope ["row"] ["row"] (Zf T.f_wrong_place):=⟨rfl,rfl,rfl,by decide +kernel,rfl,by decide +kernel,by decide +kernel⟩
theorem QT(G:Txt K mg)(D:Df K mg "wrong_place" T.f_wrong_place ["row"])(CI:Can P w K mg base 2 "is_within" ["thing","low","high"] K1.YM):Can P w K mg base 3 "wrong_place" ["row"] Pc:=by
 obtain⟨t1,h1⟩:=G.room;refine D.can We (λvs H Q E h=>?_) λf cdv A outer s H vs Q E hr h=>?_
 ·obtain⟨p,n,r,T',rfl,_⟩:=h;rfl
 ·obtain⟨p,n,r,T',rfl,hp,th,k⟩:=h;refine⟨_,Zd (ZH (PW.pt (VA (ZF NJ (Yb Z4 (pv 0) Zc (λ_ _=>rfl)) ZI (ZE _)) (Jf (ZD (ZT CI hr rfl (Zg (Yb Z4 (pv 0) Zc (λ_ _=>rfl)) (Zg Zc (Zg (ZO (v:=V.int 1000) rfl h1 ⟨t1,rfl⟩) Zb)))))))) (Zi (Zo ZI)) Zv) (Zi (Zo Zr)),?_⟩;refine⟨_,rfl,p,[n,r],1,r,rfl,rfl,SqT.of hp,rfl,rfl,_,rfl,?_⟩;unfold Z8 at k;refine ite2 (λe=>?_) (λe=>?_)
  ·rw[if_pos (by simp[e])]at k;exact iteT k
  ·refine⟨_,rfl,p,[n,r],1,r,rfl,rfl,SqT.of hp,rfl,r,T',0,1000,rfl,th,_,rfl,?_⟩;refine ite2 (λe2=>?_) (λe2=>?_)
   ·rw[if_pos (by simp[e2])]at k;exact k
   ·rw[if_neg (by simpa using⟨by simpa using e,by simpa using e2⟩)]at k;exact k
noncomputable def ZN(x:V)(kvs:List (Key×V)):Bool:=match x with
|.str z=>(valV kvs (.inr z)).isSome
|_=>false
def Vt:Sp:=λvs H Q _=>∃x T d kvs,vs=[x,.ref d]/\Th H x T/\H d=some (.dK kvs)/\Q (.bl (ZN x kvs)) H
theorem KL:FnScope ["thing","names"] ["thing","names"] (Zf T.f_is_known):=⟨rfl,rfl,rfl,by decide +kernel,rfl,by decide +kernel,by decide +kernel⟩
theorem Nb(G:Txt K mg)(D:Df K mg "is_known" T.f_is_known ["thing","names"]):Can P w K mg base 1 "is_known" ["thing","names"] Vt:=by
 refine D.can KL (λvs H Q E h=>?_) λf cdv A outer s H vs Q E hr h=>?_
 ·obtain⟨x,T',d,kvs,rfl,_⟩:=h;rfl
 ·obtain⟨x,T',d,kvs,rfl,th,hd,k⟩:=h;refine⟨_,Zi (Zo (JD (UM (c:="str") (pv 0) rfl G.isi rfl G.str Ko) (Y9 (Du (WE (Y7 hr) (pv 0) (pv 1)))))),?_⟩;refine⟨_,rfl,_,_,_,_,rfl,th.ty,th.kitS,_,rfl,?_⟩;have fin:∀b,b=ZN x kvs->Q (.bl b) H:=λb e=>e▸k;refine ite2 (λe=>?_) (λe=>fin _ ?_)
  ·obtain⟨z,rfl⟩:∃z,x=.str z:=by cases th<;>first|exact⟨_,rfl⟩|(exact absurd (show false=true from e) Bool.false_ne_true)
   exact⟨_,rfl,_,rfl,d,_,rfl,DGet.k (k:=Sum.inr z) hd,k⟩
  ·cases th<;>first|rfl|(exact absurd rfl e)
end
end TB
namespace L2
open PySem PySem.Spec PyProof.Rows
theorem YF:bootBuiltins "tuple"=some (.type "tuple"):=by decide +kernel
theorem Jr:bootBuiltins "list"=some (.type "list"):=by decide +kernel
theorem Th.kitT{K:PySem.W.Frag}{H:Hp}{v:V}{T:String}(h:Th H v T):PySem.W.kitOne K (.type T) (.type "tuple")=some (decide (T="tuple")):=by cases h<;>(unfold PySem.W.kitOne;first|rfl|decide +kernel|(show _=_;simp;rfl))
end L2
namespace TB
open PySem L2 PySem.Spec PyProof.Rows
noncomputable def Z5(g:Bool)(x:V):Bool:=if g=true then K1.VM x 12 K1.tGROUP else K1.VM x 8 K1.tNAME
noncomputable def begV(g:Bool)(n:Nat)(kvs:List (Key×V))(xs:List V):V:=if xs.length≠n then .str "form" else if Z5 g (xs.getD 0 .non)=false then .str "name" else if ZN (xs.getD 0 .non) kvs=true then .str "double" else .non
def Row(H:Hp)(v:V)(r:Option (List V)):Prop:=match r with
|none=>∃T,Th H v T/\T≠"tuple"
|some xs=>∃p,v=.ref p/\H p=some (.tup xs)/\∀x∈xs,∃T,Th H x T
noncomputable def begR(g:Bool)(n:Nat)(kvs:List (Key×V)):Option (List V)->V
|none=>.str "form"
|some xs=>begV g n kvs xs
structure Sizes(K:PySem.W.Frag)(w:World)(mg:Str->Option Value):Prop where
 at_:∃a,mg "ROW_SIZES"=some (.ref a)/\Xw K w a "places" (.int 2)/\Xw K w a "rides" (.int 6)/\Xw K w a "ways" (.int 5)/\Xw K w a "groups" (.int 4)
noncomputable def GZ:List (Str×Nat):=[("places",2),("rides",6),("ways",5),("groups",4)]
def Jy:Sp:=λvs H Q _=>∃z n row r d kvs,vs=[.str z,row,.ref d]/\(z,n)∈GZ/\Row H row r/\H d=some (.dK kvs)/\∀H',Same H H'->Q (begR (decide (z="groups")) n kvs r) H'
section
variable {P:Program}{w:World}{K:PySem.W.Frag}{mg:Str->Option Value}{base:Heap}{C:Addr}
theorem Wf:FnScope ["part","row","names_ahead","fits"] ["part","row","names_ahead"] (Zf T.f_wrong_beginning):=⟨rfl,rfl,rfl,by decide +kernel,rfl,by decide +kernel,by decide +kernel⟩
theorem QW(G:Txt K mg)(Z:Sizes K w mg)(D:Df K mg "wrong_beginning" T.f_wrong_beginning ["part","row","names_ahead"])(CN:Can P w K mg base 2 "is_name" ["thing"] (K1.Np 8 K1.tNAME))(CG:Can P w K mg base 2 "is_group_name" ["thing"] (K1.Np 12 K1.tGROUP)):Can P w K mg base 3 "wrong_beginning" ["part","row","names_ahead"] Jy:=by
 obtain⟨aS,hS,k1,k2,k3,k4⟩:=Z.at_;have nd:(["part","row","names_ahead","fits"]:List Str).Nodup:=by decide +kernel
 refine D.can Wf (λvs H Q E h=>?_) λf cdv A outer s H vs Q E hr h=>?_
 ·obtain⟨z,n,row,r,d,kvs,rfl,_⟩:=h;rfl
 ·obtain⟨z,n,row,r,d,kvs,rfl,hz,hrow,hd,k⟩:=h;have hK:Xw K w aS z (.int n):=by simp only[GZ,List.mem_cons,Prod.mk.injEq,List.not_mem_nil,or_false]at hz;rcases hz with⟨rfl,rfl⟩|⟨rfl,rfl⟩|⟨rfl,rfl⟩|⟨rfl,rfl⟩<;>assumption
  refine⟨_,Zd (ZH (PW.pt (VA (ZQ (ZD (UM (c:="tuple") (pv 1) rfl G.isi rfl G.tup YF))) (Jf (ZF RM (ZC Jq rfl G.len PySem.boot_len (Zg (pv 1) Zb)) (NI (ZO (v:=V.ref aS) rfl hS rfl) (pv 0) (λ_ _=>rfl)) (ZE _))))) (Zi (Zo Zr)) Zv) (Zd (Yl (i:=3) nd rfl (Or.inl rfl) (VH (ZF X4 (pv 0) Zr (ZE _)) (ZT CG hr rfl (Zg (Yb Z4 (pv 1) Zc (λ_ _=>rfl)) Zb)) (ZT CN hr rfl (Zg (Yb Z4 (pv 1) Zc (λ_ _=>rfl)) Zb)))) (Zd (ZH (ZQ (ZD (pv 3))) (Zi (Zo Zr)) Zv) (Zd (ZH (Dp (WE (Y7 hr) (Yb Z4 (pv 1) Zc (λ_ _=>rfl)) (pv 2))) (Zi (Zo Zr)) Zv) (Zi (Zo ZI))))),?_⟩;cases r with
 |none=>obtain⟨T',th,hT⟩:=hrow;refine⟨_,rfl,_,_,_,_,rfl,th.ty,th.kitT,_,rfl,?_⟩;rw[decide_eq_false hT];refine iteT ?_;exact k H (Same.refl H)
 |some xs=>
   obtain⟨p,rfl,hp,hx⟩:=hrow;have th:Th H (.ref p) "tuple":=.tup hp;refine⟨_,rfl,_,_,_,_,rfl,th.ty,th.kitT,_,rfl,?_⟩;refine iteF ?_;refine⟨_,rfl,p,xs,rfl,.inr (SqT.of hp),_,rfl,aS,z,.int n,rfl,rfl,hK,rfl,_,rfl,?_⟩;refine ite2 (λe=>?_) (λe=>?_)
   ·have hl:xs.length≠n:=λq=>by rw[q]at e;simp at e
    show Q (.str "form") H;have q:=k H (Same.refl H);simpa[begR,begV,hl]using q
   ·have hl:xs.length=n:=by
     have e':(xs.length:Int)=n:=by simpa using e
     omega
    obtain⟨x,r,rfl⟩:∃x r,xs=x::r:=by
     cases xs with
    |nil=>simp only[GZ,List.mem_cons,Prod.mk.injEq,List.not_mem_nil,or_false]at hz;simp at hl;omega
    |cons x r=>exact⟨x,r,rfl⟩
    obtain⟨T',tx⟩:=hx x (by simp);have a0:∀(u:V)(l:List V),atI (u::l) 0=some u:=λu l=>Zn (xs:=u::l) (j:=0) rfl;have fin:∀b H',Same H H'->b=Z5 (decide (z="groups")) x->(if(!b)=true then Q (.str "name") H' else if ZN x kvs=true then Q (.str "double") H' else Q .non H'):=by
     rintro b H' sm rfl;have q:=k H' sm;simp only[begR,begV,hl,ne_eq,not_true_eq_false,if_false,List.getD_cons_zero]at q;cases hb:Z5 (decide (z="groups")) x with
    |false=>rw[if_pos (by decide)];rw[hb,if_pos rfl]at q;exact q
    |true=>
      rw[if_neg (by decide)];rw[hb,if_neg (by decide)]at q;by_cases hk:ZN x kvs=true
      ·rw[if_pos hk]at q ⊢;exact q
      ·rw[if_neg hk]at q ⊢;exact q
    have isS:∀b,b=Z5 (decide (z="groups")) x->b=true->∃y,x=.str y:=by
     rintro _ rfl hb;unfold Z5 at hb;cases x with
    |str y=>exact⟨y,rfl⟩
    |_=>split at hb<;>cases hb
    refine⟨_,rfl,rfl,_,rfl,?_⟩;refine ite2 (λe2=>?_) (λe2=>?_)
    ·refine⟨_,rfl,p,x::r,0,x,rfl,rfl,SqT.of hp,a0 x r,x,T',rfl,tx,λH' sm=>?_⟩;have hb:K1.VM x 12 K1.tGROUP=Z5 (decide (z="groups")) x:=by
      have e3:z="groups":=by simpa using e2
      simp[Z5,e3]
     have q:=fin _ H' sm hb;refine⟨_,rfl,_,rfl,?_⟩;refine ite2 (λe3=>?_) (λe3=>?_)
     ·rw[if_pos e3]at q;exact q
     ·rw[if_neg e3]at q;obtain⟨y,rfl⟩:=isS _ hb (by simpa using e3);exact⟨_,rfl,p,_::r,0,_,rfl,rfl,SqT.of (sm _ _ hp),a0 _ r,_,rfl,d,_,rfl,DGet.k (k:=Sum.inr y) (sm _ _ hd),_,rfl,q⟩
    ·refine⟨_,rfl,p,x::r,0,x,rfl,rfl,SqT.of hp,a0 x r,x,T',rfl,tx,λH' sm=>?_⟩;have hb:K1.VM x 8 K1.tNAME=Z5 (decide (z="groups")) x:=by
      have e3:z≠"groups":=by simpa using e2
      simp[Z5,e3]
     have q:=fin _ H' sm hb;refine⟨_,rfl,_,rfl,?_⟩;refine ite2 (λe3=>?_) (λe3=>?_)
     ·rw[if_pos e3]at q;exact q
     ·rw[if_neg e3]at q;obtain⟨y,rfl⟩:=isS _ hb (by simpa using e3);exact⟨_,rfl,p,_::r,0,_,rfl,rfl,SqT.of (sm _ _ hp),a0 _ r,_,rfl,d,_,rfl,DGet.k (k:=Sum.inr y) (sm _ _ hd),_,rfl,q⟩
end
end TB
namespace L2
open PySem PySem.Spec PyProof.Rows
def DfM(K:PySem.W.Frag)(C:Addr)(m qual:Str)(st:Stmt)(ps:List Str):Prop:=∃f fd,Fun K m qual st f fd/\Meth K C m f/\Binds K fd ps []
def CanM(P:Program)(w:World)(K:PySem.W.Frag)(mg:Str->Option Value)(base:Heap)(CX:CXT)(k:Nat)(C:Addr)(m:Str)(ps:List Str)(sp:Sp):Prop:=∃f fd,FnOk P w K mg base CX k f fd ps sp/\Meth K C m f/\Binds K fd ps []
section
variable {P:Program}{w:World}{K:PySem.W.Frag}{mg:Str->Option Value}{base:Heap}{C:Addr}{m qual:Str}{st:Stmt}{N ps:List Str}{k:Nat}{sp:Sp}
theorem CanM.mono{j:Nat}{CX:CXT}(c:CanM P w K mg base CX j C m ps sp)(h:j<=k):CanM P w K mg base CX k C m ps sp:=by obtain⟨f,fd,F,r⟩:=c;exact⟨f,fd,F.mono h,r⟩
theorem DfM.can(D:DfM K C m qual st ps)(S:FnScope N ps (Zf st))(len:∀vs H Q E,sp vs H Q E->vs.length=ps.length)(hbody:∀(f:Addr)(cdv:Value)(A:Around)(outer:List Env)(s:Shared)(H:Hp)(vs:List V)(Q:VK)(E:XK),Room k (A.deeper (envOfC qual (Zf st) s.heap.objs.size f cdv))->sp vs H Q E ->∃t,PSs (cxOf CX0 P w K mg base N qual (Zf st) f cdv A outer s H E).nox (ZJ st) t/\t {nx:=λ_ H'=>Q .non H',rt:=Q} (start N vs) H):CanM P w K mg base CX0 (k+1) C m ps sp:=by obtain⟨f,fd,F,me,b⟩:=D;exact⟨f,fd,F.ok S len (λcdv A outer s H vs Q E hr h=>hbody f cdv A outer s H vs Q E hr h),me,b⟩
theorem DfM.canX(D:DfM K C m qual st ps)(S:FnScope N ps (Zf st))(len:∀vs H Q E,sp vs H Q E->vs.length=ps.length)(hbody:∀(f:Addr)(cdv:Value)(A:Around)(outer:List Env)(s:Shared)(H:Hp)(vs:List V)(Q:VK)(E:XK),Room k (A.deeper (envOfC qual (Zf st) s.heap.objs.size f cdv))->sp vs H Q E ->∃t,PSs (cxOf (CX1 P w) P w K mg base N qual (Zf st) f cdv A outer s H E) (ZJ st) t/\t {nx:=λ_ H'=>Q .non H',rt:=Q} (start N vs) H):CanM P w K mg base (CX1 P w) (k+1) C m ps sp:=by obtain⟨f,fd,F,me,b⟩:=D;exact⟨f,fd,F.okX S len (λcdv A outer s H vs Q E hr h=>hbody f cdv A outer s H vs Q E hr h),me,b⟩
end
section
variable {X:Cx}{CX:CXT}{k:Nat}{C:Addr}{ps:List Str}{sp:Sp}{E:XK}{m:Str}{pos apos:Pos}{e o:Expr}{es:List Expr}{ta:TE}{t:TA}
theorem ZW{pl:Sem Bool}(c:CanM X.prog X.w X.K X.mg X.base CX k C m ps sp)(cl:Cls X.K C)(hx:Passes CX X E)(hr:Room k X.A)(he:PE X o ta)(ha:PA X (e::es) t)
  (hst:starEach (e::es) X.env=(false,eval e X.env)::starEach es X.env:=by rfl) (hpl:(backTo pos (starEach es X.env)).any (·.1)=false:=by rfl)
  (ht:eval (.Call (.Attribute o m apos) (e::es) [] pos) X.env=(do
   let ov <-eval o X.env
   standAt apos.atName
   let (f,first) <-holding [ov] (getMethod ov m pl)
   callWith pos f first (backTo pos (starEach (e::es) X.env)) (backToKw pos (keywordEach [] X.env))):=by rfl):
  PE X (.Call (.Attribute o m apos) (e::es) [] pos) (Rp C m sp [] E ta t):=by
 obtain⟨f,fd,F,me,b⟩:=c
 exact KY he cl me F hr b .nil hx ha hst hpl ht
end
end L2
namespace TB
open PySem L2 PySem.Spec PyProof.Rows
noncomputable def fields:List Str:=["turns","places","room_by_place","rides","ride_by_name","ways","way_by_name","groups","group_by_name"]
structure TCl(K:PySem.W.Frag)(C:Addr):Prop where
 cl:Cls K C
 na:∀f∈fields,ZZ K C f
structure Tab(H:Hp)(C t:Addr)(fs:List (Str×V)):Prop where
 at_:∃dx,H t=some (.ins C dx fs)
 only:∀g,g∉fields->fs.lookup g=none
section
variable {P:Program}{w:World}{K:PySem.W.Frag}{mg:Str->Option Value}{base:Heap}{C:Addr}
def Xh(C:Addr)(fld:Str):Sp:=λvs H Q _=>∃t x T fs d kvs,vs=[.ref t,x]/\Tab H C t fs/\fs.lookup fld=some (.ref d)/\H d=some (.dK kvs)/\Th H x T/\Q (.bl (ZN x kvs)) H
theorem Eu:FnScope ["self","thing"] ["self","thing"] (Zf T.m_Table_is_place):=⟨rfl,rfl,rfl,by decide +kernel,rfl,by decide +kernel,by decide +kernel⟩
theorem Gh(Z:TCl K C)(D:DfM K C "is_place" "Table.is_place" T.m_Table_is_place ["self","thing"])(CK:Can P w K mg base 1 "is_known" ["thing","names"] Vt):CanM P w K mg base CX0 2 C "is_place" ["self","thing"] (Xh C "room_by_place"):=by
 refine D.can Eu (λvs H Q E h=>?_) λf cdv A outer s H vs Q E hr h=>?_
 ·obtain⟨t,x,T',fs,d,kvs,rfl,_⟩:=h;rfl
 ·obtain⟨t,x,T',fs,d,kvs,rfl,⟨⟨dx,ht⟩,_⟩,hl,hd,th,k⟩:=h;refine⟨_,Zi (Zo (ZT CK hr rfl (Zg (pv 1) (Zg (ZL (pv 0) rfl) Zb)))),?_⟩;exact⟨_,rfl,_,rfl,t,C,dx,fs,_,rfl,ht,Z.cl,Z.na _ (by simp[fields]),hl,x,T',d,kvs,rfl,th,hd,k⟩
noncomputable def Gb(x:V)(kvs:List (Key×V)):Bool:=match x with
|.str z=>decide (valV kvs (.inr z)=some .non)
|_=>false
theorem Z7{x:V}{kvs:List (Key×V)}(h:ZN x kvs=true):∃z v,x=.str z/\valV kvs (.inr z)=some v:=by
 cases x with
|str z=>have h':(valV kvs (.inr z)).isSome=true:=h;exact⟨z,_,rfl,(Option.some_get h').symm⟩
|_=>cases h
theorem QN{x:V}{kvs:List (Key×V)}(h:ZN x kvs=false):Gb x kvs=false:=by
 cases x with
|str z=>
  have h':(valV kvs (.inr z)).isSome=false:=h;show decide (valV kvs (.inr z)=some .non)=false;cases e:valV kvs (.inr z)with
 |none=>simp
 |some v=>rw[e]at h';cases h'
|_=>rfl
def GP(C:Addr):Sp:=λvs H Q _=>∃t x T fs d kvs,vs=[.ref t,x]/\Tab H C t fs/\fs.lookup ("room_by_place":Str)=some (.ref d)/\H d=some (.dK kvs)/\Th H x T/\Q (.bl (Gb x kvs)) H
theorem Wj:FnScope ["self","thing"] ["self","thing"] (Zf T.m_Table_is_home):=⟨rfl,rfl,rfl,by decide +kernel,rfl,by decide +kernel,by decide +kernel⟩
theorem Mr(Z:TCl K C)(D:DfM K C "is_home" "Table.is_home" T.m_Table_is_home ["self","thing"])(CP:CanM P w K mg base CX0 2 C "is_place" ["self","thing"] (Xh C "room_by_place")):CanM P w K mg base CX0 3 C "is_home" ["self","thing"] (GP C):=by
 refine D.can Wj (λvs H Q E h=>?_) λf cdv A outer s H vs Q E hr h=>?_
 ·obtain⟨t,x,T',fs,d,kvs,rfl,_⟩:=h;rfl
 ·obtain⟨t,x,T',fs,d,kvs,rfl,tb,hl,hd,th,k⟩:=h;obtain⟨dx,ht⟩:=id tb.at_;refine⟨_,Zi (Zo (JD (ZW CP Z.cl Z1 hr (pv 0) (Zg (pv 1) Zb)) (Y9 (YB NJ (JO (Y7 hr) (ZL (pv 0) rfl) (pv 1) (λ_ _=>rfl)) ZI (by with_unfolding_all rfl))))),?_⟩;refine⟨_,rfl,t,dx,fs,rfl,ht,tb.only _ (by decide +kernel),_,rfl,t,x,T',fs,d,kvs,rfl,tb,hl,hd,th,_,rfl,?_⟩;have fin:∀b,b=Gb x kvs->Q (.bl b) H:=λb e=>e▸k;refine ite2 (λe=>?_) (λe=>fin _ ?_)
  ·obtain⟨z,v,rfl,hv⟩:=Z7 e;refine⟨_,rfl,t,C,dx,fs,_,rfl,ht,Z.cl,Z.na _ (by simp[fields]),hl,_,rfl,d,v,rfl,(by rw[<-hv];exact DGet.k (k:=Sum.inr z) hd),rfl,fin _ ?_⟩;show decide (v=.non)=decide (valV kvs (.inr z)=some .non);rw[hv];simp
  ·have e':ZN x kvs=false:=by simpa using e
   exact(QN e').symm
noncomputable def YI(kvs:List (Key×V))(s g:V):V:=if(!ZN s kvs||!ZN g kvs)=true then .str "place" else if Gb s kvs=true then .str "home" else if g=s then .str "alike" else .non
def Qs(C:Addr):Sp:=λvs H Q _=>∃t x y T T' fs d kvs,vs=[.ref t,x,y]/\Tab H C t fs/\fs.lookup ("room_by_place":Str)=some (.ref d)/\H d=some (.dK kvs)/\Th H x T/\Th H y T'/\Q (YI kvs x y) H
theorem Dj:FnScope ["table","start","goal"] ["table","start","goal"] (Zf T.f_wrong_ends):=⟨rfl,rfl,rfl,by decide +kernel,rfl,by decide +kernel,by decide +kernel⟩
theorem Kk(Z:TCl K C)(D:Df K mg "wrong_ends" T.f_wrong_ends ["table","start","goal"])(CP:CanM P w K mg base CX0 2 C "is_place" ["self","thing"] (Xh C "room_by_place"))(CH:CanM P w K mg base CX0 3 C "is_home" ["self","thing"] (GP C)):Can P w K mg base 4 "wrong_ends" ["table","start","goal"] (Qs C):=by
 refine D.can Dj (λvs H Q E h=>?_) λf cdv A outer s H vs Q E hr h=>?_
 ·obtain⟨t,x,y,T1,T2,fs,d,kvs,rfl,_⟩:=h;rfl
 ·obtain⟨t,x,y,T1,T2,fs,d,kvs,rfl,tb,hl,hd,tx,ty,k⟩:=h;obtain⟨dx,ht⟩:=id tb.at_;have hr2:Room 2 (A.deeper (envOfC "wrong_ends" (Zf T.f_wrong_ends) s.heap.objs.size f cdv)):=hr.mono (by decide);refine⟨_,Zd (ZH (PW.pt (VA (ZQ (ZD (ZW CP Z.cl Z1 hr2 (pv 0) (Zg (pv 1) Zb)))) (Jf (ZQ (ZD (ZW CP Z.cl Z1 hr2 (pv 0) (Zg (pv 2) Zb))))))) (Zi (Zo Zr)) Zv) (Zd (ZH (ZD (ZW CH Z.cl Z1 hr (pv 0) (Zg (pv 1) Zb))) (Zi (Zo Zr)) Zv) (Zd (ZH (ZF X4 (pv 2) (pv 1) (ZE _)) (Zi (Zo Zr)) Zv) (Zi (Zo ZI)))),?_⟩;unfold YI at k;refine⟨_,rfl,t,dx,fs,rfl,ht,tb.only _ (by decide +kernel),_,rfl,t,x,T1,fs,d,kvs,rfl,tb,hl,hd,tx,_,rfl,?_⟩;refine ite2 (λe=>?_) (λe=>?_)
  ·rw[if_pos (by rw[e];rfl)]at k;exact iteT k
  ·refine⟨_,rfl,t,dx,fs,rfl,ht,tb.only _ (by decide +kernel),_,rfl,t,y,T2,fs,d,kvs,rfl,tb,hl,hd,ty,_,rfl,?_⟩;refine ite2 (λe2=>?_) (λe2=>?_)
   ·rw[if_pos (by rw[e2];simp)]at k;exact k
   ·have kx:ZN x kvs=true:=by simpa using e
    have ky:ZN y kvs=true:=by simpa using e2
    rw[if_neg (by rw[kx,ky];decide)]at k;refine⟨_,rfl,t,dx,fs,rfl,ht,tb.only _ (by decide +kernel),_,rfl,t,x,T1,fs,d,kvs,rfl,tb,hl,hd,tx,_,rfl,?_⟩;refine ite2 (λe3=>?_) (λe3=>?_)
    ·rw[if_pos e3]at k;exact k
    ·rw[if_neg e3]at k;obtain⟨zx,_,rfl,_⟩:=Z7 kx;obtain⟨zy,_,rfl,_⟩:=Z7 ky;refine⟨_,rfl,_,rfl,rfl,_,rfl,?_⟩;refine ite2 (λe4=>?_) (λe4=>?_)
     ·rw[if_pos (by simpa using e4)]at k;exact k
     ·rw[if_neg (by simpa using e4)]at k;exact k
noncomputable def U8(kvs:List (Key×V))(n:Int)(s l g a m:V):V:=if YI kvs s g≠.non then YI kvs s g else match l with
 |.int i=>if(!K1.Zu (.int i) 0 (n-1)||!K1.Zu a (i+1) n)=true then .str "turn" else if(!K1.Zu m 0 1000)=true then .str "number" else .non
 |_=>.str "turn"
noncomputable def wayV(kvs:List (Key×V))(s g l m:V):V:=if YI kvs s g≠.non then YI kvs s g else if(!K1.Zu l 1 50||!K1.Zu m 0 1000)=true then .str "number" else .non
theorem at0{α:Type}{xs:List α}(j:Nat){v:α}(h:xs[j]?=some v):atI xs (j:Int)=some v:=Zn h
def T9(C:Addr):Sp:=λvs H Q _=>∃t p x0 x1 x2 x3 x4 x5 fs d kvs n,vs=[.ref t,.ref p]/\Tab H C t fs/\fs.lookup ("room_by_place":Str)=some (.ref d)/\fs.lookup ("turns":Str)=some (.int n)/\H d=some (.dK kvs) /\H p=some (.tup [x0,x1,x2,x3,x4,x5])/\(∀x∈[x0,x1,x2,x3,x4,x5],∃T,Th H x T)/\Q (U8 kvs n x1 x2 x3 x4 x5) H
theorem Di:FnScope ["table","row","leave","why"] ["table","row"] (Zf T.f_wrong_ride):=⟨rfl,rfl,rfl,by decide +kernel,rfl,by decide +kernel,by decide +kernel⟩
theorem Kh(G:Txt K mg)(Z:TCl K C)(D:Df K mg "wrong_ride" T.f_wrong_ride ["table","row"])(CI:Can P w K mg base 2 "is_within" ["thing","low","high"] K1.YM)(CE:Can P w K mg base 4 "wrong_ends" ["table","start","goal"] (Qs C)):Can P w K mg base 5 "wrong_ride" ["table","row"] (T9 C):=by
 obtain⟨t1,h1⟩:=G.room;have nd:(["table","row","leave","why"]:List Str).Nodup:=by decide +kernel
 refine D.can Di (λvs H Q E h=>?_) λf cdv A outer s H vs Q E hr h=>?_
 ·obtain⟨t,p,x0,x1,x2,x3,x4,x5,fs,d,kvs,n,rfl,_⟩:=h;rfl
 ·obtain⟨t,p,x0,x1,x2,x3,x4,x5,fs,d,kvs,n,rfl,tb,hl,hn,hd,hp,hx,k⟩:=h;obtain⟨dx,ht⟩:=id tb.at_;obtain⟨T1,h01⟩:=hx x1 (by simp);obtain⟨T2,h02⟩:=hx x2 (by simp);obtain⟨T3,h03⟩:=hx x3 (by simp);obtain⟨T4,h04⟩:=hx x4 (by simp);obtain⟨T5,h05⟩:=hx x5 (by simp);have hr2:Room 2 (A.deeper (envOfC "wrong_ride" (Zf T.f_wrong_ride) s.heap.objs.size f cdv)):=hr.mono (by decide);refine⟨_,Zd (Yl (i:=2) nd rfl (Or.inl rfl) (Yb Z4 (pv 1) Zc (λ_ _=>rfl))) (Zd (Yl (i:=3) nd rfl (Or.inl rfl) (ZT CE hr rfl (Zg (pv 0) (Zg (Yb Z4 (pv 1) Zc (λ_ _=>rfl)) (Zg (Yb Z4 (pv 1) Zc (λ_ _=>rfl)) Zb))))) (Zd (ZH (ZF JQ (pv 3) ZI (ZE _)) (Zi (Zo (pv 3))) Zv) (Zd (ZH (PW.pt (VA (ZQ (ZD (ZT CI hr2 rfl (Zg (pv 2) (Zg Zc (Zg (Zx Jk (ZL (pv 0) rfl) Zc) Zb)))))) (Jf (ZQ (ZD (ZT CI hr2 rfl (Zg (Yb Z4 (pv 1) Zc (λ_ _=>rfl)) (Zg (Zx Z3 (pv 2) Zc) (Zg (ZL (pv 0) rfl) Zb))))))))) (Zi (Zo Zr)) Zv) (Zd (ZH (ZQ (ZD (ZT CI hr2 rfl (Zg (Yb Z4 (pv 1) Zc (λ_ _=>rfl)) (Zg Zc (Zg (ZO (v:=V.int 1000) rfl h1 ⟨t1,rfl⟩) Zb)))))) (Zi (Zo Zr)) Zv) (Zi (Zo ZI)))))),?_⟩;refine⟨_,rfl,p,_,2,x2,rfl,rfl,SqT.of hp,at0 2 rfl,?_⟩;refine⟨_,rfl,_,rfl,p,_,1,x1,rfl,rfl,SqT.of hp,at0 1 rfl,_,rfl,p,_,3,x3,rfl,rfl,SqT.of hp,at0 3 rfl,t,x1,x3,T1,T3,fs,d,kvs,rfl,tb,hl,hd,h01,h03,?_⟩;unfold U8 at k;refine⟨_,rfl,rfl,_,rfl,?_⟩;refine ite2 (λe=>?_) (λe=>?_)
  ·have e':YI kvs x1 x3≠.non:=by simpa using e
   rw[if_pos e']at k;exact⟨_,rfl,k⟩
  ·have e':¬YI kvs x1 x3≠.non:=by simpa using e
   rw[if_neg e']at k;refine⟨_,rfl,_,rfl,t,C,dx,fs,_,rfl,ht,Z.cl,Z.na _ (by simp[fields]),hn,_,_,rfl,rfl,x2,T2,0,n-1,rfl,h02,_,rfl,?_⟩;refine ite2 (λe2=>?_) (λe2=>?_)
   ·have q:Q (.str "turn") H:=by
     cases x2 with
    |int i=>
      have k':Q (if(!K1.Zu (.int i) 0 (n-1)||!K1.Zu x4 (i+1) n)=true then V.str "turn" else if(!K1.Zu x5 0 1000)=true then .str "number" else .non) H:=k
      rw[if_pos (by rw[e2];rfl)]at k';exact k'
    |_=>exact k
    exact iteT q
   ·obtain⟨i,rfl⟩:∃i,x2=.int i:=by
     cases x2 with
    |int i=>exact⟨i,rfl⟩
    |_=>exact absurd rfl e2
    have k':Q (if(!K1.Zu (.int i) 0 (n-1)||!K1.Zu x4 (i+1) n)=true then V.str "turn" else if(!K1.Zu x5 0 1000)=true then .str "number" else .non) H:=k
    have w1:K1.Zu (.int i) 0 (n-1)=true:=by simpa using e2
    rw[w1]at k';refine⟨_,rfl,p,_,4,x4,rfl,rfl,SqT.of hp,at0 4 rfl,_,rfl,_,_,rfl,rfl,_,rfl,t,C,dx,fs,_,rfl,ht,Z.cl,Z.na _ (by simp[fields]),hn,x4,T4,i+1,n,rfl,h04,_,rfl,?_⟩;refine ite2 (λe3=>?_) (λe3=>?_)
    ·rw[if_pos (by rw[e3];rfl)]at k';exact k'
    ·have w2:K1.Zu x4 (i+1) n=true:=by simpa using e3
     rw[w2,if_neg (by decide)]at k';refine⟨_,rfl,p,_,5,x5,rfl,rfl,SqT.of hp,at0 5 rfl,x5,T5,0,1000,rfl,h05,_,rfl,?_⟩;refine ite2 (λe4=>?_) (λe4=>?_)
     ·rw[if_pos e4]at k';exact k'
     ·rw[if_neg e4]at k';exact k'
noncomputable def YZ(kvs:List (Key×V))(n pa:Int)(p t m:V):V:=if(!ZN p kvs)=true then .str "place" else if(!K1.Zu t 0 n)=true then .str "turn" else match m with
 |.int i=>if(!K1.Zu (.int i) 0 300)=true then .str "number" else if pa+i>300 then .str "people" else .non
 |_=>.str "number"
def Ly(C:Addr):Sp:=λvs H Q _=>∃t p x0 x1 x2 x3 x4 fs d kvs,vs=[.ref t,.ref p]/\Tab H C t fs/\fs.lookup ("room_by_place":Str)=some (.ref d)/\H d=some (.dK kvs) /\H p=some (.tup [x0,x1,x2,x3,x4])/\(∀x∈[x0,x1,x2,x3,x4],∃T,Th H x T)/\Q (wayV kvs x1 x2 x3 x4) H
theorem Et:FnScope ["table","row","why"] ["table","row"] (Zf T.f_wrong_way):=⟨rfl,rfl,rfl,by decide +kernel,rfl,by decide +kernel,by decide +kernel⟩
theorem Ln(G:Txt K mg)(Z:TCl K C)(D:Df K mg "wrong_way" T.f_wrong_way ["table","row"])(CI:Can P w K mg base 2 "is_within" ["thing","low","high"] K1.YM)(CE:Can P w K mg base 4 "wrong_ends" ["table","start","goal"] (Qs C)):Can P w K mg base 5 "wrong_way" ["table","row"] (Ly C):=by
 obtain⟨t1,h1⟩:=G.room;obtain⟨t2,h2⟩:=G.way;have nd:(["table","row","why"]:List Str).Nodup:=by decide +kernel
 refine D.can Et (λvs H Q E h=>?_) λf cdv A outer s H vs Q E hr h=>?_
 ·obtain⟨t,p,x0,x1,x2,x3,x4,fs,d,kvs,rfl,_⟩:=h;rfl
 ·obtain⟨t,p,x0,x1,x2,x3,x4,fs,d,kvs,rfl,tb,hl,hd,hp,hx,k⟩:=h;obtain⟨dx,ht⟩:=id tb.at_;obtain⟨T1,h01⟩:=hx x1 (by simp);obtain⟨T2,h02⟩:=hx x2 (by simp);obtain⟨T3,h03⟩:=hx x3 (by simp);obtain⟨T4,h04⟩:=hx x4 (by simp);have hr2:Room 2 (A.deeper (envOfC "wrong_way" (Zf T.f_wrong_way) s.heap.objs.size f cdv)):=hr.mono (by decide);refine⟨_,Zd (Yl (i:=2) nd rfl (Or.inl rfl) (ZT CE hr rfl (Zg (pv 0) (Zg (Yb Z4 (pv 1) Zc (λ_ _=>rfl)) (Zg (Yb Z4 (pv 1) Zc (λ_ _=>rfl)) Zb))))) (Zd (ZH (ZF JQ (pv 2) ZI (ZE _)) (Zi (Zo (pv 2))) Zv) (Zd (ZH (PW.pt (VA (ZQ (ZD (ZT CI hr2 rfl (Zg (Yb Z4 (pv 1) Zc (λ_ _=>rfl)) (Zg Zc (Zg (ZO (v:=V.int 50) rfl h2 ⟨t2,rfl⟩) Zb)))))) (Jf (ZQ (ZD (ZT CI hr2 rfl (Zg (Yb Z4 (pv 1) Zc (λ_ _=>rfl)) (Zg Zc (Zg (ZO (v:=V.int 1000) rfl h1 ⟨t1,rfl⟩) Zb))))))))) (Zi (Zo Zr)) Zv) (Zi (Zo ZI)))),?_⟩;refine⟨_,rfl,_,rfl,p,_,1,x1,rfl,rfl,SqT.of hp,at0 1 rfl,_,rfl,p,_,2,x2,rfl,rfl,SqT.of hp,at0 2 rfl,t,x1,x2,T1,T2,fs,d,kvs,rfl,tb,hl,hd,h01,h02,?_⟩;unfold wayV at k;refine⟨_,rfl,rfl,_,rfl,?_⟩;refine ite2 (λe=>?_) (λe=>?_)
  ·have e':YI kvs x1 x2≠.non:=by simpa using e
   rw[if_pos e']at k;exact⟨_,rfl,k⟩
  ·have e':¬YI kvs x1 x2≠.non:=by simpa using e
   rw[if_neg e']at k;refine⟨_,rfl,p,_,3,x3,rfl,rfl,SqT.of hp,at0 3 rfl,x3,T3,1,50,rfl,h03,_,rfl,?_⟩;refine ite2 (λe2=>?_) (λe2=>?_)
   ·rw[if_pos (by rw[e2];rfl)]at k;exact iteT k
   ·have w1:K1.Zu x3 1 50=true:=by simpa using e2
    rw[w1]at k;refine⟨_,rfl,p,_,4,x4,rfl,rfl,SqT.of hp,at0 4 rfl,x4,T4,0,1000,rfl,h04,_,rfl,?_⟩;refine ite2 (λe3=>?_) (λe3=>?_)
    ·rw[if_pos (by rw[e3];rfl)]at k;exact k
    ·have w2:K1.Zu x4 0 1000=true:=by simpa using e3
     rw[w2,if_neg (by decide)]at k;exact k
def RD(C:Addr):Sp:=λvs H Q _=>∃t p x0 x1 x2 x3 fs d kvs n pa,vs=[.ref t,.ref p,.int pa]/\Tab H C t fs/\fs.lookup ("room_by_place":Str)=some (.ref d)/\fs.lookup ("turns":Str)=some (.int n)/\H d=some (.dK kvs) /\H p=some (.tup [x0,x1,x2,x3])/\(∀x∈[x0,x1,x2,x3],∃T,Th H x T)/\Q (YZ kvs n pa x1 x2 x3) H
theorem KN:FnScope ["table","row","people_ahead"] ["table","row","people_ahead"] (Zf T.f_wrong_group):=⟨rfl,rfl,rfl,by decide +kernel,rfl,by decide +kernel,by decide +kernel⟩
theorem QU(G:Txt K mg)(Z:TCl K C)(D:Df K mg "wrong_group" T.f_wrong_group ["table","row","people_ahead"])(CI:Can P w K mg base 2 "is_within" ["thing","low","high"] K1.YM)(CP:CanM P w K mg base CX0 2 C "is_place" ["self","thing"] (Xh C "room_by_place")):Can P w K mg base 3 "wrong_group" ["table","row","people_ahead"] (RD C):=by
 obtain⟨t1,h1⟩:=G.people;refine D.can KN (λvs H Q E h=>?_) λf cdv A outer s H vs Q E hr h=>?_
 ·obtain⟨t,p,x0,x1,x2,x3,fs,d,kvs,n,pa,rfl,_⟩:=h;rfl
 ·obtain⟨t,p,x0,x1,x2,x3,fs,d,kvs,n,pa,rfl,tb,hl,hn,hd,hp,hx,k⟩:=h;obtain⟨dx,ht⟩:=id tb.at_;obtain⟨T1,h01⟩:=hx x1 (by simp);obtain⟨T2,h02⟩:=hx x2 (by simp);obtain⟨T3,h03⟩:=hx x3 (by simp);refine⟨_,Zd (ZH (ZQ (ZD (ZW CP Z.cl Z1 hr (pv 0) (Zg (Yb Z4 (pv 1) Zc (λ_ _=>rfl)) Zb)))) (Zi (Zo Zr)) Zv) (Zd (ZH (ZQ (ZD (ZT CI hr rfl (Zg (Yb Z4 (pv 1) Zc (λ_ _=>rfl)) (Zg Zc (Zg (ZL (pv 0) rfl) Zb)))))) (Zi (Zo Zr)) Zv) (Zd (ZH (ZQ (ZD (ZT CI hr rfl (Zg (Yb Z4 (pv 1) Zc (λ_ _=>rfl)) (Zg Zc (Zg (ZO (v:=V.int 300) rfl h1 ⟨t1,rfl⟩) Zb)))))) (Zi (Zo Zr)) Zv) (Zd (ZH (ZF WI (Zx Z3 (pv 2) (Yb Z4 (pv 1) Zc (λ_ _=>rfl))) (ZO (v:=V.int 300) rfl h1 ⟨t1,rfl⟩) (ZE _)) (Zi (Zo Zr)) Zv) (Zi (Zo ZI))))),?_⟩;unfold YZ at k;refine⟨_,rfl,t,dx,fs,rfl,ht,tb.only _ (by decide +kernel),_,rfl,p,_,1,x1,rfl,rfl,SqT.of hp,at0 1 rfl,t,x1,T1,fs,d,kvs,rfl,tb,hl,hd,h01,_,rfl,?_⟩;refine ite2 (λe=>?_) (λe=>?_)
  ·rw[if_pos e]at k;exact k
  rw[if_neg e]at k;refine⟨_,rfl,p,_,2,x2,rfl,rfl,SqT.of hp,at0 2 rfl,_,rfl,t,C,dx,fs,_,rfl,ht,Z.cl,Z.na _ (by simp[fields]),hn,x2,T2,0,n,rfl,h02,_,rfl,?_⟩;refine ite2 (λe2=>?_) (λe2=>?_)
  ·rw[if_pos e2]at k;exact k
  rw[if_neg e2]at k;refine⟨_,rfl,p,_,3,x3,rfl,rfl,SqT.of hp,at0 3 rfl,x3,T3,0,300,rfl,h03,_,rfl,?_⟩;refine ite2 (λe3=>?_) (λe3=>?_)
  ·cases x3 with
  |int i=>have k':Q (if(!K1.Zu (.int i) 0 300)=true then V.str "number" else if pa+i>300 then .str "people" else .non) H:=k;rw[if_pos e3]at k';exact k'
  |_=>exact k
  ·obtain⟨i,rfl⟩:∃i,x3=.int i:=by
    cases x3 with
   |int i=>exact⟨i,rfl⟩
   |_=>exact absurd rfl e3
   have k':Q (if(!K1.Zu (.int i) 0 300)=true then V.str "number" else if pa+i>300 then .str "people" else .non) H:=k;rw[if_neg e3]at k';refine⟨_,rfl,_,rfl,p,_,3,_,rfl,rfl,SqT.of hp,at0 3 rfl,_,_,rfl,rfl,_,_,rfl,rfl,_,rfl,?_⟩;refine ite2 (λe4=>?_) (λe4=>?_)
   ·rw[if_pos (by simpa using e4)]at k';exact k'
   ·rw[if_neg (by simpa using e4)]at k';exact k'
end
end TB
namespace L2
open PySem PySem.Spec PyProof.Rows
theorem sameNew{l:Addr}{H H1:Hp}{o:HO}(x:Same H H1)(hl:H1 l=none):Same H (upd H1 l o):=λc u h=>by rw[Zj (Zk (x c u h) hl)];exact x c u h
theorem nl{c:Addr}{H:Hp}{o:HO}{G:Hp->Prop}(h:H c=none)(k:∀H',Same H H'->H' c=some o->G H'):G (upd H c o):=k _ (sameNew (λ_ _ e=>e) h) Ze
theorem nl2{c:Addr}{H:Hp}{o:HO}{R:Type}{q:R}{G:Hp->R->Prop}(h:H c=none)(k:∀H',Same H H'->H' c=some o->G H' q):G (upd H c o) q:=nl (G:=λH=>G H q) h k
theorem Rl:∀{cs:List String}{us:List Value},Vals (cs.map V.ty) us->us=cs.map Value.type
|[],_,h=>by cases h;rfl
|c::cs,_,h=>by
  cases h with
 |cons r t=>have e:=Rl t;cases(show _=Value.type c from r);rw[e];rfl
section
variable {X:Cx}
theorem Nc:YK X (.builtin "isinstance") (λxs H Q=>∃(x:V)(p:Addr)(cs:List String)(T:String)(b:Bool),xs=[x,.ref p]/\Th H x T/\H p=some (.tup (cs.map V.ty))/\PySem.W.kitAny X.K (.type T) (cs.map Value.type)=some b/\Q (.bl b) H):=by
 intro pins s σ H xs us Q I r h;obtain⟨x,p,cs,T,b,rfl,th,hp,e,q⟩:=h;obtain⟨u,w',rfl,ru,rw'⟩:=vals2 r;cases(show w'=Value.ref p from rw');obtain⟨_,its,rv,⟨oc,od,odt,osl⟩,h1,hc,n,hdt⟩:=(show ZG X.prog X.w H s.heap p (.tup (cs.map V.ty))from I.hok p _ hp);have ei:=Rl rv;subst ei;obtain rfl:oc=.type "tuple":=hc;obtain rfl:odt=.seq (cs.map Value.type).toArray n:=hdt;have fin:∀tk,EP X pins σ Q (.bool b) {s with toks:=tk}:=λtk=>⟨.bl b,H,I.tok tk,rfl,q⟩;cases th with
|non=>cases(show u=Value.none from ru);exact PySem.W.kia_tup PySem.W.kitx_none I.kIn True.intro h1 e (λz=>nomatch z) fin
|bl y=>cases(show u=Value.bool y from ru);exact PySem.W.kia_tup PySem.W.kitx_bool I.kIn True.intro h1 e (λz=>nomatch z) fin
|int i=>obtain⟨t,z⟩:=(show ∃t,u=Value.int i t from ru);cases z;exact PySem.W.kia_tup PySem.W.kitx_int I.kIn True.intro h1 e (λz=>nomatch z) fin
|str y _=>obtain⟨t,z⟩:=(show ∃t,u=Value.str y t from ru);cases z;exact PySem.W.kia_tup PySem.W.kitx_str I.kIn True.intro h1 e (λz=>nomatch z) fin
|@lst a xs ea=>cases(show u=Value.ref a from ru);obtain⟨_,_,n',_,h2⟩:=(show ZG X.prog X.w H s.heap a (.lst xs)from I.hok a _ ea);exact PySem.W.kia_tup PySem.W.kitx_list I.kIn ⟨_,h2,rfl⟩ h1 e (λz=>nomatch z) fin
|@tup a xs ea=>cases(show u=Value.ref a from ru);obtain⟨_,_,_,o,h2,h3,_⟩:=(show ZG X.prog X.w H s.heap a (.tup xs)from I.hok a _ ea);exact PySem.W.kia_tup PySem.W.kitx_tuple I.kIn ⟨o,h2,h3⟩ h1 e (λz=>nomatch z) fin
|@dK a kvs ea=>cases(show u=Value.ref a from ru);obtain⟨_,_,vs,_,o,es,ep,h2,h3,_⟩:=(show ZG X.prog X.w H s.heap a (.dK kvs)from I.hok a _ ea);exact PySem.W.kia_tup PySem.W.kitx_dict I.kIn ⟨o,h2,h3.1⟩ h1 e (λz=>nomatch z) fin
end
theorem Th.kitLT{K:PySem.W.Frag}{H:Hp}{v:V}{T:String}(h:Th H v T):PySem.W.kitAny K (.type T) (["list","tuple"].map Value.type)=some (decide (T="list"\/T="tuple")):=by cases h<;>(first|kernel_rfl|(unfold PySem.W.kitAny;rfl))
end L2
namespace TB
open PySem L2 PySem.Spec PyProof.Rows
structure Mosts(K:PySem.W.Frag)(w:World)(mg:Str->Option Value):Prop where
 at_:∃a,mg "MOST_ROWS"=some (.ref a)/\Xw K w a "places" (.int 14)/\Xw K w a "rides" (.int 80)/\Xw K w a "ways" (.int 40)/\Xw K w a "groups" (.int 300)
noncomputable def U9:List (Str×Nat):=[("places",14),("rides",80),("ways",40),("groups",300)]
def Part(H:Hp)(v:V)(r:Option (List V)):Prop:=match r with
|none=>∃T,Th H v T/\T≠"list"/\T≠"tuple"
|some xs=>∃p,v=.ref p/\(H p=some (.lst xs)\/H p=some (.tup xs))
def Qq(C:Addr):Sp:=λvs H Q E=>∃z n v r,vs=[.str z,v]/\(z,n)∈U9/\Part H v r/\match r with
|none=>∀H1,Same H H1->Bad C (.str z) .non (.str "form") H1 E
|some xs=>if xs.length>n then ∀H1,Same H H1->Bad C (.str z) (.int n) (.str "many") H1 E else ∀H1 l,Same H H1->H1 l=some (.tup xs)->Q (.ref l) H1
section
variable {P:Program}{w:World}{K:PySem.W.Frag}{mg:Str->Option Value}{base:Heap}{C:Addr}
theorem Dh:FnScope ["part","rows"] ["part","rows"] (Zf T.f_rows_of):=⟨rfl,rfl,rfl,by decide +kernel,rfl,by decide +kernel,by decide +kernel⟩
theorem Kg(G:Txt K mg)(M:Mosts K w mg)(B:Err P w K mg base "BadTable" ["part","at","why"] C)(D:Df K mg "rows_of" T.f_rows_of ["part","rows"]):CanX P w K mg base 3 "rows_of" ["part","rows"] (Qq C):=by
 obtain⟨aM,hM,k1,k2,k3,k4⟩:=M.at_;refine D.canX Dh (λvs H Q E h=>?_) λf cdv A outer s H vs Q E hr h=>?_
 ·obtain⟨z,n,v,r,rfl,_⟩:=h;rfl
 ·obtain⟨z,n,v,r,rfl,hz,hp,h⟩:=h;have hK:Xw K w aM z (.int n):=by simp only[U9,List.mem_cons,Prod.mk.injEq,List.not_mem_nil,or_false]at hz;rcases hz with⟨rfl,rfl⟩|⟨rfl,rfl⟩|⟨rfl,rfl⟩|⟨rfl,rfl⟩<;>assumption
  refine⟨_,Zd (ZH (ZQ (ZD (ZC Nc rfl G.isi PyProof.Rows.boot_isinstance (Zg (pv 1) (Zg (Zy (Zg (Jj (v:=V.ty "list") rfl G.lst Jr rfl) (Zg (Jj (v:=V.ty "tuple") rfl G.tup YF rfl) Zb))) Zb))))) (Zi (XY (E:=E) B Y6 rfl hr rfl (Zg (pv 0) (Zg ZI (Zg Zr Zb))))) Zv) (Zd (ZH (ZF WI (ZC Jq rfl G.len PySem.boot_len (Zg (pv 1) Zb)) (NI (ZO (v:=V.ref aM) rfl hM rfl) (pv 0) (λ_ _=>rfl)) (ZE _)) (Zi (XY (E:=E) B Y6 rfl hr rfl (Zg (pv 0) (Zg (NI (ZO (v:=V.ref aM) rfl hM rfl) (pv 0) (λ_ _=>rfl)) (Zg Zr Zb))))) Zv) (Zi (Zo (Yh Y5 rfl G.tup YF (Zg (pv 1) Zb))))),?_⟩;cases r with
 |none=>obtain⟨T',th,n1,n2⟩:=hp;refine⟨_,rfl,by show 2<=sizeLine;decide,λl hl=>?_⟩;have sm:Same H (upd H l (.tup [V.ty "list",V.ty "tuple"])):=sameNew (Same.refl H) hl;refine⟨v,l,["list","tuple"],T',_,rfl,th.same sm,Ze ..,(th.same sm).kitLT,_,rfl,?_⟩;rw[decide_eq_false (by simp[n1,n2])];refine iteT ?_;exact⟨_,rfl,rfl,h _ sm⟩
 |some xs=>
   obtain⟨p,rfl,hp⟩:=hp;obtain⟨T',th,hT⟩:∃T',Th H (.ref p) T'/\(T'="list"\/T'="tuple"):=by
    rcases hp with hp|hp
    ·exact⟨_,.lst hp,.inl rfl⟩
    ·exact⟨_,.tup hp,.inr rfl⟩
   refine⟨_,rfl,by show 2<=sizeLine;decide,λl hl=>?_⟩;have sm:Same H (upd H l (.tup [V.ty "list",V.ty "tuple"])):=sameNew (Same.refl H) hl;refine⟨.ref p,l,["list","tuple"],T',_,rfl,th.same sm,Ze ..,(th.same sm).kitLT,_,rfl,?_⟩;rw[decide_eq_true hT];refine iteF ?_;generalize upd H l (.tup [V.ty "list",V.ty "tuple"])=H1 at sm ⊢;have hs:SqL K H1 p xs\/SqT K H1 p xs:=by
    rcases hp with hp|hp
    ·exact .inl (SqL.of (sm _ _ hp))
    ·exact .inr (SqT.of (sm _ _ hp))
   refine⟨_,rfl,p,xs,rfl,hs,_,rfl,aM,z,.int n,rfl,rfl,hK,_,_,rfl,rfl,_,rfl,?_⟩;dsimp only at h;refine ite2 (λe=>?_) (λe=>?_)
   ·have e':xs.length>n:=by simpa using e
    rw[if_pos e']at h;exact⟨_,rfl,_,rfl,aM,z,.int n,rfl,rfl,hK,rfl,h _ sm⟩
   ·have e':¬xs.length>n:=by simpa using e
    rw[if_neg e']at h;refine⟨_,rfl,p,xs,rfl,?_⟩;rcases hp with hp|hp
    ·exact .inl ⟨SqL.of (sm _ _ hp),λl2 hl2=>h _ l2 (sameNew sm hl2) (Ze ..)⟩
    ·exact .inr ⟨SqT.of (sm _ _ hp),h _ p sm (sm _ _ hp)⟩
end
end TB
namespace L2
open PySem PySem.Spec PyProof.Rows
open AutoSeq1 (wpAny_loadPart')
section
variable {prog:Program}{w:World}{A:Around}{E:Value->Shared->Prop}{s:Shared}
theorem K8{it t:Addr}{i:Nat}{items:Array Value}{x:Value}{Q:Value->Shared->Prop}(hit:s.heap.IsTupleIter it t i)(ht:s.heap.IsTuple t items)(hx:items[i]?=some x)(hQ:∀h',h'.IsTupleIter it t (i+1)->Heap.SameBut it s.heap h'->Q x {s with heap:=h'}):wpAny (model prog w) A (Builtin.SmallTypes.nextOf (.ref it)) Q E s:=by obtain⟨o,ho,hc,hd⟩:=id hit;obtain⟨ol,hol,_,nl,hdl⟩:=id ht;unfold Builtin.SmallTypes.nextOf;refine wpAny_bind (wpAny_callSpecial?_slot (name:=Str.ofString "__next__") hit.typeIs F.slot_tuple_iterator_next (wpAny_call_entry F.slot_tuple_iterator_next hit.typeIs F.entry_tuple_iterator_next ?_ (F.args_tuple_iterator_next_1 _)));show wpAny (model prog w) _ (field (.ref it) 0 >>= _) _ _ s;refine wpAny_bind (wpAny_field (x:=.ref t) ho hd rfl ?_);show wpAny (model prog w) _ (if(Value.ref t==Value.none)=true then _ else _) _ _ s;rw[if_neg (by exact Bool.false_ne_true)];show wpAny (model prog w) _ (field (.ref it) 1 >>= _) _ _ s;refine wpAny_bind (wpAny_field (x:=.int i 0) ho hd rfl ?_);show wpAny (model prog w) _ (seqItems? (.ref t) >>= _) _ _ s;refine wpAny_bind (wpAny_seqItems hol hdl ?_);simp only[hx,Int.toNat_natCast];refine wpAny_bind (wpAny_setField ho hd (by simp) (wpAny_pure ⟨x,rfl,wpAny_pure (hQ _ ⟨_,Heap.get?_update_self _ ho (Obj.isFreed_of_fields (Obj.data_mapFields hd _)),(Obj.cls_mapFields ..).trans hc,by rw[Obj.data_mapFields hd];simp[rawInt]⟩ (Heap.SameBut.update ..))⟩))
theorem WL{it t:Addr}{i:Nat}{items:Array Value}{Q:Value->Shared->Prop}(hh:A.handled=none)(hit:s.heap.IsTupleIter it t i)(ht:s.heap.IsTuple t items)(hx:items[i]?=none)(hE:∀h' e,Heap.ExtBut it s.heap h'->(∃o,h'.get? e=some o/\o.cls=.type "StopIteration")->E (.ref e) {s with heap:=h'}):wpAny (model prog w) A (Builtin.SmallTypes.nextOf (.ref it)) Q E s:=by
 obtain⟨o,ho,hc,hd⟩:=id hit;obtain⟨ol,hol,_,nl,hdl⟩:=id ht;unfold Builtin.SmallTypes.nextOf;refine wpAny_bind (wpAny_callSpecial?_slot (name:=Str.ofString "__next__") hit.typeIs F.slot_tuple_iterator_next (wpAny_call_entry F.slot_tuple_iterator_next hit.typeIs F.entry_tuple_iterator_next ?_ (F.args_tuple_iterator_next_1 _)));show wpAny (model prog w) _ (field (.ref it) 0 >>= _) _ _ s;refine wpAny_bind (wpAny_field (x:=.ref t) ho hd rfl ?_);show wpAny (model prog w) _ (if(Value.ref t==Value.none)=true then _ else _) _ _ s;rw[if_neg (by exact Bool.false_ne_true)];show wpAny (model prog w) _ (field (.ref it) 1 >>= _) _ _ s;refine wpAny_bind (wpAny_field (x:=.int i 0) ho hd rfl ?_);show wpAny (model prog w) _ (seqItems? (.ref t) >>= _) _ _ s;refine wpAny_bind (wpAny_seqItems hol hdl ?_);simp only[hx,Int.toNat_natCast];refine wpAny_bind (wpAny_rule (wpAny_bind (wpAny_setField ho hd (by simp) ?_)));show wpAny (model prog w) _ (newExc (.type "StopIteration") [] >>= _) _ _ _;refine wpAny_bind ?_;simp only[newTuple,newExc];refine wpAny_bind (wpAny_newObj_type (wpAny_bind (m:=firstArgMember _ _) (wpAny_of_eq (a:=Value.none) (by first|rfl|(simp only[firstArgMember];rfl)) (wpAny_newObj_type ?_ (by size_fits)))) (by size_fits))
 simp only[raiseNew];refine wpAny_bind (wpAny_handled ?_);first|rw[show A.in1.handled=none from hh]|rw[hh]
 refine wpAny_bind (wpAny_pure (wpAny_throw ?_));exact hE _ _ (((Heap.SameBut.update ..).extBut.push _).push _) ⟨_,Heap.get?_push_size _ rfl,rfl⟩
end
theorem MZ{prog:Program}{w:World}{A:Around}(hh:A.handled=none)(it t:Addr)(hne:t≠it)(items:Array Value):
  Draws prog w A it [it,t] items.size (λi v=>items[i]?=some v) (λi h=>h.IsTupleIter it t i/\h.IsTuple t items) where
 live:=λ_ _ st=>by obtain⟨⟨o,ho,_⟩,_⟩:=st;exact⟨o,ho⟩
 frame:=λ_ _ _ st hk=>by
  obtain⟨⟨o,ho,r⟩,⟨o2,ho2,r2⟩⟩:=st
  exact⟨⟨o,hk it (by simp) o ho,r⟩,⟨o2,hk t (by simp) o2 ho2,r2⟩⟩
 item:=λi s Q E hi st hQ=>K8 st.1 st.2 (x:=items[i]) (by simp[hi]) λh' hit' hs'=>hQ _ h' s.toks (by simp[hi]) ⟨hit',st.2.extBut hs'.extBut hne⟩ hs'
 done:=λs Q E st hE=>WL hh st.1 st.2 (by simp) hE
theorem Td(l:Addr)(items:Array Value)(n:Nat)(dct:Option Addr)(sl:Array (Option Value)):Meets (Builtin.«enumerate.__new__» ⟨[.type "enumerate",.ref l],[]⟩) (λ_ R s=>s.heap.get? l=some {cls:=.type "tuple",dict:=dct,data:=.seq items n,slots:=sl} /\R (.ok (.ret (.ref (s.heap.push {cls:=.type "tuple_iterator",data:=.fields #[.ref l,.int 0 0]}).objs.size))) {s with heap:=(s.heap.push {cls:=.type "tuple_iterator",data:=.fields #[.ref l,.int 0 0]}).push {cls:=.type "enumerate",data:=.fields #[.none,.bool false,.ref s.heap.objs.size,rawInt 0,.none,.none]}}):=.of_wp λprog w A R s h=>by
  obtain⟨hp,g,d,tk,os⟩:=s;obtain⟨hl,h⟩:=h;have hsub:=sub_enumerate;have hT:Heap.IsTuple (Shared.heap ⟨hp,g,d,tk,os⟩) l items:=⟨_,hl,rfl,n,rfl⟩;wp_walk using wpAny_loadPart' hl;refine wpAny_stack_any λst=>wpAny_pure ?_;split
  ·rename_i c _ _ _ _ _;cases(c==Value.type "enumerate")<;>(wp_walk using wpAny_loadPart' hl,wpAny_pyIter_tuple hT;exact⟨_,rfl,h⟩)
  ·wp_walk using wpAny_loadPart' hl,wpAny_pyIter_tuple hT;exact⟨_,rfl,h⟩
theorem Q8{prog:Program}{w:World}{A:Around}{E:Value->Shared->Prop}{s:Shared}{l:Addr}{items:Array Value}{Q:Value->Shared->Prop}(hL:s.heap.IsTuple l items)(h:∀h',IsEnum h' (s.heap.objs.size+1) s.heap.objs.size 0 .none->h'.IsTupleIter s.heap.objs.size l 0->(∀b o,s.heap.get? b=some o->h'.get? b=some o)->Q (.ref (s.heap.objs.size+1)) {s with heap:=h'}):wpAny (model prog w) A (call (.type "enumerate") [.ref l]) Q E s:=by
 obtain⟨⟨c,dct,dt,sl⟩,hl,hc,n,hd⟩:=hL;simp only at hc hd;subst hc hd;refine callType_new F.called_enumerate (by decide) (F.typeCall_enumerate_1 _) (F.newCall_enumerate_1 _) (λobj=>F.args_object_init_2 obj _) F.entry_enumerate_new (Td l items n dct sl) ⟨hl,?_⟩;have hz:(s.heap.push {cls:=.type "tuple_iterator",data:=.fields #[.ref l,.int 0 0]}).objs.size=s.heap.objs.size+1:=Heap.size_push ..;show _/\_;rw[hz];have he:IsEnum ((s.heap.push {cls:=.type "tuple_iterator",data:=.fields #[.ref l,.int 0 0]}).push {cls:=.type "enumerate",data:=.fields #[.none,.bool false,.ref s.heap.objs.size,rawInt 0,.none,.none]}) (s.heap.objs.size+1) s.heap.objs.size 0 .none:=by have:=Heap.get?_push_size (s.heap.push {cls:=.type "tuple_iterator",data:=.fields #[.ref l,.int 0 0]}) (o:={cls:=.type "enumerate",data:=.fields #[.none,.bool false,.ref s.heap.objs.size,rawInt 0,.none,.none]}) rfl;rwa [hz]at this
 exact⟨⟨_,he,rfl⟩,h _ he ⟨_,Heap.get?_push_of_some _ (Heap.get?_push_size _ rfl),rfl,rfl⟩ λb o x=>Heap.get?_push_of_some _ (Heap.get?_push_of_some _ x)⟩
noncomputable def Iten(l:Addr):It:=⟨λi H=>∃xs,H l=some (.tup xs)/\i<xs.length,λi H x H'=>∃(T:Addr)(xs:List V)(y:V),H T=none/\H l=some (.tup xs)/\xs[i]?=some y/\x=.ref T/\H'=upd H T (.tup [.int i,y]),λi H=>∃xs,H l=some (.tup xs)/\i=xs.length⟩
theorem Ql{P:Program}{w:World}{K:PySem.W.Frag}{es:List Expr}{k:Nat}{pt:Pos}(l e it:Addr)(hei:e≠it)(hle:l≠e)(hli:l≠it):
  Turn P w K (.Tuple es k pt) (Iten l) [e,it] e (λi h=>(∃old,IsEnum h e it i old)/\h.IsTupleIter it l i) where
 mem:=by simp
 obj:=λi h st b hb=>by
  obtain⟨⟨old,he⟩,o,ho,c,d⟩:=st
  have hb':b=e\/b=it:=by simpa using hb
  rcases hb' with rfl|rfl
  ·exact⟨_,he,λv z=>by cases z⟩
  ·exact⟨o,ho,λv z=>by rw[d]at z;cases z⟩
 keep:=λi h h' st kk=>by
  obtain⟨⟨old,he⟩,o,ho,r⟩:=st
  exact⟨⟨old,kk e (by simp) _ he⟩,o,kk it (by simp) o ho,r⟩
 item:=by
  intro X hP hw hK hc i pins s σ H E I hf st hg
  subst hP hw hK
  obtain⟨xs,hx,hi⟩:=hg
  obtain⟨⟨old,he⟩,hs⟩:=st
  obtain⟨its,rv,pl,_⟩:=I.tuple (SqT.of hx)
  have hlen:=rv.length
  have D:=MZ (prog:=X.prog) (w:=X.w) (A:=X.A.in1) (I.ok.hd hc) it l hli its.toArray
  have W:=WalksT.enumerateD D e hei (by simp[hei,Ne.symm hle]) (by simp)
  refine W.item i s _ _ (by simp only[List.size_toArray];omega) ⟨⟨old,he⟩,hs,pl⟩ λT vals h' tk hv hT ht hm kk=>?_
  obtain⟨tk',u,hu,rfl⟩:=hv
  obtain⟨y,hy⟩:∃y,xs[i]?=some y:=⟨xs[i],List.getElem?_eq_getElem hi⟩
  obtain⟨u2,hu2,ru⟩:=rv.get hy
  have hu':its[i]?=some u:=by simpa using hu
  rw[hu']at hu2;cases hu2
  refine⟨_,rfl,?_⟩
  refine W.go es k pt i T {s with heap:=h',toks:=tk} _ _ hm λh2 st2 kk2=>?_
  have hTn:H T=none:=I.hok.fresh hT
  have hap:=W.apart i T h' hm
  have hb2:∀b,b∉[e,it]->∀o,s.heap.get? b=some o->h2.get? b=some o:=λb hb o q=>kk2 b o hb (kk b o hb q)
  have nb:∀b u,H b=some u->b∉[e,it]:=λb u q hb=>by rw[(hf b hb).1]at q;cases q
  have I1:Inv X pins σ (upd H T (.tup [.int i,y])) {s with heap:=h2,toks:=tk}:=by
   refine I.step (g':=s.gens) (d':=s.drawn) (ch:=[e,it]) (λb hb=>?_) (λb o _ _ hb q _=>hb2 b hb o q) (λb o _ _ hb q _=>⟨o.slots,hb2 b hb o q⟩)
    (λb o hb q n=>?_) (λb o hb q=>⟨o,hb2 b hb o q⟩) (λb xs q=>?_) (λb o u q=>?_) (λb ps q=>?_) (λm hm=>?_) ?_ I.bare
   ·obtain⟨g0,g1,g2,g3,g4,g5⟩:=hf b hb
    exact⟨g3,g1,g4,g5⟩
   ·rw[Zj (Nat.ne_of_lt (Nat.lt_of_lt_of_le (Heap.lt_size q) hT))];exact n
   ·rw[Zj (Zk q hTn)];exact q
   ·rw[Zj (Zk q hTn)];exact q
   ·exact⟨#[],by rw[Zj (Zk q hTn),q];simp⟩
   ·obtain⟨o,es',ep,ho,r⟩:=hm
    refine⟨o,es',ep,hb2 _ ?_ o ho,r⟩
    intro hb
    obtain⟨g0,g1,_⟩:=hf _ hb
    exact g1 rfl
   ·intro b ob q
    by_cases hb:b=T
    ·subst hb
     rw[Ze]at q
     cases q
     obtain⟨o,h1,h2',h3⟩:=ht
     exact⟨by show 2<=sizeLine;decide,[.int i tk',u],.cons ⟨_,rfl⟩ (.cons ru .nil),⟨o,kk2 _ _ hap h1,h2',h3⟩⟩
    ·rw[Zj hb]at q
     refine(I.hok b ob q).stay (λc' v hc' q'=>hb2 c' ?_ v q') (λc' q'=>by rw[Zj (Zk q' hTn)];exact q') λc' xs q'=>by rw[Zj (Zk q' hTn)];exact q'
     rcases hc' with rfl|hc'
     ·exact nb _ _ q
     ·exact nb _ _ hc'
  refine⟨.ref T,_,I1,rfl,⟨T,xs,y,hTn,hx,hy,rfl,rfl⟩,⟨st2.1,st2.2.1⟩,λb hb=>?_⟩
  rw[Zj]
  ·exact(hf b hb).1
  ·rintro rfl
   exact hap hb
 done:=by
  intro X hP hw hK hc i pins s σ H E I hf st hg
  subst hP hw hK
  obtain⟨xs,hx,hi⟩:=hg
  obtain⟨⟨old,he⟩,hs⟩:=st
  obtain⟨its,rv,pl,_⟩:=I.tuple (SqT.of hx)
  have hlen:=rv.length
  have D:=MZ (prog:=X.prog) (w:=X.w) (A:=X.A.in1) (I.ok.hd hc) it l hli its.toArray
  have W:=WalksT.enumerateD D e hei (by simp[hei,Ne.symm hle]) (by simp)
  have ei:i=its.toArray.size:=by simp only[List.size_toArray];omega
  subst ei
  refine W.done s _ _ ⟨⟨old,he⟩,hs,pl⟩ λh' tk kk=>⟨rfl,?_⟩
  have nb:∀b u,H b=some u->b∉[e,it]:=λb u q hb=>by rw[(hf b hb).1]at q;cases q
  refine I.step (g':=s.gens) (d':=s.drawn) (ch:=[e,it]) (λb hb=>?_) (λb o _ _ hb q _=>kk b o hb q) (λb o _ _ hb q _=>⟨o.slots,kk b o hb q⟩)
   (λb o hb q n=>n) (λb o hb q=>⟨o,kk b o hb q⟩) (λb xs q=>q) (λb o u q=>q) (λb ps q=>⟨#[],by rw[q];simp⟩) (λm hm=>?_) (λb u q=>?_) I.bare
  ·obtain⟨g0,g1,g2,g3,g4,g5⟩:=hf b hb
   exact⟨g3,g1,g4,g5⟩
  ·obtain⟨o,es',ep,ho,r⟩:=hm
   refine⟨o,es',ep,kk _ o ?_ ho,r⟩
   intro hb
   obtain⟨g0,g1,_⟩:=hf _ hb
   exact g1 rfl
  ·refine(I.hok b u q).stay (λc' v hc' q'=>kk c' v ?_ q') (λ_ q'=>q') λ_ _ q'=>q'
   rcases hc' with rfl|hc'
   ·exact nb _ _ q
   ·exact nb _ _ hc'
 self:=λA i s Q E st h=>by
  obtain⟨⟨old,he⟩,_⟩:=st
  exact wpAny_pyIter_enum he h
section
variable {X:Cx}
noncomputable def iEnT(ta:TA):TI:=λσ H R=>ta σ H λvs H1=>∃(l:Addr)(xs:List V),vs=[.ref l]/\H1 l=some (.tup xs)/\R (Iten l) H1
theorem VE{a:Expr}{ta:TA}{p pos pt:Pos}{es:List Expr}{k:Nat}(hg:Gl X "enumerate")(hm:X.mg "enumerate"=none)(ha:PA X [a] ta)(hb:bootBuiltins "enumerate"=some (.type "enumerate"))(hs:starEach [a] X.env=[(false,eval a X.env)]:=by rfl):PI X (.Tuple es k pt) (.Call (.Name "enumerate" p) [a] [] pos) (iEnT ta):=by
 intro pins s σ H R I h;refine Call_ (JE I hg hm hb (PyProof.Rows.callWith_type1 (thn (ha pos pins s σ H _ I h) λus s1⟨vs,H1,I1,r1,q1⟩=>?_) hs rfl));obtain⟨l,xs,e,hx,q⟩:=q1;subst e;cases r1 with
|cons r rr=>
  cases rr;cases r;obtain⟨its,rv,pl,_⟩:=I1.tuple (SqT.of hx);refine Q8 pl λh' he hst kk=>?_;have I2:Inv X pins σ H1 {s1 with heap:=h'}:=I1.kept (t':=s1.toks) kk;refine wpAny_pyIter_enum he ?_;have lt:l<s1.heap.objs.size:=I1.hok.lt hx;refine⟨s1.heap.objs.size+1,[s1.heap.objs.size+1,s1.heap.objs.size],_,_,H1,rfl,I2,Ql l (s1.heap.objs.size+1) s1.heap.objs.size (Nat.succ_ne_self _) (Nat.ne_of_lt (Nat.lt_succ_of_lt lt)) (Nat.ne_of_lt lt),⟨⟨_,he⟩,hst⟩,λb hb=>?_,q⟩;have e:b=s1.heap.objs.size+1\/b=s1.heap.objs.size:=by simpa using hb
  rcases e with e|e<;>subst e
  ·exact I1.fpOk (Nat.le_succ _) (I1.hok.fresh (Nat.le_succ _))
  ·exact I1.fpOk (Nat.le_refl _) (I1.hok.fresh (Nat.le_refl _))
end
theorem Gy:bootBuiltins "enumerate"=some (.type "enumerate"):=by decide +kernel
def tOrX(K:PySem.W.Frag)(ta tb:TE):TE:=λσ H Q=>ta σ H λx H1=>∃k,TruV K x H1 k/\if k=true then Q x H1 else tb σ H1 Q
theorem NH{X:Cx}{a b:Expr}{rest:List Expr}{pos:Pos}{ta tb:TE}(ha:PE X a ta)(hb:PE X (.BoolOp .Or (b::rest) pos) tb):PE X (.BoolOp .Or (a::b::rest) pos) (tOrX X.K ta tb):=by
 intro pins s σ H Q I h;refine BoolOp_or (thn (ha pins s σ H _ I h) λv s1⟨x,H1,I1,r1,k,q1,q2⟩=>?_);refine thn (LX pins s1 σ H1 x v (λk' H'=>H'=H1/\k'=k) I1 r1 ⟨k,q1,rfl,rfl⟩) λc s2⟨H2,I2,e1,e2⟩=>?_;subst e1 e2;cases c with
|false=>exact hb pins s2 σ H2 Q I2 q2
|true=>exact⟨x,H2,I2,r1,q2⟩
def Zh(b:Addr)(H H':Hp):Prop:=∀c o,H c=some o->c≠b->H' c=some o
theorem Zh.refl(b:Addr)(H:Hp):Zh b H H:=λ_ _ h _=>h
theorem Zh.trans{b:Addr}{H H1 H2:Hp}(x:Zh b H H1)(y:Zh b H1 H2):Zh b H H2:=λc o h hc=>y c o (x c o h hc) hc
theorem Zh.upd{b:Addr}{H H1:Hp}{o:HO}(x:Zh b H H1):Zh b H (upd H1 b o):=λc u h hc=>by rw[Zj hc];exact x c u h hc
theorem Zh.of{b:Addr}{H H1:Hp}(x:Same H H1):Zh b H H1:=λc u h _=>x c u h
theorem Th.sameB{H H':Hp}{t C dx:Addr}{fs:List (Str×V)}(ht:H t=some (.ins C dx fs))(s:Zh t H H'){v:V}{T:String}(h:Th H v T):Th H' v T:=by
 cases h with
|non=>exact .non
|bl b=>exact .bl b
|int i=>exact .int i
|str z h=>exact .str z h
|lst e=>exact .lst (s _ _ e (ne_of e ht (by intro z;cases z)))
|tup e=>exact .tup (s _ _ e (ne_of e ht (by intro z;cases z)))
|dK e=>exact .dK (s _ _ e (ne_of e ht (by intro z;cases z)))
theorem JG{J:It}{g:TG}{tb:TS}{D:Ends}{σ:L2.St}{H:Hp}(n:Nat)(Pv:Nat->L2.St->Hp->Prop)(h0:Pv 0 σ H)(hgo:∀i σ H,i<n->Pv i σ H->J.go i H)(hstop:∀σ H,Pv n σ H->J.stop n H)(hs:∀i σ H x H',i<n->Pv i σ H->J.yld i H x H'->g x σ H' λσ2 H2=>tb {D with nx:=Pv (i+1),ct:=Pv (i+1),bk:=D.nx} σ2 H2)(hd:∀σ H,Pv n σ H->D.nx σ H):∃W:Nat->Nat->L2.St->Hp->Prop,(∃m,W 0 m σ H)/\∀i m σ H,W i m σ H ->(J.stop i H/\D.nx σ H)\/(J.go i H/\∃N:L2.St->Hp->Prop,(∀σ' H',N σ' H'->∃m',m'<m/\W (i+1) m' σ' H')/\∀x H',J.yld i H x H'->g x σ H' λσ2 H2=>tb {D with nx:=N,ct:=N,bk:=D.nx} σ2 H2):=by
 refine⟨λi m σ H=>m=n-i/\i<=n/\Pv i σ H,⟨n,rfl,Nat.zero_le _,h0⟩,?_⟩;rintro i m σ H ⟨rfl,hi,p⟩;by_cases hlt:i<n
 ·exact .inr ⟨hgo i σ H hlt p,Pv (i+1),λσ' H' p'=>⟨n-(i+1),by omega,rfl,hlt,p'⟩,λx H' y=>hs i σ H x H' hlt p y⟩
 ·have e:i=n:=by omega
  subst e;exact .inl ⟨hstop σ H p,hd σ H p⟩
end L2
namespace TB
open PySem L2 PySem.Spec PyProof.Rows
theorem Row.sameB{H H':Hp}{t C dx:Addr}{fs:List (Str×V)}(ht:H t=some (.ins C dx fs))(s:Zh t H H'){v:V}{r:Option (List V)}(h:Row H v r):Row H' v r:=by
 cases r with
|none=>obtain⟨T,th,hT⟩:=h;exact⟨T,th.sameB ht s,hT⟩
|some xs=>obtain⟨p,rfl,hp,hx⟩:=h;exact⟨p,rfl,s _ _ hp (ne_of hp ht (by intro z;cases z)),λx hx'=>let ⟨T,th⟩:=hx x hx';⟨T,th.sameB ht s⟩⟩
def Yq(H:Hp)(xs:List V)(rs:List (Option (List V))):Prop:=xs.length=rs.length/\∀(i:Nat)x r,xs[i]?=some x->rs[i]?=some r->Row H x r
noncomputable def Z9:Nat->List (Key×V)->List (Option (List V))->Sum (Nat×V) (List (Key×V))
|_,kvs,[]=>.inr kvs
|i,kvs,r::rs=>
  if begR false 2 kvs r≠.non then .inl (i,begR false 2 kvs r)else match r with
  |some [.str n,room]=>if Z8 room≠.non then .inl (i,Z8 room)else Z9 (i+1) (putK kvs (.inr n) room) rs
  |_=>.inl (i,.str "form")
theorem GY{i:Nat}{kvs:List (Key×V)}{r:Option (List V)}{rs:List (Option (List V))}(h:begR false 2 kvs r≠.non):Z9 i kvs (r::rs)=.inl (i,begR false 2 kvs r):=by unfold Z9;rw[if_pos h]
theorem JJ{g:Bool}{n:Nat}{kvs:List (Key×V)}{r:Option (List V)}(h:begR g n kvs r=.non):∃xs y,r=some xs/\xs.length=n/\xs.getD 0 .non=.str y:=by
 cases r with
|none=>cases h
|some xs=>
  have h':begV g n kvs xs=.non:=h;unfold begV at h';by_cases h1:xs.length≠n
  ·rw[if_pos h1]at h';cases h'
  ·rw[if_neg h1]at h';by_cases h2:Z5 g (xs.getD 0 .non)=false
   ·rw[if_pos h2]at h';cases h'
   ·have h2':Z5 g (xs.getD 0 .non)=true:=by simpa using h2
    unfold Z5 at h2';cases e:xs.getD 0 .non with
   |str y=>exact⟨xs,y,rfl,by omega,e⟩
   |_=>rw[e]at h2';split at h2'<;>cases h2'
def Sl(v:V):Prop:=v=.non\/∃z:Str,v=.str z/\z.length<=1000/\z.length≠0
theorem Sl.tru{K:PySem.W.Frag}{v:V}{H:Hp}(h:Sl v):TruV K v H (decide (v≠.non)):=by
 rcases h with rfl|⟨z,rfl,h1,h2⟩
 ·exact rfl
 ·refine⟨Nat.le_of_lt (Xf h1),?_⟩;rw[decide_eq_true (by intro q;cases q)];simp[h2]
theorem Gz(g:Bool)(n:Nat)(kvs:List (Key×V))(r:Option (List V)):Sl (begR g n kvs r):=by
 cases r with
|none=>exact .inr ⟨_,rfl,by decide +kernel,by decide +kernel⟩
|some xs=>
  show Sl (begV g n kvs xs);unfold begV;split
  ·exact .inr ⟨_,rfl,by decide +kernel,by decide +kernel⟩
  ·split
   ·exact .inr ⟨_,rfl,by decide +kernel,by decide +kernel⟩
   ·split
    ·exact .inr ⟨_,rfl,by decide +kernel,by decide +kernel⟩
    ·exact .inl rfl
section
variable {P:Program}{w:World}{K:PySem.W.Frag}{mg:Str->Option Value}{base:Heap}{C Cb:Addr}
def Rx(C Cb:Addr):Sp:=λvs H Q E=>∃(t l dx:Addr)(xs:List V)(rs:List (Option (List V)))(fs:List (Str×V)),vs=[.ref t,.ref l]/\H t=some (.ins C dx fs)/\(∀g,g∉fields->fs.lookup g=none)/\fs.length<=20/\H l=some (.tup xs)/\xs.length<=1000/\Yq H xs rs /\match Z9 0 [] rs with
|.inl (i,why)=>∀H1,Zh t H H1->Bad Cb (.str "places") (.int i) why H1 E
|.inr kvs=>∀H' d,Zh t H H'->H d=none->d≠t->H' d=some (.dK kvs)->H' t=some (.ins C dx (putF "room_by_place" (.ref d) (putF "places" (.ref l) fs)))->Q .non H'
theorem NB:FnScope ["self","places","at","row"] ["self","places"] (Zf T.m_Table_take_places):=⟨rfl,rfl,rfl,by decide +kernel,rfl,by decide +kernel,by decide +kernel⟩
theorem Tq(Z:TCl K C)(he:mg "enumerate"=none)(D:DfM K C "take_places" "Table.take_places" T.m_Table_take_places ["self","places"])(CB:Can P w K mg base 3 "wrong_beginning" ["part","row","names_ahead"] Jy)(CW:Can P w K mg base 3 "wrong_place" ["row"] Pc)(CR:CanX P w K mg base 3 "refuse_row" ["part","at","why"] (JA Cb)):CanM P w K mg base (CX1 P w) 4 C "take_places" ["self","places"] (Rx C Cb):=by
 refine D.canX NB (λvs H Q E h=>?_) λf cdv A outer s H vs Q E hr h=>?_
 ·obtain⟨t,l,dx,xs,rs,fs,rfl,_⟩:=h;rfl
 ·obtain⟨t,l,dx,xs,rs,fs,rfl,ht,honly,hfs,hl,hlen,hrows,k⟩:=h;refine⟨_,Zd (YQ (pv 0) (pv 1) rfl) (Zd (YQ (pv 0) VI rfl) (Zi (YO PassesOwn.leaving rfl (VE rfl he (Zg (pv 1) Zb) Gy) (Xj rfl (Zt (Zp (i:=2) NB.nd rfl (Or.inl rfl)) (Zt (Zp (i:=3) NB.nd rfl (Or.inl rfl)) Yt))) (Zd (Yz (Xe CR Y6 hr rfl (Zg Zr (Zg (pv 2) (Zg (NH (ZT CB hr rfl (Zg Zr (Zg (pv 3) (Zg (ZL (pv 0) rfl) Zb)))) (Y9 (ZT CW hr rfl (Zg (pv 3) Zb)))) Zb))))) (Zi (XE (Y7 hr) (ZL (pv 0) rfl) (Yb Z4 (pv 3) Zc (λ_ _=>rfl)) (Yb Z4 (pv 3) Zc (λ_ _=>rfl)) rfl)))))),?_⟩;have nP:ZZ K C "places":=Z.na _ (by simp[fields]);have nR:ZZ K C "room_by_place":=Z.na _ (by simp[fields]);have htl:l≠t:=ne_of hl ht (by intro z;cases z);have fl1:(putF "places" (.ref l) fs).length<=21:=by have:=Z6 "places" (V.ref l) fs;omega
  refine⟨_,rfl,_,rfl,t,C,dx,_,rfl,ht,Z.cl,nP,by omega,?_⟩;have s1:Zh t H (upd H t (.ins C dx (putF "places" (.ref l) fs))):=(Zh.refl t H).upd;have t1:upd H t (.ins C dx (putF "places" (.ref l) fs)) t=some (.ins C dx (putF "places" (.ref l) fs)):=Ze;have fr1:∀c,upd H t (.ins C dx (putF "places" (.ref l) fs)) c=none->H c=none/\c≠t:=λc e=>by
   by_cases h:c=t
   ·rw[h,Ze]at e;cases e
   ·rw[Zj h]at e;exact⟨e,h⟩
  generalize upd H t (.ins C dx (putF "places" (.ref l) fs))=H1 at s1 t1 fr1 ⊢;refine λd hd=>⟨_,rfl,t,C,dx,_,rfl,(by rw[Zj (Zk t1 hd)];exact t1),Z.cl,nR,by omega,?_⟩;obtain⟨hd0,hdt⟩:=fr1 d hd;have s2:Zh t H (upd (upd H1 d (.dK [])) t (.ins C dx (putF "room_by_place" (.ref d) (putF "places" (.ref l) fs)))):=λc o h hc=>by rw[Zj hc,Zj (λz=>by rw[z,hd0]at h;cases h)];exact s1 c o h hc
  have t2:upd (upd H1 d (.dK [])) t (.ins C dx (putF "room_by_place" (.ref d) (putF "places" (.ref l) fs))) t=some (.ins C dx (putF "room_by_place" (.ref d) (putF "places" (.ref l) fs))):=Ze;have d2:upd (upd H1 d (.dK [])) t (.ins C dx (putF "room_by_place" (.ref d) (putF "places" (.ref l) fs))) d=some (.dK []):=by rw[Zj hdt,Ze]
  have lk:(putF "room_by_place" (.ref d) (putF "places" (.ref l) fs)).lookup ("room_by_place":Str)=some (.ref d):=by rw[Zl,if_pos rfl]
  generalize upd (upd H1 d (.dK [])) t (.ins C dx (putF "room_by_place" (.ref d) (putF "places" (.ref l) fs)))=H2 at s2 t2 d2 ⊢;have kk:∀res,Z9 0 [] rs=res->(match res with
  |.inl (i,why)=>∀H1,Zh t H H1->Bad Cb (.str "places") (.int i) why H1 E
  |.inr kvs=>∀H' d,Zh t H H'->H d=none->d≠t->H' d=some (.dK kvs)->H' t=some (.ins C dx (putF "room_by_place" (.ref d) (putF "places" (.ref l) fs)))->Q .non H'):=λres e=>by rw[<-e];exact k
  clear k;refine⟨_,rfl,l,xs,rfl,s2 _ _ hl htl,JG (J:=Iten l) xs.length (λi σ H'=>∃(kvs:List (Key×V))(v2 v3:Option V),σ=[some (.ref t),some (.ref l),v2,v3]/\Zh t H H'/\H' t=some (.ins C dx (putF "room_by_place" (.ref d) (putF "places" (.ref l) fs)))/\H' d=some (.dK kvs)/\Z9 0 [] rs=Z9 i kvs (rs.drop i)/\kvs.length<=i) ⟨[],none,none,rfl,s2,t2,d2,rfl,Nat.le_refl _⟩ (λi σ H' hi p=>?_) (λσ H' p=>?_) (λi σ H' x H'' hi p yl=>?_) (λσ H' p=>?_)⟩
  ·obtain⟨kvs,v2,v3,rfl,sm,_⟩:=p;exact⟨xs,sm _ _ hl htl,hi⟩
  ·obtain⟨kvs,v2,v3,rfl,sm,_⟩:=p;exact⟨xs,sm _ _ hl htl,rfl⟩
  ·obtain⟨kvs,v2,v3,rfl,sm,tt,dd,hgo,hkl⟩:=p;obtain⟨Tt,xs',y,hT,e1,hy,rfl,rfl⟩:=yl;rw[sm _ _ hl htl]at e1;cases e1;have hi':i<rs.length:=by rw[<-hrows.1];exact hi
   have hr0:rs[i]?=some rs[i]:=List.getElem?_eq_getElem hi';have hdrop:rs.drop i=rs[i]::rs.drop (i+1):=List.drop_eq_getElem_cons hi';have hrow0:=hrows.2 i y rs[i] hy hr0;generalize rs[i]=r at hr0 hdrop hrow0;have sm3:Zh t H (upd H' Tt (.tup [.int i,y])):=λc o h hc=>by rw[Zj (Zk (sm c o h hc) hT)];exact sm c o h hc
   have t3:upd H' Tt (.tup [.int i,y]) t=some (.ins C dx (putF "room_by_place" (.ref d) (putF "places" (.ref l) fs))):=by rw[Zj (Zk tt hT)];exact tt
   have d3:upd H' Tt (.tup [.int i,y]) d=some (.dK kvs):=by rw[Zj (Zk dd hT)];exact dd
   refine⟨Tt,_,rfl,SqT.of Ze,rfl,_,_,rfl,_,_,rfl,rfl,?_⟩;generalize upd H' Tt (.tup [.int i,y])=H3 at sm3 t3 d3 ⊢;have hrow3:Row H3 y r:=hrow0.sameB ht sm3;refine⟨_,rfl,_,rfl,_,rfl,t,C,dx,_,_,rfl,t3,Z.cl,nR,lk,"places",2,y,r,d,kvs,rfl,by simp[GZ],hrow3,d3,λH4 sm34=>⟨_,(Gz _ _ _ _).tru,?_⟩⟩;have sm4:Zh t H H4:=sm3.trans (Zh.of sm34);have t4:=sm34 _ _ t3;have d4:=sm34 _ _ d3;have eg:decide ((("places":Str))="groups")=false:=by decide +kernel
   rw[eg];rw[hdrop]at hgo;by_cases hb:begR false 2 kvs r=.non
   ·rw[hb];refine iteF ?_;obtain⟨ys,n,rfl,hyl,hyn⟩:=JJ hb;obtain⟨q,rfl,hq,hqx⟩:=hrow3;obtain⟨x0,room,rfl⟩:=len2 hyl;have hx0:x0=.str n:=hyn;subst hx0;have hq4:=sm34 _ _ hq;obtain⟨T5,th5⟩:=hqx room (by simp);refine⟨_,rfl,q,.str n,room,T5,rfl,hq4,th5.same sm34,?_⟩;have hstep:Z9 i kvs (some [.str n,room]::rs.drop (i+1))=if Z8 room≠.non then .inl (i,Z8 room)else Z9 (i+1) (putK kvs (.inr n) room) (rs.drop (i+1)):=by rw[Z9,if_neg (by rw[hb];exact λz=>z rfl)]
    by_cases hw:Z8 room=.non
    ·refine⟨_,_,_,rfl,.inl ⟨hw,?_⟩⟩;refine⟨_,rfl,q,_,1,room,rfl,rfl,SqT.of hq4,at0 1 rfl,_,rfl,t,C,dx,_,_,rfl,t4,Z.cl,nR,lk,_,rfl,q,_,0,.str n,rfl,rfl,SqT.of hq4,at0 0 rfl,d,_,rfl,DPut.k (k:=Sum.inr n) d4 (Xf (by omega)),?_⟩;refine⟨putK kvs (.inr n) room,_,_,rfl,λc o h hc=>?_,(by rw[Zj (Ne.symm hdt)];exact t4),Ze,?_,?_⟩
     ·rw[Zj (λz=>by rw[z,hd0]at h;cases h)];exact sm4 c o h hc
     ·rw[hgo,hstep,if_neg (λz=>z hw)]
     ·have:=YA kvs (Sum.inr n) room;omega
    ·refine⟨_,_,_,rfl,.inr ⟨hw,?_⟩⟩;exact kk (.inl (i,Z8 room)) (by rw[hgo,hstep,if_pos hw]) H4 sm4
   ·rw[decide_eq_true hb];refine iteT ?_;refine⟨_,_,_,rfl,.inr ⟨hb,?_⟩⟩;exact kk (.inl (i,begR false 2 kvs r)) (by rw[hgo,GY hb]) H4 sm4
  ·obtain⟨kvs,v2,v3,rfl,sm,tt,dd,hgo,hkl⟩:=p;have hd':rs.drop xs.length=[]:=by rw[hrows.1];exact List.drop_length
   rw[hd',Z9]at hgo;exact kk _ hgo H' d sm hd0 hdt dd tt
noncomputable def nameOf(ys:List V):Str:=match ys.getD 0 .non with
|.str y=>y
|_=>Str.empty
noncomputable def Yk(g:Bool)(n:Nat)(why:List V->V):Nat->List (Key×V)->List (V×Option (List V))->Sum (Nat×V) (List (Key×V))
|_,kvs,[]=>.inr kvs
|i,kvs,(x,r)::rs=>
  if begR g n kvs r≠.non then .inl (i,begR g n kvs r)else match r with
  |some ys=>if why ys≠.non then .inl (i,why ys)else Yk g n why (i+1) (putK kvs (.inr (nameOf ys)) x) rs
  |none=>.inl (i,.str "form")
theorem GX{g:Bool}{n:Nat}{why:List V->V}{i:Nat}{kvs:List (Key×V)}{x:V}{r:Option (List V)}{rs:List (V×Option (List V))}(h:begR g n kvs r≠.non):Yk g n why i kvs ((x,r)::rs)=.inl (i,begR g n kvs r):=by unfold Yk;rw[if_pos h]
theorem UH{g:Bool}{n:Nat}{why:List V->V}{i:Nat}{kvs:List (Key×V)}{x:V}{ys:List V}{rs:List (V×Option (List V))}(h:begR g n kvs (some ys)=.non):Yk g n why i kvs ((x,some ys)::rs)=if why ys≠.non then .inl (i,why ys)else Yk g n why (i+1) (putK kvs (.inr (nameOf ys)) x) rs:=by
 conv=>lhs;unfold Yk
 rw[if_neg (λz=>z h)]
noncomputable def at_(ys:List V)(i:Nat):V:=ys.getD i .non
noncomputable def JB(kvs:List (Key×V))(n:Int)(ys:List V):V:=U8 kvs n (at_ ys 1) (at_ ys 2) (at_ ys 3) (at_ ys 4) (at_ ys 5)
noncomputable def wayW(kvs:List (Key×V))(ys:List V):V:=wayV kvs (at_ ys 1) (at_ ys 2) (at_ ys 3) (at_ ys 4)
def Rw(C Cb:Addr):Sp:=λvs H Q E=>∃(t l dx dP:Addr)(xs:List V)(rs:List (Option (List V)))(fs:List (Str×V))(kvsP:List (Key×V))(nT:Int),vs=[.ref t,.ref l]/\H t=some (.ins C dx fs)/\(∀g,g∉fields->fs.lookup g=none)/\fs.length<=20 /\fs.lookup ("room_by_place":Str)=some (.ref dP)/\H dP=some (.dK kvsP)/\fs.lookup ("turns":Str)=some (.int nT)/\H l=some (.tup xs)/\xs.length<=1000/\Yq H xs rs /\match Yk false 6 (JB kvsP nT) 0 [] (xs.zip rs)with
|.inl (i,why)=>∀H1,Zh t H H1->Bad Cb (.str "rides") (.int i) why H1 E
|.inr kvs=>∀H' d,Zh t H H'->H d=none->d≠t->H' d=some (.dK kvs)->H' t=some (.ins C dx (putF "ride_by_name" (.ref d) (putF "rides" (.ref l) fs)))->Q .non H'
theorem NA:FnScope ["self","rides","at","row"] ["self","rides"] (Zf T.m_Table_take_rides):=⟨rfl,rfl,rfl,by decide +kernel,rfl,by decide +kernel,by decide +kernel⟩
theorem Tp(Z:TCl K C)(he:mg "enumerate"=none)(D:DfM K C "take_rides" "Table.take_rides" T.m_Table_take_rides ["self","rides"])(CB:Can P w K mg base 3 "wrong_beginning" ["part","row","names_ahead"] Jy)(CW:Can P w K mg base 5 "wrong_ride" ["table","row"] (T9 C))(CR:CanX P w K mg base 3 "refuse_row" ["part","at","why"] (JA Cb)):CanM P w K mg base (CX1 P w) 6 C "take_rides" ["self","rides"] (Rw C Cb):=by
 refine D.canX NA (λvs H Q E h=>?_) λf cdv A outer s H vs Q E hr h=>?_
 ·obtain⟨t,l,dx,dP,xs,rs,fs,kvsP,nT,rfl,_⟩:=h;rfl
 ·obtain⟨t,l,dx,dP,xs,rs,fs,kvsP,nT,rfl,ht,honly,hfs,hdP,hkP,hnT,hl,hlen,hrows,k⟩:=h;have hr3:=hr.mono (by decide:3<=5);refine⟨_,Zd (YQ (pv 0) (pv 1) rfl) (Zd (YQ (pv 0) VI rfl) (Zi (YO PassesOwn.leaving rfl (VE rfl he (Zg (pv 1) Zb) Gy) (Xj rfl (Zt (Zp (i:=2) NA.nd rfl (Or.inl rfl)) (Zt (Zp (i:=3) NA.nd rfl (Or.inl rfl)) Yt))) (Zd (Yz (Xe CR Y6 hr3 rfl (Zg Zr (Zg (pv 2) (Zg (NH (ZT CB hr3 rfl (Zg Zr (Zg (pv 3) (Zg (ZL (pv 0) rfl) Zb)))) (Y9 (ZT CW hr rfl (Zg (pv 0) (Zg (pv 3) Zb))))) Zb))))) (Zi (XE (Y7 hr) (ZL (pv 0) rfl) (Yb Z4 (pv 3) Zc (λ_ _=>rfl)) (pv 3) rfl)))))),?_⟩;have nP:ZZ K C "rides":=Z.na _ (by simp[fields]);have nR:ZZ K C "ride_by_name":=Z.na _ (by simp[fields]);have htl:l≠t:=ne_of hl ht (by intro z;cases z);have hdPt:dP≠t:=ne_of hkP ht (by intro z;cases z);have fl1:(putF "rides" (.ref l) fs).length<=21:=by have:=Z6 "rides" (V.ref l) fs;omega
  refine⟨_,rfl,_,rfl,t,C,dx,_,rfl,ht,Z.cl,nP,by omega,?_⟩;have s1:Zh t H (upd H t (.ins C dx (putF "rides" (.ref l) fs))):=(Zh.refl t H).upd;have t1:upd H t (.ins C dx (putF "rides" (.ref l) fs)) t=some (.ins C dx (putF "rides" (.ref l) fs)):=Ze;have fr1:∀c,upd H t (.ins C dx (putF "rides" (.ref l) fs)) c=none->H c=none/\c≠t:=λc e=>by
   by_cases h:c=t
   ·rw[h,Ze]at e;cases e
   ·rw[Zj h]at e;exact⟨e,h⟩
  generalize upd H t (.ins C dx (putF "rides" (.ref l) fs))=H1 at s1 t1 fr1 ⊢;refine λd hd=>⟨_,rfl,t,C,dx,_,rfl,(by rw[Zj (Zk t1 hd)];exact t1),Z.cl,nR,by omega,?_⟩;obtain⟨hd0,hdt⟩:=fr1 d hd;have s2:Zh t H (upd (upd H1 d (.dK [])) t (.ins C dx (putF "ride_by_name" (.ref d) (putF "rides" (.ref l) fs)))):=λc o h hc=>by rw[Zj hc,Zj (λz=>by rw[z,hd0]at h;cases h)];exact s1 c o h hc
  have t2:upd (upd H1 d (.dK [])) t (.ins C dx (putF "ride_by_name" (.ref d) (putF "rides" (.ref l) fs))) t=some (.ins C dx (putF "ride_by_name" (.ref d) (putF "rides" (.ref l) fs))):=Ze;have d2:upd (upd H1 d (.dK [])) t (.ins C dx (putF "ride_by_name" (.ref d) (putF "rides" (.ref l) fs))) d=some (.dK []):=by rw[Zj hdt,Ze]
  have lk:(putF "ride_by_name" (.ref d) (putF "rides" (.ref l) fs)).lookup ("ride_by_name":Str)=some (.ref d):=by rw[Zl,if_pos rfl]
  have lkP:(putF "ride_by_name" (.ref d) (putF "rides" (.ref l) fs)).lookup ("room_by_place":Str)=some (.ref dP):=by rw[Zl,if_neg (by decide +kernel),Zl,if_neg (by decide +kernel)];exact hdP
  have lkT:(putF "ride_by_name" (.ref d) (putF "rides" (.ref l) fs)).lookup ("turns":Str)=some (.int nT):=by rw[Zl,if_neg (by decide +kernel),Zl,if_neg (by decide +kernel)];exact hnT
  have lkO:∀g,g∉fields->(putF "ride_by_name" (.ref d) (putF "rides" (.ref l) fs)).lookup g=none:=λg hg=>by rw[Zl,if_neg (λz=>hg (by rw[z];simp[fields])),Zl,if_neg (λz=>hg (by rw[z];simp[fields]))];exact honly g hg
  have hFin:∀kvs,(∀H' d,Zh t H H'->H d=none->d≠t->H' d=some (.dK kvs)->H' t=some (.ins C dx (putF "ride_by_name" (.ref d) (putF "rides" (.ref l) fs)))->Q .non H')->∀H',Zh t H H'->H' d=some (.dK kvs)->H' t=some (.ins C dx (putF "ride_by_name" (.ref d) (putF "rides" (.ref l) fs)))->Q .non H':=λkvs kf H' h1 h2 h3=>kf H' d h1 hd0 hdt h2 h3;generalize hF2:putF "ride_by_name" (.ref d) (putF "rides" (.ref l) fs)=F2 at s2 t2 d2 lk lkP lkT lkO ⊢;generalize upd (upd H1 d (.dK [])) t (.ins C dx F2)=H2 at s2 t2 d2 ⊢;have kk:∀res,Yk false 6 (JB kvsP nT) 0 [] (xs.zip rs)=res->(match res with
  |.inl (i,why)=>∀H1,Zh t H H1->Bad Cb (.str "rides") (.int i) why H1 E
  |.inr kvs=>∀H',Zh t H H'->H' d=some (.dK kvs)->H' t=some (.ins C dx F2)->Q .non H'):=λres e=>by
    rw[e]at k;cases res with
   |inl p=>exact k
   |inr kvs=>exact λH' h1 h2 h3=>hFin kvs k H' h1 h2 (by rw[hF2];exact h3)
  clear k;refine⟨_,rfl,l,xs,rfl,s2 _ _ hl htl,JG (J:=Iten l) xs.length (λi σ H'=>∃(kvs:List (Key×V))(v2 v3:Option V),σ=[some (.ref t),some (.ref l),v2,v3]/\Zh t H H'/\H' t=some (.ins C dx F2)/\H' d=some (.dK kvs)/\Yk false 6 (JB kvsP nT) 0 [] (xs.zip rs)=Yk false 6 (JB kvsP nT) i kvs ((xs.zip rs).drop i)/\kvs.length<=i) ⟨[],none,none,rfl,s2,t2,d2,rfl,Nat.le_refl _⟩ (λi σ H' hi p=>?_) (λσ H' p=>?_) (λi σ H' x H'' hi p yl=>?_) (λσ H' p=>?_)⟩
  ·obtain⟨kvs,v2,v3,rfl,sm,_⟩:=p;exact⟨xs,sm _ _ hl htl,hi⟩
  ·obtain⟨kvs,v2,v3,rfl,sm,_⟩:=p;exact⟨xs,sm _ _ hl htl,rfl⟩
  ·obtain⟨kvs,v2,v3,rfl,sm,tt,dd,hgo,hkl⟩:=p;obtain⟨Tt,xs',y,hT,e1,hy,rfl,rfl⟩:=yl;rw[sm _ _ hl htl]at e1;cases e1;have hi':i<rs.length:=by rw[<-hrows.1];exact hi
   have hr0:rs[i]?=some rs[i]:=List.getElem?_eq_getElem hi';have hzl:i<(xs.zip rs).length:=by rw[List.length_zip];omega
   have hyx:xs[i]=y:=by rw[List.getElem?_eq_getElem hi]at hy;exact Option.some.inj hy
   have hdrop:(xs.zip rs).drop i=(y,rs[i])::(xs.zip rs).drop (i+1):=by rw[List.drop_eq_getElem_cons hzl,List.getElem_zip,hyx]
   have hrow0:=hrows.2 i y rs[i] hy hr0;generalize rs[i]=r at hr0 hdrop hrow0;have sm3:Zh t H (upd H' Tt (.tup [.int i,y])):=λc o h hc=>by rw[Zj (Zk (sm c o h hc) hT)];exact sm c o h hc
   have t3:upd H' Tt (.tup [.int i,y]) t=some (.ins C dx F2):=by rw[Zj (Zk tt hT)];exact tt
   have d3:upd H' Tt (.tup [.int i,y]) d=some (.dK kvs):=by rw[Zj (Zk dd hT)];exact dd
   refine⟨Tt,_,rfl,SqT.of Ze,rfl,_,_,rfl,_,_,rfl,rfl,?_⟩;generalize upd H' Tt (.tup [.int i,y])=H3 at sm3 t3 d3 ⊢;have hrow3:Row H3 y r:=hrow0.sameB ht sm3;refine⟨_,rfl,_,rfl,_,rfl,t,C,dx,_,_,rfl,t3,Z.cl,nR,lk,"rides",6,y,r,d,kvs,rfl,by simp[GZ],hrow3,d3,λH4 sm34=>⟨_,(Gz _ _ _ _).tru,?_⟩⟩;have sm4:Zh t H H4:=sm3.trans (Zh.of sm34);have t4:=sm34 _ _ t3;have d4:=sm34 _ _ d3;have eg:decide ((("rides":Str))="groups")=false:=by decide +kernel
   rw[eg];rw[hdrop]at hgo;by_cases hb:begR false 6 kvs r=.non
   ·rw[hb];refine iteF ?_;obtain⟨ys,n,rfl,hyl,hyn⟩:=JJ hb;obtain⟨q,rfl,hq,hqx⟩:=hrow3;have hq4:=sm34 _ _ hq;have hnm:nameOf ys=n:=by unfold nameOf;rw[hyn]
    have hstep:=UH (why:=JB kvsP nT) (i:=i) (x:=.ref q) (rs:=(xs.zip rs).drop (i+1)) hb;rw[hnm]at hstep;obtain⟨x0,x1,x2,x3,x4,x5,rfl⟩:=len6 hyl;have hx0:x0=.str n:=hyn;subst hx0;have tb4:Tab H4 C t F2:=⟨⟨dx,t4⟩,lkO⟩;refine⟨_,rfl,_,rfl,t,q,.str n,x1,x2,x3,x4,x5,F2,dP,kvsP,nT,rfl,tb4,lkP,lkT,sm34 _ _ (sm3 _ _ hkP hdPt),hq4,λx hx=>(let ⟨T,th⟩:=hqx x hx;⟨T,th.same sm34⟩),?_⟩;by_cases hw:JB kvsP nT [.str n,x1,x2,x3,x4,x5]=.non
    ·refine⟨_,_,_,rfl,.inl ⟨hw,?_⟩⟩;refine⟨_,rfl,_,rfl,t,C,dx,_,_,rfl,t4,Z.cl,nR,lk,_,rfl,q,_,0,.str n,rfl,rfl,SqT.of hq4,at0 0 rfl,d,_,rfl,DPut.k (k:=Sum.inr n) d4 (Xf (by omega)),?_⟩;refine⟨putK kvs (.inr n) (.ref q),_,_,rfl,λc o h hc=>?_,(by rw[Zj (Ne.symm hdt)];exact t4),Ze,?_,?_⟩
     ·rw[Zj (λz=>by rw[z,hd0]at h;cases h)];exact sm4 c o h hc
     ·rw[hgo,hstep,if_neg (λz=>z hw)]
     ·have:=YA kvs (Sum.inr n) (V.ref q);omega
    ·refine⟨_,_,_,rfl,.inr ⟨hw,?_⟩⟩;exact kk (.inl (i,JB kvsP nT [.str n,x1,x2,x3,x4,x5])) (by rw[hgo,hstep,if_pos hw]) H4 sm4
   ·rw[decide_eq_true hb];refine iteT ?_;refine⟨_,_,_,rfl,.inr ⟨hb,?_⟩⟩;exact kk (.inl (i,begR false 6 kvs r)) (by rw[hgo,GX hb]) H4 sm4
  ·obtain⟨kvs,v2,v3,rfl,sm,tt,dd,hgo,hkl⟩:=p;have hd':(xs.zip rs).drop xs.length=[]:=List.drop_eq_nil_iff.mpr (by rw[List.length_zip];omega);rw[hd',Yk]at hgo;exact kk (.inr kvs) hgo H' sm dd tt
def Rv(C Cb:Addr):Sp:=λvs H Q E=>∃(t l dx dP:Addr)(xs:List V)(rs:List (Option (List V)))(fs:List (Str×V))(kvsP:List (Key×V))(nT:Int),vs=[.ref t,.ref l]/\H t=some (.ins C dx fs)/\(∀g,g∉fields->fs.lookup g=none)/\fs.length<=20 /\fs.lookup ("room_by_place":Str)=some (.ref dP)/\H dP=some (.dK kvsP)/\fs.lookup ("turns":Str)=some (.int nT)/\H l=some (.tup xs)/\xs.length<=1000/\Yq H xs rs /\match Yk false 5 (wayW kvsP) 0 [] (xs.zip rs)with
|.inl (i,why)=>∀H1,Zh t H H1->Bad Cb (.str "ways") (.int i) why H1 E
|.inr kvs=>∀H' d,Zh t H H'->H d=none->d≠t->H' d=some (.dK kvs)->H' t=some (.ins C dx (putF "way_by_name" (.ref d) (putF "ways" (.ref l) fs)))->Q .non H'
theorem Nz:FnScope ["self","ways","at","row"] ["self","ways"] (Zf T.m_Table_take_ways):=⟨rfl,rfl,rfl,by decide +kernel,rfl,by decide +kernel,by decide +kernel⟩
theorem To(Z:TCl K C)(he:mg "enumerate"=none)(D:DfM K C "take_ways" "Table.take_ways" T.m_Table_take_ways ["self","ways"])(CB:Can P w K mg base 3 "wrong_beginning" ["part","row","names_ahead"] Jy)(CW:Can P w K mg base 5 "wrong_way" ["table","row"] (Ly C))(CR:CanX P w K mg base 3 "refuse_row" ["part","at","why"] (JA Cb)):CanM P w K mg base (CX1 P w) 6 C "take_ways" ["self","ways"] (Rv C Cb):=by
 refine D.canX Nz (λvs H Q E h=>?_) λf cdv A outer s H vs Q E hr h=>?_
 ·obtain⟨t,l,dx,dP,xs,rs,fs,kvsP,nT,rfl,_⟩:=h;rfl
 ·obtain⟨t,l,dx,dP,xs,rs,fs,kvsP,nT,rfl,ht,honly,hfs,hdP,hkP,hnT,hl,hlen,hrows,k⟩:=h;have hr3:=hr.mono (by decide:3<=5);refine⟨_,Zd (YQ (pv 0) (pv 1) rfl) (Zd (YQ (pv 0) VI rfl) (Zi (YO PassesOwn.leaving rfl (VE rfl he (Zg (pv 1) Zb) Gy) (Xj rfl (Zt (Zp (i:=2) Nz.nd rfl (Or.inl rfl)) (Zt (Zp (i:=3) Nz.nd rfl (Or.inl rfl)) Yt))) (Zd (Yz (Xe CR Y6 hr3 rfl (Zg Zr (Zg (pv 2) (Zg (NH (ZT CB hr3 rfl (Zg Zr (Zg (pv 3) (Zg (ZL (pv 0) rfl) Zb)))) (Y9 (ZT CW hr rfl (Zg (pv 0) (Zg (pv 3) Zb))))) Zb))))) (Zi (XE (Y7 hr) (ZL (pv 0) rfl) (Yb Z4 (pv 3) Zc (λ_ _=>rfl)) (pv 3) rfl)))))),?_⟩;have nP:ZZ K C "ways":=Z.na _ (by simp[fields]);have nR:ZZ K C "way_by_name":=Z.na _ (by simp[fields]);have htl:l≠t:=ne_of hl ht (by intro z;cases z);have hdPt:dP≠t:=ne_of hkP ht (by intro z;cases z);have fl1:(putF "ways" (.ref l) fs).length<=21:=by have:=Z6 "ways" (V.ref l) fs;omega
  refine⟨_,rfl,_,rfl,t,C,dx,_,rfl,ht,Z.cl,nP,by omega,?_⟩;have s1:Zh t H (upd H t (.ins C dx (putF "ways" (.ref l) fs))):=(Zh.refl t H).upd;have t1:upd H t (.ins C dx (putF "ways" (.ref l) fs)) t=some (.ins C dx (putF "ways" (.ref l) fs)):=Ze;have fr1:∀c,upd H t (.ins C dx (putF "ways" (.ref l) fs)) c=none->H c=none/\c≠t:=λc e=>by
   by_cases h:c=t
   ·rw[h,Ze]at e;cases e
   ·rw[Zj h]at e;exact⟨e,h⟩
  generalize upd H t (.ins C dx (putF "ways" (.ref l) fs))=H1 at s1 t1 fr1 ⊢;refine λd hd=>⟨_,rfl,t,C,dx,_,rfl,(by rw[Zj (Zk t1 hd)];exact t1),Z.cl,nR,by omega,?_⟩;obtain⟨hd0,hdt⟩:=fr1 d hd;have s2:Zh t H (upd (upd H1 d (.dK [])) t (.ins C dx (putF "way_by_name" (.ref d) (putF "ways" (.ref l) fs)))):=λc o h hc=>by rw[Zj hc,Zj (λz=>by rw[z,hd0]at h;cases h)];exact s1 c o h hc
  have t2:upd (upd H1 d (.dK [])) t (.ins C dx (putF "way_by_name" (.ref d) (putF "ways" (.ref l) fs))) t=some (.ins C dx (putF "way_by_name" (.ref d) (putF "ways" (.ref l) fs))):=Ze;have d2:upd (upd H1 d (.dK [])) t (.ins C dx (putF "way_by_name" (.ref d) (putF "ways" (.ref l) fs))) d=some (.dK []):=by rw[Zj hdt,Ze]
  have lk:(putF "way_by_name" (.ref d) (putF "ways" (.ref l) fs)).lookup ("way_by_name":Str)=some (.ref d):=by rw[Zl,if_pos rfl]
  have lkP:(putF "way_by_name" (.ref d) (putF "ways" (.ref l) fs)).lookup ("room_by_place":Str)=some (.ref dP):=by rw[Zl,if_neg (by decide +kernel),Zl,if_neg (by decide +kernel)];exact hdP
  have lkT:(putF "way_by_name" (.ref d) (putF "ways" (.ref l) fs)).lookup ("turns":Str)=some (.int nT):=by rw[Zl,if_neg (by decide +kernel),Zl,if_neg (by decide +kernel)];exact hnT
  have lkO:∀g,g∉fields->(putF "way_by_name" (.ref d) (putF "ways" (.ref l) fs)).lookup g=none:=λg hg=>by rw[Zl,if_neg (λz=>hg (by rw[z];simp[fields])),Zl,if_neg (λz=>hg (by rw[z];simp[fields]))];exact honly g hg
  have hFin:∀kvs,(∀H' d,Zh t H H'->H d=none->d≠t->H' d=some (.dK kvs)->H' t=some (.ins C dx (putF "way_by_name" (.ref d) (putF "ways" (.ref l) fs)))->Q .non H')->∀H',Zh t H H'->H' d=some (.dK kvs)->H' t=some (.ins C dx (putF "way_by_name" (.ref d) (putF "ways" (.ref l) fs)))->Q .non H':=λkvs kf H' h1 h2 h3=>kf H' d h1 hd0 hdt h2 h3;generalize hF2:putF "way_by_name" (.ref d) (putF "ways" (.ref l) fs)=F2 at s2 t2 d2 lk lkP lkT lkO ⊢;generalize upd (upd H1 d (.dK [])) t (.ins C dx F2)=H2 at s2 t2 d2 ⊢;have kk:∀res,Yk false 5 (wayW kvsP) 0 [] (xs.zip rs)=res->(match res with
  |.inl (i,why)=>∀H1,Zh t H H1->Bad Cb (.str "ways") (.int i) why H1 E
  |.inr kvs=>∀H',Zh t H H'->H' d=some (.dK kvs)->H' t=some (.ins C dx F2)->Q .non H'):=λres e=>by
    rw[e]at k;cases res with
   |inl p=>exact k
   |inr kvs=>exact λH' h1 h2 h3=>hFin kvs k H' h1 h2 (by rw[hF2];exact h3)
  clear k;refine⟨_,rfl,l,xs,rfl,s2 _ _ hl htl,JG (J:=Iten l) xs.length (λi σ H'=>∃(kvs:List (Key×V))(v2 v3:Option V),σ=[some (.ref t),some (.ref l),v2,v3]/\Zh t H H'/\H' t=some (.ins C dx F2)/\H' d=some (.dK kvs)/\Yk false 5 (wayW kvsP) 0 [] (xs.zip rs)=Yk false 5 (wayW kvsP) i kvs ((xs.zip rs).drop i)/\kvs.length<=i) ⟨[],none,none,rfl,s2,t2,d2,rfl,Nat.le_refl _⟩ (λi σ H' hi p=>?_) (λσ H' p=>?_) (λi σ H' x H'' hi p yl=>?_) (λσ H' p=>?_)⟩
  ·obtain⟨kvs,v2,v3,rfl,sm,_⟩:=p;exact⟨xs,sm _ _ hl htl,hi⟩
  ·obtain⟨kvs,v2,v3,rfl,sm,_⟩:=p;exact⟨xs,sm _ _ hl htl,rfl⟩
  ·obtain⟨kvs,v2,v3,rfl,sm,tt,dd,hgo,hkl⟩:=p;obtain⟨Tt,xs',y,hT,e1,hy,rfl,rfl⟩:=yl;rw[sm _ _ hl htl]at e1;cases e1;have hi':i<rs.length:=by rw[<-hrows.1];exact hi
   have hr0:rs[i]?=some rs[i]:=List.getElem?_eq_getElem hi';have hzl:i<(xs.zip rs).length:=by rw[List.length_zip];omega
   have hyx:xs[i]=y:=by rw[List.getElem?_eq_getElem hi]at hy;exact Option.some.inj hy
   have hdrop:(xs.zip rs).drop i=(y,rs[i])::(xs.zip rs).drop (i+1):=by rw[List.drop_eq_getElem_cons hzl,List.getElem_zip,hyx]
   have hrow0:=hrows.2 i y rs[i] hy hr0;generalize rs[i]=r at hr0 hdrop hrow0;have sm3:Zh t H (upd H' Tt (.tup [.int i,y])):=λc o h hc=>by rw[Zj (Zk (sm c o h hc) hT)];exact sm c o h hc
   have t3:upd H' Tt (.tup [.int i,y]) t=some (.ins C dx F2):=by rw[Zj (Zk tt hT)];exact tt
   have d3:upd H' Tt (.tup [.int i,y]) d=some (.dK kvs):=by rw[Zj (Zk dd hT)];exact dd
   refine⟨Tt,_,rfl,SqT.of Ze,rfl,_,_,rfl,_,_,rfl,rfl,?_⟩;generalize upd H' Tt (.tup [.int i,y])=H3 at sm3 t3 d3 ⊢;have hrow3:Row H3 y r:=hrow0.sameB ht sm3;refine⟨_,rfl,_,rfl,_,rfl,t,C,dx,_,_,rfl,t3,Z.cl,nR,lk,"ways",5,y,r,d,kvs,rfl,by simp[GZ],hrow3,d3,λH4 sm34=>⟨_,(Gz _ _ _ _).tru,?_⟩⟩;have sm4:Zh t H H4:=sm3.trans (Zh.of sm34);have t4:=sm34 _ _ t3;have d4:=sm34 _ _ d3;have eg:decide ((("ways":Str))="groups")=false:=by decide +kernel
   rw[eg];rw[hdrop]at hgo;by_cases hb:begR false 5 kvs r=.non
   ·rw[hb];refine iteF ?_;obtain⟨ys,n,rfl,hyl,hyn⟩:=JJ hb;obtain⟨q,rfl,hq,hqx⟩:=hrow3;have hq4:=sm34 _ _ hq;have hnm:nameOf ys=n:=by unfold nameOf;rw[hyn]
    have hstep:=UH (why:=wayW kvsP) (i:=i) (x:=.ref q) (rs:=(xs.zip rs).drop (i+1)) hb;rw[hnm]at hstep;obtain⟨x0,x1,x2,x3,x4,rfl⟩:=len5 hyl;have hx0:x0=.str n:=hyn;subst hx0;have tb4:Tab H4 C t F2:=⟨⟨dx,t4⟩,lkO⟩;refine⟨_,rfl,_,rfl,t,q,.str n,x1,x2,x3,x4,F2,dP,kvsP,rfl,tb4,lkP,sm34 _ _ (sm3 _ _ hkP hdPt),hq4,λx hx=>(let ⟨T,th⟩:=hqx x hx;⟨T,th.same sm34⟩),?_⟩;by_cases hw:wayW kvsP [.str n,x1,x2,x3,x4]=.non
    ·refine⟨_,_,_,rfl,.inl ⟨hw,?_⟩⟩;refine⟨_,rfl,_,rfl,t,C,dx,_,_,rfl,t4,Z.cl,nR,lk,_,rfl,q,_,0,.str n,rfl,rfl,SqT.of hq4,at0 0 rfl,d,_,rfl,DPut.k (k:=Sum.inr n) d4 (Xf (by omega)),?_⟩;refine⟨putK kvs (.inr n) (.ref q),_,_,rfl,λc o h hc=>?_,(by rw[Zj (Ne.symm hdt)];exact t4),Ze,?_,?_⟩
     ·rw[Zj (λz=>by rw[z,hd0]at h;cases h)];exact sm4 c o h hc
     ·rw[hgo,hstep,if_neg (λz=>z hw)]
     ·have:=YA kvs (Sum.inr n) (V.ref q);omega
    ·refine⟨_,_,_,rfl,.inr ⟨hw,?_⟩⟩;exact kk (.inl (i,wayW kvsP [.str n,x1,x2,x3,x4])) (by rw[hgo,hstep,if_pos hw]) H4 sm4
   ·rw[decide_eq_true hb];refine iteT ?_;refine⟨_,_,_,rfl,.inr ⟨hb,?_⟩⟩;exact kk (.inl (i,begR false 5 kvs r)) (by rw[hgo,GX hb]) H4 sm4
  ·obtain⟨kvs,v2,v3,rfl,sm,tt,dd,hgo,hkl⟩:=p;have hd':(xs.zip rs).drop xs.length=[]:=List.drop_eq_nil_iff.mpr (by rw[List.length_zip];omega);rw[hd',Yk]at hgo;exact kk (.inr kvs) hgo H' sm dd tt
end
noncomputable def Jn(kvs:List (Key×V))(n pp:Int)(ys:List V):V:=YZ kvs n pp (at_ ys 1) (at_ ys 2) (at_ ys 3)
noncomputable def Ym(ys:List V):Int:=match ys.getD 3 .non with
|.int i=>i
|_=>0
noncomputable def Yc(kvsP:List (Key×V))(nT:Int):Nat->Int->List (Key×V)->List (V×Option (List V))->Sum (Nat×V) (List (Key×V))
|_,_,kvs,[]=>.inr kvs
|i,pp,kvs,(x,r)::rs=>
  if begR true 4 kvs r≠.non then .inl (i,begR true 4 kvs r)else match r with
  |some ys=>if Jn kvsP nT pp ys≠.non then .inl (i,Jn kvsP nT pp ys)else Yc kvsP nT (i+1) (pp+Ym ys) (putK kvs (.inr (nameOf ys)) x) rs
  |none=>.inl (i,.str "form")
section
variable {kvsP:List (Key×V)}{nT pp:Int}{i:Nat}{kvs:List (Key×V)}{x:V}{rs:List (V×Option (List V))}
theorem QO{r:Option (List V)}(h:begR true 4 kvs r≠.non):Yc kvsP nT i pp kvs ((x,r)::rs)=.inl (i,begR true 4 kvs r):=by unfold Yc;rw[if_pos h]
theorem Gd{ys:List V}(h:begR true 4 kvs (some ys)=.non):Yc kvsP nT i pp kvs ((x,some ys)::rs)=if Jn kvsP nT pp ys≠.non then .inl (i,Jn kvsP nT pp ys)else Yc kvsP nT (i+1) (pp+Ym ys) (putK kvs (.inr (nameOf ys)) x) rs:=by
 conv=>lhs;unfold Yc
 rw[if_neg (λz=>z h)]
theorem Ta{n x1 x2 x3:V}(h:Jn kvsP nT pp [n,x1,x2,x3]=.non):∃i,x3=.int i:=by
 have h':YZ kvsP nT pp x1 x2 x3=.non:=h;unfold YZ at h';split at h'
 ·cases h'
 ·split at h'
  ·cases h'
  ·cases x3 with
  |int i=>exact⟨i,rfl⟩
  |_=>cases h'
end
section
variable {P:Program}{w:World}{K:PySem.W.Frag}{mg:Str->Option Value}{base:Heap}{C Cb:Addr}
def Ry(C Cb:Addr):Sp:=λvs H Q E=>∃(t l dx dP:Addr)(xs:List V)(rs:List (Option (List V)))(fs:List (Str×V))(kvsP:List (Key×V))(nT:Int),vs=[.ref t,.ref l]/\H t=some (.ins C dx fs)/\(∀g,g∉fields->fs.lookup g=none)/\fs.length<=20 /\fs.lookup ("room_by_place":Str)=some (.ref dP)/\H dP=some (.dK kvsP)/\fs.lookup ("turns":Str)=some (.int nT)/\H l=some (.tup xs)/\xs.length<=1000/\Yq H xs rs /\match Yc kvsP nT 0 0 [] (xs.zip rs)with
|.inl (i,why)=>∀H1,Zh t H H1->Bad Cb (.str "groups") (.int i) why H1 E
|.inr kvs=>∀H' d,Zh t H H'->H d=none->d≠t->H' d=some (.dK kvs)->H' t=some (.ins C dx (putF "group_by_name" (.ref d) (putF "groups" (.ref l) fs)))->Q .non H'
theorem JM:FnScope ["self","groups","people","at","row","why"] ["self","groups"] (Zf T.m_Table_take_groups):=⟨rfl,rfl,rfl,by decide +kernel,rfl,by decide +kernel,by decide +kernel⟩
theorem Tr(Z:TCl K C)(he:mg "enumerate"=none)(D:DfM K C "take_groups" "Table.take_groups" T.m_Table_take_groups ["self","groups"])(CB:Can P w K mg base 3 "wrong_beginning" ["part","row","names_ahead"] Jy)(CW:Can P w K mg base 3 "wrong_group" ["table","row","people_ahead"] (RD C))(CR:CanX P w K mg base 3 "refuse_row" ["part","at","why"] (JA Cb)):CanM P w K mg base (CX1 P w) 4 C "take_groups" ["self","groups"] (Ry C Cb):=by
 refine D.canX JM (λvs H Q E h=>?_) λf cdv A outer s H vs Q E hr h=>?_
 ·obtain⟨t,l,dx,dP,xs,rs,fs,kvsP,nT,rfl,_⟩:=h;rfl
 ·obtain⟨t,l,dx,dP,xs,rs,fs,kvsP,nT,rfl,ht,honly,hfs,hdP,hkP,hnT,hl,hlen,hrows,k⟩:=h;refine⟨_,Zd (YQ (pv 0) (pv 1) rfl) (Zd (YQ (pv 0) VI rfl) (Zd (Yl (i:=2) JM.nd rfl (Or.inl rfl) Zc) (Zi (YO PassesOwn.leaving rfl (VE rfl he (Zg (pv 1) Zb) Gy) (Xj rfl (Zt (Zp (i:=3) JM.nd rfl (Or.inl rfl)) (Zt (Zp (i:=4) JM.nd rfl (Or.inl rfl)) Yt))) (Zd (Yl (i:=5) JM.nd rfl (Or.inl rfl) (NH (ZT CB hr rfl (Zg Zr (Zg (pv 4) (Zg (ZL (pv 0) rfl) Zb)))) (Y9 (ZT CW hr rfl (Zg (pv 0) (Zg (pv 4) (Zg (pv 2) Zb))))))) (Zd (Yz (Xe CR Y6 hr rfl (Zg Zr (Zg (pv 3) (Zg (pv 5) Zb))))) (Zd (XE (Y7 hr) (ZL (pv 0) rfl) (Yb Z4 (pv 4) Zc (λ_ _=>rfl)) (pv 4) rfl) (Zi (Yl (i:=2) JM.nd rfl (Or.inl rfl) (Zx Z3 (pv 2) (Yb Z4 (pv 4) Zc (λ_ _=>rfl)))))))))))),?_⟩;have nP:ZZ K C "groups":=Z.na _ (by simp[fields]);have nR:ZZ K C "group_by_name":=Z.na _ (by simp[fields]);have htl:l≠t:=ne_of hl ht (by intro z;cases z);have hdPt:dP≠t:=ne_of hkP ht (by intro z;cases z);have fl1:(putF "groups" (.ref l) fs).length<=21:=by have:=Z6 "groups" (V.ref l) fs;omega
  refine⟨_,rfl,_,rfl,t,C,dx,_,rfl,ht,Z.cl,nP,by omega,?_⟩;have s1:Zh t H (upd H t (.ins C dx (putF "groups" (.ref l) fs))):=(Zh.refl t H).upd;have t1:upd H t (.ins C dx (putF "groups" (.ref l) fs)) t=some (.ins C dx (putF "groups" (.ref l) fs)):=Ze;have fr1:∀c,upd H t (.ins C dx (putF "groups" (.ref l) fs)) c=none->H c=none/\c≠t:=λc e=>by
   by_cases h:c=t
   ·rw[h,Ze]at e;cases e
   ·rw[Zj h]at e;exact⟨e,h⟩
  generalize upd H t (.ins C dx (putF "groups" (.ref l) fs))=H1 at s1 t1 fr1 ⊢;refine λd hd=>⟨_,rfl,t,C,dx,_,rfl,(by rw[Zj (Zk t1 hd)];exact t1),Z.cl,nR,by omega,?_⟩;obtain⟨hd0,hdt⟩:=fr1 d hd;have s2:Zh t H (upd (upd H1 d (.dK [])) t (.ins C dx (putF "group_by_name" (.ref d) (putF "groups" (.ref l) fs)))):=λc o h hc=>by rw[Zj hc,Zj (λz=>by rw[z,hd0]at h;cases h)];exact s1 c o h hc
  have t2:upd (upd H1 d (.dK [])) t (.ins C dx (putF "group_by_name" (.ref d) (putF "groups" (.ref l) fs))) t=some (.ins C dx (putF "group_by_name" (.ref d) (putF "groups" (.ref l) fs))):=Ze;have d2:upd (upd H1 d (.dK [])) t (.ins C dx (putF "group_by_name" (.ref d) (putF "groups" (.ref l) fs))) d=some (.dK []):=by rw[Zj hdt,Ze]
  have lk:(putF "group_by_name" (.ref d) (putF "groups" (.ref l) fs)).lookup ("group_by_name":Str)=some (.ref d):=by rw[Zl,if_pos rfl]
  have lkP:(putF "group_by_name" (.ref d) (putF "groups" (.ref l) fs)).lookup ("room_by_place":Str)=some (.ref dP):=by rw[Zl,if_neg (by decide +kernel),Zl,if_neg (by decide +kernel)];exact hdP
  have lkT:(putF "group_by_name" (.ref d) (putF "groups" (.ref l) fs)).lookup ("turns":Str)=some (.int nT):=by rw[Zl,if_neg (by decide +kernel),Zl,if_neg (by decide +kernel)];exact hnT
  have lkO:∀g,g∉fields->(putF "group_by_name" (.ref d) (putF "groups" (.ref l) fs)).lookup g=none:=λg hg=>by rw[Zl,if_neg (λz=>hg (by rw[z];simp[fields])),Zl,if_neg (λz=>hg (by rw[z];simp[fields]))];exact honly g hg
  have hFin:∀kvs,(∀H' d,Zh t H H'->H d=none->d≠t->H' d=some (.dK kvs)->H' t=some (.ins C dx (putF "group_by_name" (.ref d) (putF "groups" (.ref l) fs)))->Q .non H')->∀H',Zh t H H'->H' d=some (.dK kvs)->H' t=some (.ins C dx (putF "group_by_name" (.ref d) (putF "groups" (.ref l) fs)))->Q .non H':=λkvs kf H' h1 h2 h3=>kf H' d h1 hd0 hdt h2 h3;generalize hF2:putF "group_by_name" (.ref d) (putF "groups" (.ref l) fs)=F2 at s2 t2 d2 lk lkP lkT lkO ⊢;generalize upd (upd H1 d (.dK [])) t (.ins C dx F2)=H2 at s2 t2 d2 ⊢;have kk:∀res,Yc kvsP nT 0 0 [] (xs.zip rs)=res->(match res with
  |.inl (i,why)=>∀H1,Zh t H H1->Bad Cb (.str "groups") (.int i) why H1 E
  |.inr kvs=>∀H',Zh t H H'->H' d=some (.dK kvs)->H' t=some (.ins C dx F2)->Q .non H'):=λres e=>by
    rw[e]at k;cases res with
   |inl p=>exact k
   |inr kvs=>exact λH' h1 h2 h3=>hFin kvs k H' h1 h2 (by rw[hF2];exact h3)
  clear k;refine⟨_,rfl,l,xs,rfl,s2 _ _ hl htl,JG (J:=Iten l) xs.length (λi σ H'=>∃(kvs:List (Key×V))(pp:Int)(v3 v4 v5:Option V),σ=[some (.ref t),some (.ref l),some (.int pp),v3,v4,v5]/\Zh t H H'/\H' t=some (.ins C dx F2)/\H' d=some (.dK kvs)/\Yc kvsP nT 0 0 [] (xs.zip rs)=Yc kvsP nT i pp kvs ((xs.zip rs).drop i)/\kvs.length<=i) ⟨[],0,none,none,none,rfl,s2,t2,d2,rfl,Nat.le_refl _⟩ (λi σ H' hi p=>?_) (λσ H' p=>?_) (λi σ H' x H'' hi p yl=>?_) (λσ H' p=>?_)⟩
  ·obtain⟨kvs,pp,v3,v4,v5,rfl,sm,_⟩:=p;exact⟨xs,sm _ _ hl htl,hi⟩
  ·obtain⟨kvs,pp,v3,v4,v5,rfl,sm,_⟩:=p;exact⟨xs,sm _ _ hl htl,rfl⟩
  ·obtain⟨kvs,pp,v3,v4,v5,rfl,sm,tt,dd,hgo,hkl⟩:=p;obtain⟨Tt,xs',y,hT,e1,hy,rfl,rfl⟩:=yl;rw[sm _ _ hl htl]at e1;cases e1;have hi':i<rs.length:=by rw[<-hrows.1];exact hi
   have hr0:rs[i]?=some rs[i]:=List.getElem?_eq_getElem hi';have hzl:i<(xs.zip rs).length:=by rw[List.length_zip];omega
   have hyx:xs[i]=y:=by rw[List.getElem?_eq_getElem hi]at hy;exact Option.some.inj hy
   have hdrop:(xs.zip rs).drop i=(y,rs[i])::(xs.zip rs).drop (i+1):=by rw[List.drop_eq_getElem_cons hzl,List.getElem_zip,hyx]
   have hrow0:=hrows.2 i y rs[i] hy hr0;generalize rs[i]=r at hr0 hdrop hrow0;have sm3:Zh t H (upd H' Tt (.tup [.int i,y])):=λc o h hc=>by rw[Zj (Zk (sm c o h hc) hT)];exact sm c o h hc
   have t3:upd H' Tt (.tup [.int i,y]) t=some (.ins C dx F2):=by rw[Zj (Zk tt hT)];exact tt
   have d3:upd H' Tt (.tup [.int i,y]) d=some (.dK kvs):=by rw[Zj (Zk dd hT)];exact dd
   refine⟨Tt,_,rfl,SqT.of Ze,rfl,_,_,rfl,_,_,rfl,rfl,?_⟩;generalize upd H' Tt (.tup [.int i,y])=H3 at sm3 t3 d3 ⊢;have hrow3:Row H3 y r:=hrow0.sameB ht sm3;refine⟨_,rfl,_,rfl,t,C,dx,_,_,rfl,t3,Z.cl,nR,lk,"groups",4,y,r,d,kvs,rfl,by simp[GZ],hrow3,d3,λH4 sm34=>⟨_,(Gz _ _ _ _).tru,?_⟩⟩;have sm4:Zh t H H4:=sm3.trans (Zh.of sm34);have t4:=sm34 _ _ t3;have d4:=sm34 _ _ d3;have eg:decide ((("groups":Str))="groups")=true:=by decide +kernel
   rw[eg];rw[hdrop]at hgo;by_cases hb:begR true 4 kvs r=.non
   ·rw[hb];refine iteF ?_;obtain⟨ys,n,rfl,hyl,hyn⟩:=JJ hb;obtain⟨q,rfl,hq,hqx⟩:=hrow3;have hq4:=sm34 _ _ hq;have hnm:nameOf ys=n:=by unfold nameOf;rw[hyn]
    have hstep:=Gd (kvsP:=kvsP) (nT:=nT) (pp:=pp) (i:=i) (x:=.ref q) (rs:=(xs.zip rs).drop (i+1)) hb;rw[hnm]at hstep;obtain⟨x0,x1,x2,x3,rfl⟩:=len4 hyl;have hx0:x0=.str n:=hyn;subst hx0;have tb4:Tab H4 C t F2:=⟨⟨dx,t4⟩,lkO⟩;refine⟨_,rfl,_,rfl,_,rfl,t,q,.str n,x1,x2,x3,F2,dP,kvsP,nT,pp,rfl,tb4,lkP,lkT,sm34 _ _ (sm3 _ _ hkP hdPt),hq4,λx hx=>(let ⟨T,th⟩:=hqx x hx;⟨T,th.same sm34⟩),?_⟩;refine⟨_,rfl,_,rfl,?_⟩;by_cases hw:Jn kvsP nT pp [.str n,x1,x2,x3]=.non
    ·refine⟨_,_,_,rfl,.inl ⟨hw,?_⟩⟩;obtain⟨mm,rfl⟩:=Ta (n:=.str n) hw;refine⟨_,rfl,_,rfl,t,C,dx,_,_,rfl,t4,Z.cl,nR,lk,_,rfl,q,_,0,.str n,rfl,rfl,SqT.of hq4,at0 0 rfl,d,_,rfl,DPut.k (k:=Sum.inr n) d4 (Xf (by omega)),?_⟩;have hqd:q≠d:=ne_of hq4 d4 (by intro z;cases z);refine⟨_,rfl,_,rfl,q,_,3,.int mm,rfl,rfl,SqT.of (by rw[Zj hqd];exact hq4),at0 3 rfl,_,_,rfl,rfl,?_⟩;refine⟨putK kvs (.inr n) (.ref q),pp+mm,_,_,_,rfl,λc o h hc=>?_,(by rw[Zj (Ne.symm hdt)];exact t4),Ze,?_,?_⟩
     ·rw[Zj (λz=>by rw[z,hd0]at h;cases h)];exact sm4 c o h hc
     ·rw[hgo,hstep,if_neg (λz=>z hw)];rfl
     ·have:=YA kvs (Sum.inr n) (V.ref q);omega
    ·refine⟨_,_,_,rfl,.inr ⟨hw,?_⟩⟩;exact kk (.inl (i,Jn kvsP nT pp [.str n,x1,x2,x3])) (by rw[hgo,hstep,if_pos hw]) H4 sm4
   ·rw[decide_eq_true hb];refine iteT ?_;refine⟨_,rfl,_,rfl,?_⟩;refine⟨_,_,_,rfl,.inr ⟨hb,?_⟩⟩;exact kk (.inl (i,begR true 4 kvs r)) (by rw[hgo,QO hb]) H4 sm4
  ·obtain⟨kvs,pp,v3,v4,v5,rfl,sm,tt,dd,hgo,hkl⟩:=p;have hd':(xs.zip rs).drop xs.length=[]:=List.drop_eq_nil_iff.mpr (by rw[List.length_zip];omega);rw[hd',Yc]at hgo;exact kk (.inr kvs) hgo H' sm dd tt
end
noncomputable abbrev PR:=Option (List V×List (Option (List V)))
def YT(H:Hp)(v:V)(r:PR):Prop:=match r with
|none=>Part H v none
|some (xs,rs)=>Part H v (some xs)/\Yq H xs rs
theorem Yq.sameB{H H':Hp}{t C dx:Addr}{fs:List (Str×V)}(ht:H t=some (.ins C dx fs))(s:Zh t H H'){xs:List V}{rs:List (Option (List V))}(h:Yq H xs rs):Yq H' xs rs:=⟨h.1,λi x r a b=>(h.2 i x r a b).sameB ht s⟩
theorem YT.sameB{H H':Hp}{t C dx:Addr}{fs:List (Str×V)}(ht:H t=some (.ins C dx fs))(s:Zh t H H'){v:V}{r:PR}(h:YT H v r):YT H' v r:=by
 cases r with
|none=>obtain⟨T,th,a⟩:=h;exact⟨T,th.sameB ht s,a⟩
|some p=>
  obtain⟨xs,rs⟩:=p;obtain⟨⟨p,rfl,hp⟩,hr⟩:=h;refine⟨⟨p,rfl,?_⟩,hr.sameB ht s⟩;rcases hp with hp|hp
  ·exact .inl (s _ _ hp (ne_of hp ht (by intro z;cases z)))
  ·exact .inr (s _ _ hp (ne_of hp ht (by intro z;cases z)))
noncomputable def YD(n:Nat)(go:List V->List (Option (List V))->Sum (Nat×V) (List (Key×V)))(r:PR):Sum (V×V) (List (Key×V)):=match r with
|none=>.inl (.non,.str "form")
|some (xs,rs)=>if xs.length>n then .inl (.int n,.str "many")else match go xs rs with
 |.inl (i,why)=>.inl (.int i,why)
 |.inr kvs=>.inr kvs
noncomputable def goP(_:List V)(rs:List (Option (List V))):Sum (Nat×V) (List (Key×V)):=Z9 0 [] rs
noncomputable def goR(k1:List (Key×V))(n:Int)(xs:List V)(rs:List (Option (List V))):Sum (Nat×V) (List (Key×V)):=Yk false 6 (JB k1 n) 0 [] (xs.zip rs)
noncomputable def goW(k1:List (Key×V))(xs:List V)(rs:List (Option (List V))):Sum (Nat×V) (List (Key×V)):=Yk false 5 (wayW k1) 0 [] (xs.zip rs)
noncomputable def goG(k1:List (Key×V))(n:Int)(xs:List V)(rs:List (Option (List V))):Sum (Nat×V) (List (Key×V)):=Yc k1 n 0 0 [] (xs.zip rs)
noncomputable abbrev Ks:=List (Key×V)×List (Key×V)×List (Key×V)×List (Key×V)
noncomputable def named(z:Str)(r:Sum (V×V) (List (Key×V)))(k:List (Key×V)->Sum (V×V×V) Ks):Sum (V×V×V) Ks:=match r with
|.inl (a,y)=>.inl (.str z,a,y)
|.inr kvs=>k kvs
noncomputable def U5(vT:V)(r1 r2 r3 r4:PR):Sum (V×V×V) Ks:=match vT with
|.int n=>if(decide (1<=n)&&decide (n<=50))=true then named "places" (YD 14 goP r1) λk1=>named "rides" (YD 80 (goR k1 n) r2) λk2=>named "ways" (YD 40 (goW k1) r3) λk3=>named "groups" (YD 300 (goG k1 n) r4) λk4=>.inr (k1,k2,k3,k4)else .inl (.str "turns",.non,.str "number")
|_=>.inl (.str "turns",.non,.str "number")
def Z0(H:Hp)(fs:List (Str×V))(f g:Str)(r:PR)(k:List (Key×V)):Prop:=∃l d xs rs,fs.lookup f=some (.ref l)/\fs.lookup g=some (.ref d)/\r=some (xs,rs)/\H l=some (.tup xs)/\H d=some (.dK k)
structure TabOf(H:Hp)(C t:Addr)(fs:List (Str×V))(n:Int)(r1 r2 r3 r4:PR)(k:Ks):Prop where
 tab:Tab H C t fs
 turns:fs.lookup ("turns":Str)=some (.int n)
 p:Z0 H fs "places" "room_by_place" r1 k.1
 r:Z0 H fs "rides" "ride_by_name" r2 k.2.1
 w:Z0 H fs "ways" "way_by_name" r3 k.2.2.1
 g:Z0 H fs "groups" "group_by_name" r4 k.2.2.2
def Nk(C Cb:Addr):Sp:=λvs H Q E=>∃(t dx:Addr)(vT:V)(T:String)(v1 v2 v3 v4:V)(r1 r2 r3 r4:PR),vs=[.ref t,vT,v1,v2,v3,v4]/\H t=some (.ins C dx [])/\Th H vT T/\YT H v1 r1/\YT H v2 r2/\YT H v3 r3/\YT H v4 r4 /\match U5 vT r1 r2 r3 r4 with
|.inl (p,a,y)=>∀H1,Zh t H H1->Bad Cb p a y H1 E
|.inr k=>∀H' fs n,Zh t H H'->vT=.int n->TabOf H' C t fs n r1 r2 r3 r4 k->Q .non H'
section
variable {C Cb:Addr}
structure Mid(H Hc:Hp)(C t dx:Addr)(fs:List (Str×V))(n:Int)(m:Nat):Prop where
 sm:Zh t H Hc
 at_:Hc t=some (.ins C dx fs)
 only:∀g,g∉fields->fs.lookup g=none
 len:fs.length<=m
 turns:fs.lookup ("turns":Str)=some (.int n)
theorem Mid.same{H Hc H1:Hp}{t dx:Addr}{fs:List (Str×V)}{n:Int}{m:Nat}(M:Mid H Hc C t dx fs n m)(s:Same Hc H1):Mid H H1 C t dx fs n m:=⟨M.sm.trans (Zh.of s),s _ _ M.at_,M.only,M.len,M.turns⟩
theorem Mid.next{H Hc H1:Hp}{t dx l d:Addr}{fs:List (Str×V)}{n:Int}{m:Nat}{f g:Str}(M:Mid H Hc C t dx fs n m)(s:Zh t Hc H1)(h:H1 t=some (.ins C dx (putF g (.ref d) (putF f (.ref l) fs))))(hf:f∈fields)(hg:g∈fields)(nf:("turns":Str)≠f)(ng:("turns":Str)≠g):Mid H H1 C t dx (putF g (.ref d) (putF f (.ref l) fs)) n (m+2):=by
 refine⟨M.sm.trans s,h,λx hx=>?_,?_,?_⟩
 ·rw[Zl,if_neg (λz=>hx (by rw[z];exact hg)),Zl,if_neg (λz=>hx (by rw[z];exact hf))];exact M.only x hx
 ·have h1:=Z6 f (V.ref l) fs;have h2:=Z6 g (V.ref d) (putF f (V.ref l) fs);have:=M.len;omega
 ·rw[Zl,if_neg ng,Zl,if_neg nf];exact M.turns
theorem Z0.sameB{H H':Hp}{t C dx:Addr}{fs0 fs:List (Str×V)}{f g:Str}{r:PR}{k:List (Key×V)}(ht:H t=some (.ins C dx fs0))(s:Zh t H H')(h:Z0 H fs f g r k):Z0 H' fs f g r k:=by obtain⟨l,d,xs,rs,a1,a2,a3,a4,a5⟩:=h;exact⟨l,d,xs,rs,a1,a2,a3,s _ _ a4 (ne_of a4 ht (by intro z;cases z)),s _ _ a5 (ne_of a5 ht (by intro z;cases z))⟩
theorem Z0.put{H:Hp}{fs:List (Str×V)}{f g f' g':Str}{x y:V}{r:PR}{k:List (Key×V)}(h:Z0 H fs f g r k)(n1:f≠f')(n2:f≠g')(n3:g≠f')(n4:g≠g'):Z0 H (putF g' y (putF f' x fs)) f g r k:=by obtain⟨l,d,xs,rs,a1,a2,a3⟩:=h;exact⟨l,d,xs,rs,by rw[Zl,if_neg n2,Zl,if_neg n1];exact a1,by rw[Zl,if_neg n4,Zl,if_neg n3];exact a2,a3⟩
theorem Z0.new{H:Hp}{fs:List (Str×V)}{f g:Str}{l d:Addr}{xs:List V}{rs:List (Option (List V))}{k:List (Key×V)}(h1:H l=some (.tup xs))(h2:H d=some (.dK k))(n:f≠g):Z0 H (putF g (.ref d) (putF f (.ref l) fs)) f g (some (xs,rs)) k:=⟨l,d,xs,rs,by rw[Zl,if_neg n,Zl,if_pos rfl],by rw[Zl,if_pos rfl],rfl,h1,h2⟩
theorem JP{E:XK}{z:Str}{n:Nat}(hz:(z,n)∈U9){t dx:Addr}{fs:List (Str×V)}{Hc:Hp}{v:V}{r:PR}{go:List V->List (Option (List V))->Sum (Nat×V) (List (Key×V))}{Kq:VK}(ht:Hc t=some (.ins C dx fs))(hp:YT Hc v r)(hbad:∀a y,YD n go r=.inl (a,y)->∀H1,Zh t Hc H1->Bad Cb (.str z) a y H1 E)(hgo:∀xs rs H1 l,r=some (xs,rs)->xs.length<=1000->Same Hc H1->H1 l=some (.tup xs)->Yq H1 xs rs->(∀i why,go xs rs=.inl (i,why)->∀H2,Zh t Hc H2->Bad Cb (.str z) (.int i) why H2 E)->(∀kvs,go xs rs=.inr kvs->YD n go r=.inr kvs)->Kq (.ref l) H1):Qq Cb [.str z,v] Hc Kq E:=by
 have hn:n<=300:=by simp only[U9,List.mem_cons,Prod.mk.injEq,List.not_mem_nil,or_false]at hz;omega
 cases r with
|none=>exact⟨z,n,v,none,rfl,hz,hp,λH1 s=>hbad _ _ rfl H1 (Zh.of s)⟩
|some q=>
  obtain⟨xs,rs⟩:=q;obtain⟨hp,hr⟩:=hp;refine⟨z,n,v,some xs,rfl,hz,hp,?_⟩;dsimp only;by_cases hl:xs.length>n
  ·rw[if_pos hl];exact λH1 s=>hbad _ _ (by show(if xs.length>n then _ else _)=_;rw[if_pos hl]) H1 (Zh.of s)
  ·rw[if_neg hl];refine λH1 l s h=>hgo xs rs H1 l rfl (by omega) s h (hr.sameB ht (Zh.of s)) (λi why e=>?_) (λkvs e=>?_)
   ·exact hbad _ _ (by show(if xs.length>n then _ else _)=_;rw[if_neg hl,e])
   ·show(if xs.length>n then _ else _)=_;rw[if_neg hl,e]
end
section
variable {P:Program}{w:World}{K:PySem.W.Frag}{mg:Str->Option Value}{base:Heap}{C Cb:Addr}
theorem KJ:FnScope ["self","turns","places","rides","ways","groups"] ["self","turns","places","rides","ways","groups"] (Zf T.m_Table___init__):=⟨rfl,rfl,rfl,by decide +kernel,rfl,by decide +kernel,by decide +kernel⟩
theorem Q9(G:Txt K mg)(Z:TCl K C)(B:Err P w K mg base "BadTable" ["part","at","why"] Cb)(CI:Can P w K mg base 6 "is_within" ["thing","low","high"] K1.YM)(CRo:CanX P w K mg base 6 "rows_of" ["part","rows"] (Qq Cb))(CP:CanM P w K mg base (CX1 P w) 6 C "take_places" ["self","places"] (Rx C Cb))(CR:CanM P w K mg base (CX1 P w) 6 C "take_rides" ["self","rides"] (Rw C Cb))(CW:CanM P w K mg base (CX1 P w) 6 C "take_ways" ["self","ways"] (Rv C Cb))(CG:CanM P w K mg base (CX1 P w) 6 C "take_groups" ["self","groups"] (Ry C Cb)){f:Addr}{cdv:Value}{A:Around}{outer:List Env}{s:Shared}{H:Hp}{vs:List V}{Q:VK}{E:XK}(hr:Room 6 (A.deeper (envOfC "Table.__init__" (Zf T.m_Table___init__) s.heap.objs.size f cdv)))(h:Nk C Cb vs H Q E):∃t,PSs (cxOf (CX1 P w) P w K mg base ["self","turns","places","rides","ways","groups"] "Table.__init__" (Zf T.m_Table___init__) f cdv A outer s H E) (ZJ T.m_Table___init__) t/\t {nx:=λ_ H'=>Q .non H',rt:=Q} (start ["self","turns","places","rides","ways","groups"] vs) H:=by
 obtain⟨t,dx,vT,T',v1,v2,v3,v4,r1,r2,r3,r4,rfl,ht,thT,p1,p2,p3,p4,k⟩:=h;obtain⟨t1,h1⟩:=G.turns;refine⟨_,Zd (ZH (ZQ (ZD (ZT CI hr rfl (Zg (pv 1) (Zg Zc (Zg (ZO (v:=V.int 50) rfl h1 ⟨t1,rfl⟩) Zb)))))) (Zi (XY (E:=E) B Y6 rfl (hr.mono (by omega)) rfl (Zg Zr (Zg ZI (Zg Zr Zb))))) Zv) (Zd (YQ (pv 0) (pv 1) rfl) (Zd (Yz (ZW CP Z.cl Y6 hr (pv 0) (Zg (Xe CRo Y6 hr rfl (Zg Zr (Zg (pv 2) Zb))) Zb))) (Zd (Yz (ZW CR Z.cl Y6 hr (pv 0) (Zg (Xe CRo Y6 hr rfl (Zg Zr (Zg (pv 3) Zb))) Zb))) (Zd (Yz (ZW CW Z.cl Y6 hr (pv 0) (Zg (Xe CRo Y6 hr rfl (Zg Zr (Zg (pv 4) Zb))) Zb))) (Zi (Yz (ZW CG Z.cl Y6 hr (pv 0) (Zg (Xe CRo Y6 hr rfl (Zg Zr (Zg (pv 5) Zb))) Zb)))))))),?_⟩;have kk:∀res,U5 vT r1 r2 r3 r4=res->(match res with
 |.inl (p,a,y)=>∀H1,Zh t H H1->Bad Cb p a y H1 E
 |.inr k=>∀H' fs n,Zh t H H'->vT=.int n->TabOf H' C t fs n r1 r2 r3 r4 k->Q .non H'):=λres e=>by rw[<-e];exact k
 clear k;refine⟨_,rfl,vT,T',1,50,rfl,thT,_,rfl,?_⟩;by_cases hw:K1.Zu vT 1 50=true
 ·rw[hw];refine iteF ?_;obtain⟨n,rfl⟩:∃n,vT=.int n:=by
   cases vT with
  |int n=>exact⟨n,rfl⟩
  |_=>cases hw
  have hw':(decide (1<=n)&&decide (n<=50))=true:=hw;have ek:U5 (.int n) r1 r2 r3 r4=named "places" (YD 14 goP r1) λk1=>named "rides" (YD 80 (goR k1 n) r2) λk2=>named "ways" (YD 40 (goW k1) r3) λk3=>named "groups" (YD 300 (goG k1 n) r4) λk4=>.inr (k1,k2,k3,k4):=by show(if(decide (1<=n)&&decide (n<=50))=true then _ else _)=_;rw[if_pos hw']
  rw[ek]at kk;refine⟨_,rfl,_,rfl,t,C,dx,_,rfl,ht,Z.cl,Z.na _ (by simp[fields]),by decide,?_⟩;have M0:Mid H (upd H t (.ins C dx (putF "turns" (.int n) []))) C t dx (putF "turns" (.int n) []) n 1:=⟨(Zh.refl t H).upd,Ze,λg hg=>by rw[Zl,if_neg (λz=>hg (by rw[z];simp[fields]))];rfl,Nat.le_refl _,by rw[Zl,if_pos rfl]⟩;generalize upd H t (.ins C dx (putF "turns" (.int n) []))=H0 at M0 ⊢;generalize putF "turns" (.int n) []=F0 at M0;refine⟨_,rfl,t,dx,_,rfl,M0.at_,M0.only _ (by decide +kernel),?_⟩;refine⟨_,rfl,?_⟩;dsimp only[tNil];refine JP (z:="places") (n:=14) (go:=goP) (by simp[U9]) M0.at_ (p1.sameB ht M0.sm) (λa y e H1 s1=>?_) (λxs rs H1 l er hl s1 hx hrs hb hk=>?_)
  ·rw[e]at kk;exact kk _ rfl H1 (M0.sm.trans s1)
  have M1:=M0.same s1;refine⟨t,l,dx,xs,rs,F0,rfl,M1.at_,M1.only,by have:=M1.len;omega,hx,hl,hrs,?_⟩;have s01:Zh t H0 H1:=Zh.of s1;cases e1:Z9 0 [] rs with
 |inl q=>exact λH2 s2=>hb q.1 q.2 e1 H2 (s01.trans s2)
 |inr k1=>
  rw[hk k1 e1]at kk;dsimp only[named]at kk;intro H2 d s2 hd0 hdt hd2 ht2;have A1:Z0 H2 (putF "room_by_place" (.ref d) (putF "places" (.ref l) F0)) "places" "room_by_place" r1 k1:=by rw[er];exact Z0.new (s2 _ _ hx (ne_of hx M1.at_ (by intro z;cases z))) hd2 (by decide +kernel)
  have M2:=M1.next s2 ht2 (by simp[fields]) (by simp[fields]) (by decide +kernel) (by decide +kernel);have lkP:(putF "room_by_place" (.ref d) (putF "places" (.ref l) F0)).lookup ("room_by_place":Str)=some (.ref d):=by rw[Zl,if_pos rfl]
  generalize putF "room_by_place" (.ref d) (putF "places" (.ref l) F0)=F2 at A1 M2 lkP;clear hk hb hrs hx ht2 s2 hd0 hl er e1 M1 s01 s1 M0 ek;refine⟨_,rfl,t,dx,_,rfl,M2.at_,M2.only _ (by decide +kernel),?_⟩;refine⟨_,rfl,?_⟩;dsimp only[tNil];refine JP (z:="rides") (n:=80) (go:=goR k1 n) (by simp[U9]) M2.at_ (p2.sameB ht M2.sm) (λa y e Hb sb=>?_) (λxs rs H3 l er hl s3 hx hrs hb hk=>?_)
  ·rw[e]at kk;exact kk _ rfl Hb (M2.sm.trans sb)
  have M3:=M2.same s3;refine⟨t,l,dx,d,xs,rs,F2,k1,n,rfl,M3.at_,M3.only,by have:=M3.len;omega,lkP,s3 _ _ hd2,M3.turns,hx,hl,hrs,?_⟩;have sx:Zh t H2 H3:=Zh.of s3;cases e1:Yk false 6 (JB k1 n) 0 [] (xs.zip rs)with
 |inl q=>exact λHb sb=>hb q.1 q.2 e1 Hb (sx.trans sb)
 |inr k2=>
  rw[hk k2 e1]at kk;dsimp only at kk;intro H4 d2 s4 hd0 hdm hdk ht4;have sy:Zh t H2 H4:=sx.trans s4;have A2:Z0 H4 (putF "ride_by_name" (.ref d2) (putF "rides" (.ref l) F2)) "rides" "ride_by_name" r2 k2:=by rw[er];exact Z0.new (s4 _ _ hx (ne_of hx M3.at_ (by intro z;cases z))) hdk (by decide +kernel)
  have A1:=(A1.sameB M2.at_ sy).put (f':="rides") (g':="ride_by_name") (x:=.ref l) (y:=.ref d2) (by decide +kernel) (by decide +kernel) (by decide +kernel) (by decide +kernel);have hd4:H4 d=some (.dK k1):=sy _ _ hd2 hdt;have M4:=M3.next s4 ht4 (by simp[fields]) (by simp[fields]) (by decide +kernel) (by decide +kernel);have lkP:(putF "ride_by_name" (.ref d2) (putF "rides" (.ref l) F2)).lookup ("room_by_place":Str)=some (.ref d):=by rw[Zl,if_neg (by decide +kernel),Zl,if_neg (by decide +kernel)];exact lkP
  generalize putF "ride_by_name" (.ref d2) (putF "rides" (.ref l) F2)=F4 at A1 A2 M4 lkP;clear hk hb hrs hx ht4 s4 hd0 hl er e1 M3 sx sy s3 M2 hdk;refine⟨_,rfl,t,dx,_,rfl,M4.at_,M4.only _ (by decide +kernel),?_⟩;refine⟨_,rfl,?_⟩;dsimp only[tNil];refine JP (z:="ways") (n:=40) (go:=goW k1) (by simp[U9]) M4.at_ (p3.sameB ht M4.sm) (λa y e Hb sb=>?_) (λxs rs H5 l er hl s5 hx hrs hb hk=>?_)
  ·rw[e]at kk;exact kk _ rfl Hb (M4.sm.trans sb)
  have M5:=M4.same s5;refine⟨t,l,dx,d,xs,rs,F4,k1,n,rfl,M5.at_,M5.only,by have:=M5.len;omega,lkP,s5 _ _ hd4,M5.turns,hx,hl,hrs,?_⟩;have sx:Zh t H4 H5:=Zh.of s5;cases e1:Yk false 5 (wayW k1) 0 [] (xs.zip rs)with
 |inl q=>exact λHb sb=>hb q.1 q.2 e1 Hb (sx.trans sb)
 |inr k3=>
  rw[hk k3 e1]at kk;dsimp only at kk;intro H6 d3 s6 hd0 hdm hdk ht6;have sy:Zh t H4 H6:=sx.trans s6;have A3:Z0 H6 (putF "way_by_name" (.ref d3) (putF "ways" (.ref l) F4)) "ways" "way_by_name" r3 k3:=by rw[er];exact Z0.new (s6 _ _ hx (ne_of hx M5.at_ (by intro z;cases z))) hdk (by decide +kernel)
  have A1:=(A1.sameB M4.at_ sy).put (f':="ways") (g':="way_by_name") (x:=.ref l) (y:=.ref d3) (by decide +kernel) (by decide +kernel) (by decide +kernel) (by decide +kernel);have A2:=(A2.sameB M4.at_ sy).put (f':="ways") (g':="way_by_name") (x:=.ref l) (y:=.ref d3) (by decide +kernel) (by decide +kernel) (by decide +kernel) (by decide +kernel);have hd6:H6 d=some (.dK k1):=sy _ _ hd4 hdt;have M6:=M5.next s6 ht6 (by simp[fields]) (by simp[fields]) (by decide +kernel) (by decide +kernel);have lkP:(putF "way_by_name" (.ref d3) (putF "ways" (.ref l) F4)).lookup ("room_by_place":Str)=some (.ref d):=by rw[Zl,if_neg (by decide +kernel),Zl,if_neg (by decide +kernel)];exact lkP
  generalize putF "way_by_name" (.ref d3) (putF "ways" (.ref l) F4)=F6 at A1 A2 A3 M6 lkP;clear hk hb hrs hx ht6 s6 hd0 hl er e1 M5 sx sy s5 M4 hdk;refine⟨_,rfl,t,dx,_,rfl,M6.at_,M6.only _ (by decide +kernel),?_⟩;refine⟨_,rfl,?_⟩;dsimp only[tNil];refine JP (z:="groups") (n:=300) (go:=goG k1 n) (by simp[U9]) M6.at_ (p4.sameB ht M6.sm) (λa y e Hb sb=>?_) (λxs rs H7 l er hl s7 hx hrs hb hk=>?_)
  ·rw[e]at kk;exact kk _ rfl Hb (M6.sm.trans sb)
  have M7:=M6.same s7;refine⟨t,l,dx,d,xs,rs,F6,k1,n,rfl,M7.at_,M7.only,by have:=M7.len;omega,lkP,s7 _ _ hd6,M7.turns,hx,hl,hrs,?_⟩;have sx:Zh t H6 H7:=Zh.of s7;cases e1:Yc k1 n 0 0 [] (xs.zip rs)with
 |inl q=>exact λHb sb=>hb q.1 q.2 e1 Hb (sx.trans sb)
 |inr k4=>
  rw[hk k4 e1]at kk;dsimp only at kk;intro H8 d4 s8 hd0 hdm hdk ht8;have sy:Zh t H6 H8:=sx.trans s8;have A4:Z0 H8 (putF "group_by_name" (.ref d4) (putF "groups" (.ref l) F6)) "groups" "group_by_name" r4 k4:=by rw[er];exact Z0.new (s8 _ _ hx (ne_of hx M7.at_ (by intro z;cases z))) hdk (by decide +kernel)
  have A1:=(A1.sameB M6.at_ sy).put (f':="groups") (g':="group_by_name") (x:=.ref l) (y:=.ref d4) (by decide +kernel) (by decide +kernel) (by decide +kernel) (by decide +kernel);have A2:=(A2.sameB M6.at_ sy).put (f':="groups") (g':="group_by_name") (x:=.ref l) (y:=.ref d4) (by decide +kernel) (by decide +kernel) (by decide +kernel) (by decide +kernel);have A3:=(A3.sameB M6.at_ sy).put (f':="groups") (g':="group_by_name") (x:=.ref l) (y:=.ref d4) (by decide +kernel) (by decide +kernel) (by decide +kernel) (by decide +kernel);have hd8:H8 d=some (.dK k1):=sy _ _ hd6 hdt;have M8:=M7.next s8 ht8 (by simp[fields]) (by simp[fields]) (by decide +kernel) (by decide +kernel);have lkP:(putF "group_by_name" (.ref d4) (putF "groups" (.ref l) F6)).lookup ("room_by_place":Str)=some (.ref d):=by rw[Zl,if_neg (by decide +kernel),Zl,if_neg (by decide +kernel)];exact lkP
  generalize putF "group_by_name" (.ref d4) (putF "groups" (.ref l) F6)=F8 at A1 A2 A3 A4 M8 lkP;clear hk hb hrs hx ht8 s8 hd0 hl er e1 M7 sx sy s7 M6 hdk;exact kk _ rfl H8 F8 n M8.sm rfl ⟨⟨⟨dx,M8.at_⟩,M8.only⟩,M8.turns,A1,A2,A3,A4⟩
 ·have hw0:K1.Zu vT 1 50=false:=by simpa using hw
  rw[hw0];refine iteT ?_;have ek:U5 vT r1 r2 r3 r4=.inl (.str "turns",.non,.str "number"):=by
   cases vT with
  |int n=>show(if(decide (1<=n)&&decide (n<=50))=true then _ else _)=_;rw[if_neg (by rw[show(decide (1<=n)&&decide (n<=50))=false from hw0];decide)]
  |_=>rfl
  exact⟨rfl,kk _ ek H (Zh.refl t H)⟩
end
end TB
namespace L2
open PySem PySem.Spec PyProof.Rows
section
variable {X:Cx}{CX:CXT}{k:Nat}{C:Addr}{ps:List Str}{sp:Sp}{E:XK}{m:Str}{pos apos:Pos}{o:Expr}{ta:TE}
theorem XZ{pl:Sem Bool}(c:CanM X.prog X.w X.K X.mg X.base CX k C m ps sp)(cl:Cls X.K C)(hx:Passes CX X E)(hr:Room k X.A)(he:PE X o ta)
  (ht:eval (.Call (.Attribute o m apos) [] [] pos) X.env=(do
   let ov <-eval o X.env
   standAt apos.atName
   let (f,first) <-holding [ov] (getMethod ov m pl)
   callWith pos f first (backTo pos (starEach [] X.env)) (backToKw pos (keywordEach [] X.env))):=by rfl):
  PE X (.Call (.Attribute o m apos) [] [] pos) (Rp C m sp [] E ta tNil):=by
 obtain⟨f,fd,F,me,b⟩:=c
 exact Wx he cl me F hr b .nil hx ht
end
end L2
namespace TB
open PySem L2 PySem.Spec PyProof.Rows
section
variable {P:Program}{w:World}{K:PySem.W.Frag}{mg:Str->Option Value}{base:Heap}{C Cb:Addr}
def T8(C:Addr):Sp:=λvs H Q _=>∃(t:Addr)(fs:List (Str×V))(n:Int)(r1 r2 r3 r4:PR)(k:Ks),vs=[.ref t]/\TabOf H C t fs n r1 r2 r3 r4 k /\∀q l1 l2 l3 l4 x1 x2 x3 x4 s1 s2 s3 s4,r1=some (x1,s1)->r2=some (x2,s2)->r3=some (x3,s3)->r4=some (x4,s4)->H l1=some (.tup x1)->H l2=some (.tup x2)->H l3=some (.tup x3)->H l4=some (.tup x4)->H q=none->Q (.ref q) (upd H q (.tup [.int n,.ref l1,.ref l2,.ref l3,.ref l4]))
theorem Dg:FnScope ["self"] ["self"] (Zf T.m_Table_told):=⟨rfl,rfl,rfl,by decide +kernel,rfl,by decide +kernel,by decide +kernel⟩
theorem Kc(Z:TCl K C)(D:DfM K C "told" "Table.told" T.m_Table_told ["self"]):CanM P w K mg base CX0 1 C "told" ["self"] (T8 C):=by
 refine D.can Dg (λvs H Q E h=>?_) λf cdv A outer s H vs Q E hr h=>?_
 ·obtain⟨t,fs,n,r1,r2,r3,r4,k,rfl,_⟩:=h;rfl
 ·obtain⟨t,fs,n,r1,r2,r3,r4,k,rfl,tb,kq⟩:=h;refine⟨_,Zi (Zo (Zy (Zg (ZL (pv 0) rfl) (Zg (ZL (pv 0) rfl) (Zg (ZL (pv 0) rfl) (Zg (ZL (pv 0) rfl) (Zg (ZL (pv 0) rfl) Zb))))))),?_⟩;obtain⟨dx,ht⟩:=tb.tab.at_;obtain⟨l1,d1,x1,s1,a1,_,e1,b1,_⟩:=tb.p;obtain⟨l2,d2,x2,s2,a2,_,e2,b2,_⟩:=tb.r;obtain⟨l3,d3,x3,s3,a3,_,e3,b3,_⟩:=tb.w;obtain⟨l4,d4,x4,s4,a4,_,e4,b4,_⟩:=tb.g;refine⟨_,rfl,t,C,dx,fs,_,rfl,ht,Z.cl,Z.na _ (by simp[fields]),tb.turns,_,rfl,t,C,dx,fs,_,rfl,ht,Z.cl,Z.na _ (by simp[fields]),a1,_,rfl,t,C,dx,fs,_,rfl,ht,Z.cl,Z.na _ (by simp[fields]),a2,_,rfl,t,C,dx,fs,_,rfl,ht,Z.cl,Z.na _ (by simp[fields]),a3,_,rfl,t,C,dx,fs,_,rfl,ht,Z.cl,Z.na _ (by simp[fields]),a4,by show 5<=sizeLine;decide,λl hl=>?_⟩;exact kq l l1 l2 l3 l4 x1 x2 x3 x4 s1 s2 s3 s4 e1 e2 e3 e4 b1 b2 b3 b4 hl
structure TMk(P:Program)(w:World)(K:PySem.W.Frag)(mg:Str->Option Value)(base:Heap)(C Cb:Addr):Prop where
 made:∃f fd,Mk K C f/\FnOk P w K mg base (CX1 P w) 7 f fd ["self","turns","places","rides","ways","groups"] (Nk C Cb)/\Binds K fd ["self","turns","places","rides","ways","groups"] []
 mg:mg "Table"=some (.ref C)
theorem U7{H H1:Hp}{t dx:Addr}{o o2:HO}(ht:H t=none)(hdx:H dx=none)(s:Zh t (upd (upd H dx o) t o2) H1):Same H H1:=λc u e=>by
 have h1:c≠t:=λz=>by rw[z,ht]at e;cases e
 have h2:c≠dx:=λz=>by rw[z,hdx]at e;cases e
 exact s c u (by rw[Zj h1,Zj h2];exact e) h1
end
end TB
namespace L2
open PySem PySem.Spec PyProof.Rows
section
variable {prog:Program}{w:World}{A:Around}{E:Value->Shared->Prop}{s:Shared}
theorem Pa{M:Model}{a:Addr}{Q:Option Obj->Shared->Prop}(h:Q (s.heap.get? a) s):wpAny M A (loadIfAlive a) Q E s:=λΓ p _=>by show Sem.wp M Γ (.loadIfAlive a .pure) _ _ p s;rw[Sem.wp_loadIfAlive,Sem.wp_pure];exact h
abbrev Vn(h:Heap)(z TI TO T0:Addr)(f1:Bool):Prop:=h.get? z=some {cls:=.type "zip",dict:=none,data:=.fields #[rawInt T0,.bool f1,.bool false,.ref TI,.ref TO],slots:=#[]}
theorem MD{z TI TO T0:Addr}{f1:Bool}{Q:Bool->Shared->Prop}(hz:Vn s.heap z TI TO T0 f1)(hT:∃o,s.heap.get? T0=some o)(hQ:∀h',Vn h' z TI TO T0 true->Heap.SameBut z s.heap h'->Q false {s with heap:=h'}):wpAny (model prog w) A (Builtin.SmallTypes.ownedTupleIsFree (.ref z)) Q E s:=by
 obtain⟨o,ho⟩:=hT;unfold Builtin.SmallTypes.ownedTupleIsFree;refine wpAny_bind (wpAny_field hz rfl (x:=rawInt T0) rfl ?_);show wpAny _ _ (loadIfAlive ((T0:Int).toNat) >>= _) _ _ _;refine wpAny_bind (Pa ?_);have e:(T0:Int).toNat=T0:=Int.toNat_natCast T0;rw[e,ho];show wpAny _ _ (field (.ref z) 1 >>= _) _ _ _;refine wpAny_bind (wpAny_field hz rfl (x:=.bool f1) rfl ?_);cases f1 with
|false=>show wpAny _ _ (setField (.ref z) 1 (.bool true) >>= _) _ _ _;refine wpAny_bind (wpAny_setField_rec hz (by simp) λh1 hz1 hs1=>wpAny_pure (hQ h1 hz1 hs1))
|true=>exact wpAny_pure (hQ s.heap hz (Heap.SameBut.refl ..))
theorem GB{z TI TO T0 i1 i2 l1 l2:Addr}{f1:Bool}{k1 k2:Nat}{xs ys:Array Value}{x y:Value}{Q:Value->Shared->Prop}(D:ZipApart z TI TO i1 i2 l1 l2)(hz:Vn s.heap z TI TO T0 f1)(hT:∃o,s.heap.get? T0=some o)(hTI:IsPair s.heap TI (.ref i1) (.ref i2))(h1:s.heap.IsListIter i1 l1 k1)(h2:s.heap.IsListIter i2 l2 k2)(hl1:s.heap.IsList l1 xs)(hl2:s.heap.IsList l2 ys)(hx:xs[k1]?=some x)(hy:ys[k2]?=some y)(hQ:∀h',Vn h' z TI TO T0 true->h'.IsListIter i1 l1 (k1+1)->h'.IsListIter i2 l2 (k2+1)->IsPair h' s.heap.objs.size x y->h'.objs.size=s.heap.objs.size+1 ->(∀c o,c≠z->c≠TO->c≠i1->c≠i2->s.heap.get? c=some o->h'.get? c=some o)->Q (.ref s.heap.objs.size) {s with heap:=h'}):wpAny (model prog w) A (Builtin.«zip.__next__» ⟨[.ref z],[]⟩) (λfin s'=>∃v,fin=.done (.ret v)/\Q v s') E s:=by
 show wpAny _ _ (field (.ref z) 2 >>= _) _ _ _;refine wpAny_bind (wpAny_field hz rfl (x:=.bool false) rfl ?_);show wpAny _ _ (field (.ref z) 3 >>= _) _ _ _;refine wpAny_bind (wpAny_field hz rfl (x:=.ref TI) rfl ?_);refine wpAny_bind (wpAny_seqItems hTI rfl ?_);show wpAny _ _ (Builtin.SmallTypes.ownedTupleIsFree (.ref z) >>= _) _ _ _;refine wpAny_bind (MD hz hT λh₁ hz₁ hs₁=>?_);simp only[Bool.false_eq_true,if_false];refine wpAny_bind ?_;simp only[List.forIn_toArray,List.forIn_cons,List.forIn_nil];refine wpAny_bind (wpAny_bind (wpAny_holding ?_));show wpAny _ _ (Builtin.SmallTypes.nextOf (.ref i1) >>= _) _ _ _;refine wpAny_bind (wpAny_nextOf_list_item (h1.extBut hs₁.extBut D.i1z) (hl1.extBut hs₁.extBut D.l1z) hx λh₂ h1₂ hs₂=>wpAny_pure (wpAny_pure ?_));refine wpAny_bind (wpAny_bind (wpAny_holding ?_));show wpAny _ _ (Builtin.SmallTypes.nextOf (.ref i2) >>= _) _ _ _;refine wpAny_bind (wpAny_nextOf_list_item ((h2.extBut hs₁.extBut D.i2z).extBut hs₂.extBut D.i12.symm) ((hl2.extBut hs₁.extBut D.l2z).extBut hs₂.extBut D.l2i1) hy λh₄ h2₄ hs₄=>wpAny_pure (wpAny_pure (wpAny_pure ?_)));have hsz:h₄.objs.size=s.heap.objs.size:=by rw[hs₄.1,hs₂.1,hs₁.1]
 have hz₄:Vn h₄ z TI TO T0 true:=hs₄.extBut _ _ D.i2z.symm (hs₂.extBut _ _ D.i1z.symm hz₁);have h1₄:h₄.IsListIter i1 l1 (k1+1):=h1₂.extBut hs₄.extBut D.i12;refine wpAny_bind (wpAny_newTuple (hsz:=(by show 2<=sizeLine;decide)) ?_);refine wpAny_pure ⟨_,rfl,?_⟩;show Q (.ref h₄.objs.size) _;rw[hsz];refine hQ _ (Heap.get?_push_of_some _ hz₄) (h1₄.at λo e=>Heap.get?_push_of_some _ e) (h2₄.at λo e=>Heap.get?_push_of_some _ e) ?_ ?_ λc o c1 c2 c3 c4 e=>Heap.get?_push_of_some _ (hs₄.extBut _ _ c4 (hs₂.extBut _ _ c3 (hs₁.extBut _ _ c1 e)))
 ·have this:(h₄.push {cls:=.type "tuple",data:=.seq #[x,y]}).get? h₄.objs.size=some _:=Heap.get?_push_size _ rfl;rw[hsz]at this;exact this
 ·rw[Heap.size_push,hsz]
theorem Mx{z TI TO T0 i1 i2 l1 l2:Addr}{f1:Bool}{k1 k2:Nat}{xs ys:Array Value}{Q:Fin->Shared->Prop}(hh:A.handled=none)(D:ZipApart z TI TO i1 i2 l1 l2)(hz:Vn s.heap z TI TO T0 f1)(hT:∃o,s.heap.get? T0=some o)(hTI:IsPair s.heap TI (.ref i1) (.ref i2))(h1:s.heap.IsListIter i1 l1 k1)(h2:s.heap.IsListIter i2 l2 k2)(hl1:s.heap.IsList l1 xs)(hl2:s.heap.IsList l2 ys)(hend:xs[k1]?=none\/ys[k2]?=none)(hE:∀h' e,(∀c o,c≠z->c≠TO->c≠i1->c≠i2->s.heap.get? c=some o->h'.get? c=some o)->(∃o,h'.get? e=some o/\o.cls=.type "StopIteration")->E (.ref e) {s with heap:=h'}):wpAny (model prog w) A (Builtin.«zip.__next__» ⟨[.ref z],[]⟩) Q E s:=by
 show wpAny _ _ (field (.ref z) 2 >>= _) _ _ _;refine wpAny_bind (wpAny_field hz rfl (x:=.bool false) rfl ?_);show wpAny _ _ (field (.ref z) 3 >>= _) _ _ _;refine wpAny_bind (wpAny_field hz rfl (x:=.ref TI) rfl ?_);refine wpAny_bind (wpAny_seqItems hTI rfl ?_);show wpAny _ _ (Builtin.SmallTypes.ownedTupleIsFree (.ref z) >>= _) _ _ _;refine wpAny_bind (MD hz hT λh₁ hz₁ hs₁=>?_);simp only[Bool.false_eq_true,if_false];refine wpAny_bind ?_;simp only[List.forIn_toArray,List.forIn_cons,List.forIn_nil];refine wpAny_bind (wpAny_bind (wpAny_holding ?_));show wpAny _ _ (Builtin.SmallTypes.nextOf (.ref i1) >>= _) _ _ _;cases hx:xs[k1]? with
|none=>exact wpAny_bind (wpAny_nextOf_list_end hh (h1.extBut hs₁.extBut D.i1z) (hl1.extBut hs₁.extBut D.l1z) hx λh₂ e hs₂ he=>hE h₂ e (λc o c1 _ c3 _ x=>hs₂ _ _ c3 (hs₁.extBut _ _ c1 x)) he)
|some x=>
  have hy:ys[k2]?=none:=by rcases hend with h|h;rw[hx]at h;cases h;exact h
  refine wpAny_bind (wpAny_nextOf_list_item (h1.extBut hs₁.extBut D.i1z) (hl1.extBut hs₁.extBut D.l1z) hx λh₂ h1₂ hs₂=>wpAny_pure (wpAny_pure ?_));refine wpAny_bind (wpAny_bind (wpAny_holding ?_));show wpAny _ _ (Builtin.SmallTypes.nextOf (.ref i2) >>= _) _ _ _;exact wpAny_bind (wpAny_nextOf_list_end hh ((h2.extBut hs₁.extBut D.i2z).extBut hs₂.extBut D.i12.symm) ((hl2.extBut hs₁.extBut D.l2z).extBut hs₂.extBut D.l2i1) hy λh₄ e hs₄ he=>hE h₄ e (λc o c1 c2 c3 c4 x=>hs₄ _ _ c4 (hs₂.extBut _ _ c3 (hs₁.extBut _ _ c1 x))) he)
def Ju(N0:Nat)(h:Heap)(z TI TO i1 i2 l1 l2:Addr)(xs ys:Array Value)(k:Nat):Prop:=((IsZip h z TI TO .none/\∃a b,IsPair h TO a b)\/∃T0 f1,Vn h z TI TO T0 f1/\(∃o,h.get? T0=some o)/\N0<=T0) /\IsPair h TI (.ref i1) (.ref i2)/\h.IsListIter i1 l1 k/\h.IsListIter i2 l2 k/\h.IsList l1 xs/\h.IsList l2 ys
theorem Ju.type{N0:Nat}{z TI TO i1 i2 l1 l2:Addr}{xs ys:Array Value}{k:Nat}(st:Ju N0 s.heap z TI TO i1 i2 l1 l2 xs ys k):s.TypeIs (.ref z) "zip":=by
 obtain⟨⟨hz,_⟩|⟨T0,f1,hz,_⟩,_⟩:=st
 ·exact⟨_,hz,rfl⟩
 ·exact⟨_,hz,rfl⟩
theorem N8{N0:Nat}{z TI TO i1 i2 l1 l2:Addr}(lt0:z<N0/\TO<N0/\i1<N0/\i2<N0)(hN:N0<=s.heap.objs.size){k:Nat}{xs ys:Array Value}{x y:Value}{Q:Option Value->Shared->Prop}(D:ZipApart z TI TO i1 i2 l1 l2)(st:Ju N0 s.heap z TI TO i1 i2 l1 l2 xs ys k)(hx:xs[k]?=some x)(hy:ys[k]?=some y)(hQ:∀h',Ju N0 h' z TI TO i1 i2 l1 l2 xs ys (k+1)->IsPair h' s.heap.objs.size x y->(∀c o,c≠z->c≠TO->c≠i1->c≠i2->s.heap.get? c=some o->h'.get? c=some o)->Q (some (.ref s.heap.objs.size)) {s with heap:=h'}):wpAny (model prog w) A (pyNext (.ref z)) Q E s:=by
 have hT:s.TypeIs (.ref z) "zip":=st.type;obtain⟨ha,hTI,h1,h2,hl1,hl2⟩:=st;have keep:∀h',(∀c o,c≠z->c≠TO->c≠i1->c≠i2->s.heap.get? c=some o->h'.get? c=some o)->IsPair h' TI (.ref i1) (.ref i2)/\h'.IsList l1 xs/\h'.IsList l2 ys:=λh' hk=>⟨hk _ _ D.TIz D.TITO D.TIi1 D.TIi2 hTI,hl1.at λo e=>hk _ o D.l1z D.l1TO D.l1i1 D.l1i2 e,hl2.at λo e=>hk _ o D.l2z D.l2TO D.l2i1 D.l2i2 e⟩;have lt:∀{c o},s.heap.get? c=some o->s.heap.objs.size≠c:=λe=>Nat.ne_of_gt (Heap.lt_size e);have n1:s.heap.objs.size≠i1:=by obtain⟨_,e,_⟩:=h1;exact lt e
 have n2:s.heap.objs.size≠i2:=by obtain⟨_,e,_⟩:=h2;exact lt e
 unfold pyNext;refine wpAny_bind (wpAny_attempt (wpAny_callSpecial?_slot (name:=Str.ofString "__next__") hT F.slot_zip_next (wpAny_call_entry F.slot_zip_next hT F.entry_zip_next ?_ (F.args_zip_next_1 _))));rcases ha with⟨hz,a,b,hTO⟩|⟨T0,f1,hz,⟨o0,ho0⟩,t0⟩
 ·refine zip_next_item D hz hTI hTO h1 h2 hl1 hl2 hx hy λh' a1 a2 a3 a4 a5 a6 a7=>wpAny_pure ?_;obtain⟨q1,q2,q3⟩:=keep h' a7;exact hQ h' ⟨.inr ⟨_,false,a1,⟨_,a5⟩,hN⟩,q1,a3,a4,q2,q3⟩ a5 a7
 ·refine GB D hz ⟨o0,ho0⟩ hTI h1 h2 hl1 hl2 hx hy λh' a1 a3 a4 a5 a6 a7=>wpAny_pure ?_;obtain⟨q1,q2,q3⟩:=keep h' a7;have g:∀c:Addr,c<N0->T0≠c:=λc hc=>Nat.ne_of_gt (Nat.lt_of_lt_of_le hc t0);exact hQ h' ⟨.inr ⟨T0,true,a1,⟨_,a7 _ _ (g z lt0.1) (g TO lt0.2.1) (g i1 lt0.2.2.1) (g i2 lt0.2.2.2) ho0⟩,t0⟩,q1,a3,a4,q2,q3⟩ a5 a7
theorem Qg{N0:Nat}{z TI TO i1 i2 l1 l2:Addr}{k:Nat}{xs ys:Array Value}{Q:Option Value->Shared->Prop}(hh:A.handled=none)(D:ZipApart z TI TO i1 i2 l1 l2)(st:Ju N0 s.heap z TI TO i1 i2 l1 l2 xs ys k)(hend:xs[k]?=none\/ys[k]?=none)(hQ:∀h',(∀c o,c≠z->c≠TO->c≠i1->c≠i2->s.heap.get? c=some o->h'.get? c=some o)->Q none {s with heap:=h'}):wpAny (model prog w) A (pyNext (.ref z)) Q E s:=by
 have hT:s.TypeIs (.ref z) "zip":=st.type;obtain⟨ha,hTI,h1,h2,hl1,hl2⟩:=st;unfold pyNext;have fin:∀h' e,(∀c o,c≠z->c≠TO->c≠i1->c≠i2->s.heap.get? c=some o->h'.get? c=some o)->(∃o,h'.get? e=some o/\o.cls=.type "StopIteration")->wpAny (model prog w) A (isInstance (.ref e) (.type "StopIteration") >>= λok=>if ok=true then pure none else throw (.ref e)) Q E {s with heap:=h'}:=by rintro h' e hk ⟨o,ho,hc⟩;refine wpAny_bind (wpAny_isInstance (T:="StopIteration") (b:=true) ⟨o,ho,hc⟩ isSubtype_stop ?_);exact wpAny_pure (hQ _ hk)
 rcases ha with⟨hz,a,b,hTO⟩|⟨T0,f1,hz,hT0,t0⟩
 ·refine wpAny_bind (wpAny_attempt (wpAny_callSpecial?_slot (name:=Str.ofString "__next__") hT F.slot_zip_next (wpAny_call_entry F.slot_zip_next hT F.entry_zip_next (zip_next_end hh D hz hTI hTO h1 h2 hl1 hl2 hend λh' e hk he=>fin h' e hk he) (F.args_zip_next_1 _))))
 ·refine wpAny_bind (wpAny_attempt (wpAny_callSpecial?_slot (name:=Str.ofString "__next__") hT F.slot_zip_next (wpAny_call_entry F.slot_zip_next hT F.entry_zip_next (Mx hh D hz hT0 hTI h1 h2 hl1 hl2 hend λh' e hk he=>fin h' e hk he) (F.args_zip_next_1 _))))
end
theorem Qf:typeLookup (.type "zip") "__len__"=pure none:=by rw[typeLookup_type,builtinLookup_eq_fast];kernel_rfl
theorem N6:typeLookup (.type "zip") "__length_hint__"=pure none:=by rw[typeLookup_type,builtinLookup_eq_fast];kernel_rfl
theorem Ju.keep{N0:Nat}{h h':Heap}{z TI TO i1 i2 l1 l2:Addr}{xs ys:Array Value}{k:Nat}{S:Addr}(st:Ju N0 h z TI TO i1 i2 l1 l2 xs ys k)(hS:∀b o,b≠S->h.get? b=some o->h'.get? b=some o)(n:z≠S/\TI≠S/\TO≠S/\i1≠S/\i2≠S/\l1≠S/\l2≠S)(nT:S<N0):Ju N0 h' z TI TO i1 i2 l1 l2 xs ys k:=by
 obtain⟨ha,hTI,h1,h2,hl1,hl2⟩:=st;obtain⟨n1,n2,n3,n4,n5,n6,n7⟩:=n;refine⟨?_,hS _ _ n2 hTI,h1.at λo e=>hS _ o n4 e,h2.at λo e=>hS _ o n5 e,hl1.at λo e=>hS _ o n6 e,hl2.at λo e=>hS _ o n7 e⟩;rcases ha with⟨hz,a,b,hTO⟩|⟨T0,f1,hz,⟨o0,ho0⟩,t⟩
 ·exact .inl ⟨hS _ _ n1 hz,a,b,hS _ _ n3 hTO⟩
 ·exact .inr ⟨T0,f1,hS _ _ n1 hz,⟨o0,hS _ _ (Nat.ne_of_gt (Nat.lt_of_lt_of_le nT t)) ho0⟩,t⟩
section
variable {prog:Program}{w:World}{A:Around}{E:Value->Shared->Prop}{R:Result->Shared->Prop}
def Pairs(h:Heap)(N0:Nat)(xs ys:Array Value)(Ts:List Addr):Prop:=Ts.Nodup/\(∀T∈Ts,N0<=T/\T<h.objs.size)/\∀(j:Nat)T,Ts[j]?=some T->∃x y,xs[j]?=some x/\ys[j]?=some y/\IsPair h T x y
theorem QQ{z TI TO i1 i2 l1 l2 S:Addr}{xs ys:Array Value}{N0:Nat}(hh:A.handled=none)(D:ZipApart z TI TO i1 i2 l1 l2)(nS:z≠S/\TI≠S/\TO≠S/\i1≠S/\i2≠S/\l1≠S/\l2≠S)(res:Value)(lt:z<N0/\TO<N0/\i1<N0/\i2<N0/\S<N0)(hsz:min xs.size ys.size<=sizeLine):∀(k i:Nat)(s:Shared)(Ts:List Addr)(c:Nat),min xs.size ys.size-i=k->i<=min xs.size ys.size->Ts.length=i->N0<=s.heap.objs.size->Ju N0 s.heap z TI TO i1 i2 l1 l2 xs ys i ->s.heap.get? S=some {cls:=.type "list",dict:=none,data:=.seq (Ts.map Value.ref).toArray c,slots:=#[]}->Pairs s.heap N0 xs ys Ts ->(∀h' Ts' c',(∀b o,b≠S->b≠z->b≠TO->b≠i1->b≠i2->s.heap.get? b=some o->h'.get? b=some o)->h'.get? S=some {cls:=.type "list",dict:=none,data:=.seq (Ts'.map Value.ref).toArray c',slots:=#[]}->Ts'.length=min xs.size ys.size->Pairs h' N0 xs ys Ts'->R (.ok (.ret res)) {s with heap:=h'}) ->codeAny (model prog w) A (.builtin "list.extend.loop" ⟨[.ref S,.ref z,res],[]⟩) R s:=by
 intro k;induction k with
|zero=>
  intro i s Ts c hk hi hl hN st hS hp hR;have hin:i=min xs.size ys.size:=by omega
  refine codeAny_builtin F.entry_extend_loop ?_;rw[Around.under_plainId F.plain_extend_loop _];show wpAny _ A.in1 (pyNext (.ref z) >>= _) _ _ s;have hend:xs[i]?=none\/ys[i]?=none:=by
   rcases Nat.le_total xs.size ys.size with h|h
   ·exact .inl (by rw[hin,Nat.min_eq_left h];exact Array.getElem?_eq_none (Nat.le_refl _))
   ·exact .inr (by rw[hin,Nat.min_eq_right h];exact Array.getElem?_eq_none (Nat.le_refl _))
  refine wpAny_bind (Qg hh D st hend λh' hk'=>?_);obtain⟨n1,n2,n3,n4,n5,n6,n7⟩:=nS;refine wpAny_pure (hR h' Ts c (λb o _ b1 b2 b3 b4 e=>hk' b o b1 b2 b3 b4 e) (hk' S _ n1.symm n3.symm n4.symm n5.symm hS) (by omega) ?_);obtain⟨p1,p2,p3⟩:=hp;have kt:∀T∈Ts,∀o,s.heap.get? T=some o->h'.get? T=some o:=λT hT' o e=>by have g:∀c:Addr,c<N0->T≠c:=λc hc=>Nat.ne_of_gt (Nat.lt_of_lt_of_le hc (p2 T hT').1);exact hk' T o (g z lt.1) (g TO lt.2.1) (g i1 lt.2.2.1) (g i2 lt.2.2.2.1) e
  refine⟨p1,λT hT'=>⟨(p2 T hT').1,?_⟩,λj T hj=>?_⟩
  ·obtain⟨j,hj⟩:=List.mem_iff_getElem?.mp hT';obtain⟨x,y,_,_,e⟩:=p3 j T hj;exact Heap.lt_size (kt T hT' _ e)
  ·obtain⟨x,y,q1,q2,e⟩:=p3 j T hj;exact⟨x,y,q1,q2,kt T (List.mem_of_getElem? hj) _ e⟩
|succ k ih=>
  intro i s Ts c hk hi hl hN st hS hp hR;have hlt:i<min xs.size ys.size:=by omega
  have hix:i<xs.size:=Nat.lt_of_lt_of_le hlt (Nat.min_le_left ..);have hiy:i<ys.size:=Nat.lt_of_lt_of_le hlt (Nat.min_le_right ..);refine codeAny_builtin F.entry_extend_loop ?_;rw[Around.under_plainId F.plain_extend_loop _];show wpAny _ A.in1 (pyNext (.ref z) >>= _) _ _ s;refine wpAny_bind (N8 ⟨lt.1,lt.2.1,lt.2.2.1,lt.2.2.2.1⟩ hN D st (Array.getElem?_eq_getElem hix) (Array.getElem?_eq_getElem hiy) λh' st' hpr hk'=>?_);obtain⟨n1,n2,n3,n4,n5,n6,n7⟩:=id nS;have hS':=hk' S _ n1.symm n3.symm n4.symm n5.symm hS;show wpAny _ A.in1 (updateSeq S (·.push (.ref s.heap.objs.size)) >>= _) _ _ _;refine wpAny_bind ?_;have hsS:S<s.heap.objs.size:=Heap.lt_size hS;obtain⟨p1,p2,p3⟩:=hp;have oth:∀b o,b≠S->h'.get? b=some o->(h'.update S (Obj.mapSeq (·.push (.ref s.heap.objs.size)))).get? b=some o:=λb o hb e=>(Heap.get?_update_other _ _ (Ne.symm hb)).trans e;have eT:(Ts.map Value.ref).toArray.push (Value.ref s.heap.objs.size)=((Ts++[s.heap.objs.size]).map Value.ref).toArray:=by simp
  obtain⟨c2,hS2⟩:∃c2,(h'.update S (Obj.mapSeq (·.push (.ref s.heap.objs.size)))).get? S=some {cls:=.type "list",dict:=none,data:=.seq ((Ts++[s.heap.objs.size]).map Value.ref).toArray c2,slots:=#[]}:=⟨_,(Heap.get?_update_self _ hS' rfl).trans (by rw[<-eT];rfl)⟩;refine wpAny_updateSeq hS' rfl (wpAny_pure ⟨plainId_quiet F.plain_extend_loop _,ih (i+1) _ (Ts++[s.heap.objs.size]) c2 (by omega) hlt (by simp[hl]) ?_ (st'.keep oth nS lt.2.2.2.2) hS2 ?_ λh'' Ts' c' q1 q2 q3 q4=>hR h'' Ts' c' (λb o b0 b1 b2 b3 b4 e=>q1 b o b0 b1 b2 b3 b4 (oth b o b0 (hk' b o b1 b2 b3 b4 e))) q2 q3 q4⟩) (by simp only[List.size_toArray,List.length_map];omega) (by simp only[Array.size_push,List.size_toArray,List.length_map];omega)
  ·have:=Heap.lt_size (oth _ _ (Nat.ne_of_gt hsS) hpr);exact Nat.le_of_lt (Nat.lt_of_le_of_lt hN this)
  ·have kt:∀T∈Ts,∀o,s.heap.get? T=some o->(h'.update S (Obj.mapSeq (·.push (.ref s.heap.objs.size)))).get? T=some o:=λT hT' o e=>by have g:∀c:Addr,c<N0->T≠c:=λc hc=>Nat.ne_of_gt (Nat.lt_of_lt_of_le hc (p2 T hT').1);exact oth T o (g S lt.2.2.2.2) (hk' T o (g z lt.1) (g TO lt.2.1) (g i1 lt.2.2.1) (g i2 lt.2.2.2.1) e)
   have new:=oth _ _ (Nat.ne_of_gt hsS) hpr;refine⟨?_,λT hT'=>?_,λj T hj=>?_⟩
   ·rw[List.nodup_append];refine⟨p1,by simp,λa ha b hb=>?_⟩;rw[List.mem_singleton]at hb;subst hb;exact Nat.ne_of_lt (p2 a ha).2
   ·rcases List.mem_append.mp hT' with hT'|hT'
    ·obtain⟨j,hj⟩:=List.mem_iff_getElem?.mp hT';obtain⟨x,y,_,_,e⟩:=p3 j T hj;exact⟨(p2 T hT').1,Heap.lt_size (kt T hT' _ e)⟩
    ·rw[List.mem_singleton]at hT';subst hT';exact⟨hN,Heap.lt_size new⟩
   ·rcases Nat.lt_or_ge j Ts.length with hjl|hjl
    ·rw[List.getElem?_append_left hjl]at hj;obtain⟨x,y,q1,q2,e⟩:=p3 j T hj;exact⟨x,y,q1,q2,kt T (List.mem_of_getElem? hj) _ e⟩
    ·rw[List.getElem?_append_right hjl]at hj;have hj0:j-Ts.length=0:=by
      rcases Nat.eq_zero_or_pos (j-Ts.length)with h|h
      ·exact h
      ·rw[List.getElem?_eq_none (by simp;omega)]at hj;cases hj
     rw[hj0]at hj;have e:s.heap.objs.size=T:=by simpa using hj
     subst e;have hji:j=i:=by omega
     subst hji;exact⟨_,_,Array.getElem?_eq_getElem hix,Array.getElem?_eq_getElem hiy,new⟩
end
section
variable {prog:Program}{w:World}{A:Around}{E:Value->Shared->Prop}{s:Shared}
theorem Pairs.nil{h:Heap}{N0:Nat}{xs ys:Array Value}:Pairs h N0 xs ys []:=⟨List.nodup_nil,λT hT=>(by cases hT),λj T hj=>by simp at hj⟩
theorem Ju.iter{N0:Nat}{z TI TO i1 i2 l1 l2:Addr}{xs ys:Array Value}{k:Nat}{Q:Value->Shared->Prop}(st:Ju N0 s.heap z TI TO i1 i2 l1 l2 xs ys k)(h:Q (.ref z) s):wpAny (model prog w) A (pyIter (.ref z)) Q E s:=by have hT:s.TypeIs (.ref z) "zip":=st.type;refine wpAny_pyIter_slot hT F.slot_zip_iter (wpAny_call_entry F.slot_zip_iter hT F.entry_zip_iter ?_ (F.args_zip_iter_1 _));show wpAny _ _ (ret (.ref z)) _ _ s;exact wpAny_pure ⟨_,rfl,"zip",_,hT,F.slot_zip_next.lookup,h⟩
theorem Gk{R:Result->Shared->Prop}{z TI TO i1 i2 l1 l2 S:Addr}{xs ys:Array Value}{N0:Nat}(hh:A.handled=none)(D:ZipApart z TI TO i1 i2 l1 l2)(nS:z≠S/\TI≠S/\TO≠S/\i1≠S/\i2≠S/\l1≠S/\l2≠S)(res:Value)(c₀:Nat)(lt:z<N0/\TO<N0/\i1<N0/\i2<N0/\S<N0)(hN:N0<=s.heap.objs.size)(hsz:min xs.size ys.size<=sizeLine)(st:Ju N0 s.heap z TI TO i1 i2 l1 l2 xs ys 0)(hS:s.heap.get? S=some {cls:=.type "list",data:=.seq #[] c₀})(hR:∀h' Ts' c',(∀b o,b≠S->b≠z->b≠TO->b≠i1->b≠i2->s.heap.get? b=some o->h'.get? b=some o)->h'.get? S=some {cls:=.type "list",dict:=none,data:=.seq (Ts'.map Value.ref).toArray c',slots:=#[]}->Ts'.length=min xs.size ys.size->Pairs h' N0 xs ys Ts'->R (.ok (.ret res)) {s with heap:=h'}):wpAny (model prog w) A.in1 (Builtin.List.listExtendWith (.ref S) (.ref z) res) (λfin s'=>match fin with|.done f=>R (.ok f) s'|.again c'=>c'.quiet=true/\codeAny (model prog w) A c' R s') (λe s'=>R (.error e) s') s:=by
 obtain⟨n1,n2,n3,n4,n5,n6,n7⟩:=id nS;unfold Builtin.List.listExtendWith;refine wpAny_bind (wpAny_typeOf st.type ?_);have h1:Builtin.List.listSameRef (.ref S) (.ref z)=false:=by simp[Builtin.List.listSameRef,n1.symm]
 have h2:(Value.type "zip"==Value.type "list")=false:=by decide
 have h3:(Value.type "zip"==Value.type "tuple")=false:=by decide
 simp only[h1,h2,h3,Bool.or_false,Bool.false_eq_true,if_false];refine wpAny_bind (st.iter ?_);refine wpAny_bind (wpAny_holding ?_);unfold Builtin.List.listLengthHint;refine wpAny_bind (wpAny_specialOf st.type Qf ?_);show wpAny _ A.in1 (specialOf (Value.ref z) (Str.ofString "__length_hint__") >>= _) _ _ _;refine wpAny_bind (wpAny_specialOf st.type N6 ?_);refine wpAny_pure ?_;show wpAny _ A.in1 (rule "list.extend.makes-room" >>= λ_=>Builtin.List.listTouch (.ref S) >>= λ_=>
  again (.builtin "list.extend.loop" ⟨[.ref S,.ref z,res],[]⟩)) _ _ _;refine wpAny_bind (wpAny_rule ?_);refine wpAny_bind ?_;show wpAny _ A.in1 (updateSeq S (·.push .none) >>= λ_=>updateSeq S (·.pop)) _ _ _;refine wpAny_bind (wpAny_updateSeq hS rfl ?_);have hS₂:=Heap.get?_update_self (Obj.mapSeq (·.push Value.none)) hS rfl;refine wpAny_updateSeq (hz:=by seq_fits) hS₂ rfl ?_;have hS₃:=Heap.get?_update_self (Obj.mapSeq (·.pop)) hS₂ rfl;have oth:∀b o,b≠S->s.heap.get? b=some o->((s.heap.update S (Obj.mapSeq (·.push Value.none))).update S (Obj.mapSeq (·.pop))).get? b=some o:=λb o hb e=>(Heap.get?_update_other _ _ (Ne.symm hb)).trans ((Heap.get?_update_other _ _ (Ne.symm hb)).trans e);have hsz2:((s.heap.update S (Obj.mapSeq (·.push Value.none))).update S (Obj.mapSeq (·.pop))).objs.size=s.heap.objs.size:=by
  rw[(Heap.SameBut.update ..).1,(Heap.SameBut.update ..).1]
 refine wpAny_pure ⟨plainId_quiet F.plain_extend_loop _,QQ hh D nS res lt hsz (min xs.size ys.size) 0 _ [] _ (by omega) (Nat.zero_le _) rfl (by rw[hsz2];exact hN) (st.keep oth nS lt.2.2.2.2) hS₃ Pairs.nil λh' Ts' c' q1 q2 q3 q4=>?_⟩;exact hR h' Ts' c' (λb o b0 b1 b2 b3 b4 e=>q1 b o b0 b1 b2 b3 b4 (oth b o b0 e)) q2 q3 q4
theorem UZ{Q:Value->Shared->Prop}{z TI TO i1 i2 l1 l2:Addr}{xs ys:Array Value}(hh:A.handled=none)(D:ZipApart z TI TO i1 i2 l1 l2)(lt:z<s.heap.objs.size/\TI<s.heap.objs.size/\TO<s.heap.objs.size/\i1<s.heap.objs.size/\i2<s.heap.objs.size/\l1<s.heap.objs.size/\l2<s.heap.objs.size)
  (hsz:min xs.size ys.size<=sizeLine) (hz:IsZip s.heap z TI TO .none) (hTI:IsPair s.heap TI (.ref i1) (.ref i2)) (hTO:∃a b,IsPair s.heap TO a b) (h1:s.heap.IsListIter i1 l1 0) (h2:s.heap.IsListIter i2 l2 0) (hl1:s.heap.IsList l1 xs) (hl2:s.heap.IsList l2 ys)
  (hQ:∀h' Ts' c',(∀b o,b≠z->b≠TO->b≠i1->b≠i2->s.heap.get? b=some o->h'.get? b=some o)->h'.get? s.heap.objs.size=some {cls:=.type "list",dict:=none,data:=.seq (Ts'.map Value.ref).toArray c',slots:=#[]}->Ts'.length=min xs.size ys.size->Pairs h' (s.heap.objs.size+1) xs ys Ts'->Q (.ref s.heap.objs.size) {s with heap:=h'}):
  wpAny (model prog w) A (call (.type "list") [.ref z]) Q E s:=by
 have ne:∀{b:Addr},b<s.heap.objs.size->b≠s.heap.objs.size:=λh=>Nat.ne_of_lt h
 refine callType_codes (Q₁:=λobj s₁=>obj=.ref s.heap.objs.size/\s₁={s with heap:=s.heap.push {cls:=.type "list",data:=.seq #[]}}) F.called_list (F.typeCall_list_1 _) F.entry_list_init
  (code_list_new _ ⟨rfl,rfl⟩) λobj s₁ h₁=>?_
 obtain⟨rfl,rfl⟩:=h₁
 have hS:(s.heap.push {cls:=.type "list",data:=.seq #[]}).get? s.heap.objs.size=some {cls:=.type "list",data:=.seq #[]}:=Heap.get?_push_size _ rfl
 refine⟨⟨_,hS,rfl⟩,F.args_list_init_2 _ _,?_⟩
 show wpAny _ A.in1.in1 (do let old <-Builtin.List.listItems (.ref s.heap.objs.size);Builtin.List.listUpdate (.ref s.heap.objs.size) (λ_=>#[]);letGo old.toList.reverse;Builtin.List.listExtendWith (.ref s.heap.objs.size) (.ref z) .none) _ _ _
 refine wpAny_bind ?_
 unfold Builtin.List.listItems
 refine wpAny_bind (wpAny_seqItems hS rfl (wpAny_pure ?_))
 show wpAny _ A.in1.in1 (updateSeq s.heap.objs.size (λ_=>#[]) >>= λ_=>letGo (#[]:Array Value).toList.reverse >>= λ_=>Builtin.List.listExtendWith (.ref s.heap.objs.size) (.ref z) .none) _ _ _
 refine wpAny_bind (wpAny_updateSeq hS rfl ?_)
 have hS₂:=Heap.get?_update_self (Obj.mapSeq (λ_=>(#[]:Array Value))) hS rfl
 have oth:∀b o,b≠s.heap.objs.size->s.heap.get? b=some o->((s.heap.push {cls:=.type "list",data:=.seq #[]}).update s.heap.objs.size (Obj.mapSeq (λ_=>(#[]:Array Value)))).get? b=some o:=
  λb o hb e=>(Heap.get?_update_other _ _ (Ne.symm hb)).trans (Heap.get?_push_of_some _ e)
 refine wpAny_bind (wpAny_letGo ?_)
 have hsz2:((s.heap.push {cls:=.type "list",data:=.seq #[]}).update s.heap.objs.size (Obj.mapSeq (λ_=>(#[]:Array Value)))).objs.size=s.heap.objs.size+1:=by rw[(Heap.SameBut.update ..).1,Heap.size_push]
 obtain⟨t1,t2,t3,t4,t5,t6,t7⟩:=lt
 obtain⟨a,b,hTO⟩:=hTO
 refine Gk (N0:=s.heap.objs.size+1) (A:=A.in1) hh D ⟨ne t1,ne t2,ne t3,ne t4,ne t5,ne t6,ne t7⟩ .none _ ⟨Nat.lt_succ_of_lt t1,Nat.lt_succ_of_lt t3,Nat.lt_succ_of_lt t4,Nat.lt_succ_of_lt t5,Nat.lt_succ_self _⟩ (by rw[hsz2];exact Nat.le_refl _) hsz
  ⟨.inl ⟨oth _ _ (ne t1) hz,a,b,oth _ _ (ne t3) hTO⟩,oth _ _ (ne t2) hTI,h1.at λo e=>oth _ o (ne t4) e,h2.at λo e=>oth _ o (ne t5) e,hl1.at λo e=>oth _ o (ne t6) e,hl2.at λo e=>oth _ o (ne t7) e⟩ hS₂ λh' Ts' c' q1 q2 q3 q4=>?_
 exact⟨rfl,hQ h' Ts' c' (λb o b1 b2 b3 b4 e=>q1 b o (Nat.ne_of_lt (Heap.lt_size e)) b1 b2 b3 b4 (oth b o (Nat.ne_of_lt (Heap.lt_size e)) e)) q2 q3 q4⟩
end
noncomputable def VO(H news:Hp):Hp:=λa=>match news a with|some o=>some o|none=>H a
theorem JS{H news:Hp}{a:Addr}(h:news a=none):VO H news a=H a:=by unfold VO;rw[h]
theorem UQ{H news:Hp}{a:Addr}{o:HO}(h:news a=some o):VO H news a=some o:=by unfold VO;rw[h]
section
variable {X:Cx}{pins:List (Addr×Obj)}{σ:List (Option V)}{H:Hp}{s:Shared}{h':Heap}
theorem Inv.more{news:Hp}{t':Nat}(I:Inv X pins σ H s)(k:∀b u,s.heap.get? b=some u->h'.get? b=some u)(hp:∀a o,news a=some o->s.heap.objs.size<=a)(new:∀a o,news a=some o->ZG X.prog X.w (VO H news) h' a o):Inv X pins σ (VO H news) {s with heap:=h',toks:=t'}:=by
 have old:∀b,b<s.heap.objs.size->news b=none:=λb hb=>by
  cases e:news b with
 |none=>rfl
 |some o=>exact absurd (Nat.lt_of_lt_of_le hb (hp b o e)) (Nat.lt_irrefl _)
 have oldH:∀b u,H b=some u->VO H news b=some u:=λb u e=>by rw[JS (old b (I.hok.lt e))];exact e
 refine I.un ⟨λb u q _ _ _=>k b u q,λb u q _ _ _=>⟨u.slots,k b u q⟩,λb u q n _=>by rw[JS (old b (Heap.lt_size q))];exact n,λb u q _=>⟨u,k b u q⟩,λb xs q=>oldH _ _ q,λb o u q=>oldH _ _ q,λb ps q=>⟨#[],by rw[oldH _ _ q];simp⟩⟩ λb u q=>?_;cases e:news b with
|some o=>rw[UQ e]at q;cases q;exact new b _ e
|none=>rw[JS e]at q;exact(I.hok b u q).stay (λc v _ q=>k c v q) (λc q=>oldH _ _ q) λc xs q=>oldH _ _ q
end
def Ku(H H':Hp)(l:Addr)(rows:List (List V)):Prop:=Same H H'/\H l=none/\∃as:List Addr,H' l=some (.lst (as.map V.ref))/\as.length=rows.length/\(∀a∈as,H a=none)/\∀(i:Nat)a r,as[i]?=some a->rows[i]?=some r->H' a=some (.tup r)
section
variable {X:Cx}{a b:Expr}{ta:TA}{p p2 pos pos2:Pos}
def En(ta:TA):TE:=λσ H Q=>ta σ H λvs H1=>∃(l1 l2:Addr)(xs ys:List V),vs=[.ref l1,.ref l2]/\H1 l1=some (.lst xs)/\H1 l2=some (.lst ys)/\∀H' l,Ku H1 H' l ((xs.zip ys).map λq=>[q.1,q.2])->Q (.ref l) H'
theorem Rm{xs:List V}{us:List Value}(r:Vals xs us){j:Nat}{u:Value}(h:us[j]?=some u):∃x,xs[j]?=some x/\RelV x u:=by
 have hj:j<us.length:=(List.getElem?_eq_some_iff.mp h).1;have hj':j<xs.length:=by rw[r.length];exact hj
 obtain⟨u',e,rr⟩:=r.get (List.getElem?_eq_getElem hj');rw[h]at e;cases e;exact⟨_,List.getElem?_eq_getElem hj',rr⟩
theorem QC(hc:X.calm=true)(hg:Gl X "list")(hm:X.mg "list"=none)(hg2:Gl X "zip")(hm2:X.mg "zip"=none)(ha:PA X [a,b] ta)(hs:starEach [a,b] X.env=[(false,eval a X.env),(false,eval b X.env)]:=by rfl)(hs2:starEach [b] X.env=[(false,eval b X.env)]:=by rfl)(hs3:starEach [.Call (.Name "zip" p2) [a,b] [] pos2] X.env=[(false,eval (.Call (.Name "zip" p2) [a,b] [] pos2) X.env)]:=by rfl):PE X (.Call (.Name "list" p) [.Call (.Name "zip" p2) [a,b] [] pos2] [] pos) (En ta):=by
 intro pins s σ H Q I h;refine wpAny_Call_Name_kw (JE I hg hm Jr (PyProof.Rows.callWith_type1 ?_ (by rw[hs3];rfl) (by rfl)));rw[hs3];refine Calls.spliced_cons ?_;refine Call_ (JE I hg2 hm2 boot_zip (PyProof.Rows.callWith_type1 (thn (ha pos2 pins s σ H _ I h) λus s1⟨vs,H1,I1,r1,q1⟩=>?_) (by rw[hs,hs2]) (by rw[hs2];rfl)));obtain⟨l1,l2,xs,ys,e,hx,hy,q⟩:=q1;subst e;cases r1 with
|cons r rr=>
  cases rr with
 |cons r' rr=>
   cases rr;cases r;cases r';obtain⟨z1,its,n,rv,hl,e⟩:=I1.lstM hx;obtain⟨z2,its2,n2,rv2,hl2,e2⟩:=I1.lstM hy;refine call_zip_2 (xs:=its.toArray) (ys:=its2.toArray) ⟨_,e,rfl,_,rfl⟩ ⟨_,e2,rfl,_,rfl⟩ λh' a1 a2 a3 a4 a5 hsz kk=>?_;refine Calls.spliced_nil ?_;have lt1:=Heap.lt_size e;have lt2:=Heap.lt_size e2;have D:ZipApart (s1.heap.objs.size+4) (s1.heap.objs.size+2) (s1.heap.objs.size+3) s1.heap.objs.size (s1.heap.objs.size+1) l1 l2:=by
    generalize s1.heap.objs.size=N at lt1 lt2;have g:∀(c:Nat)(k:Nat),c<N->c≠N+k:=λc k hc=>by omega
    have g2:∀i j:Nat,i≠j->N+i≠N+j:=λi j h e=>h (Nat.add_left_cancel e);exact⟨g2 2 4 (by decide),g2 3 4 (by decide),g2 0 4 (by decide),g2 1 4 (by decide),g2 2 3 (by decide),g2 2 0 (by decide),g2 2 1 (by decide),g2 3 0 (by decide),g2 3 1 (by decide),g2 0 1 (by decide),g _ 4 lt1,g _ 3 lt1,g _ 0 lt1,g _ 1 lt1,g _ 4 lt2,g _ 3 lt2,g _ 0 lt2,g _ 1 lt2⟩
   have sz:h'.objs.size=s1.heap.objs.size+5:=hsz;refine UZ (s:={s1 with heap:=h'}) (xs:=its.toArray) (ys:=its2.toArray) (I1.ok.hd hc) D ?_ ?_ a1 a2 ⟨_,_,a3⟩ a4 a5 ⟨_,kk _ _ e,rfl,_,rfl⟩ ⟨_,kk _ _ e2,rfl,_,rfl⟩ λh'' Ts c' k2 hS hlen hp=>?_
   ·show _<h'.objs.size/\_<h'.objs.size/\_<h'.objs.size/\_<h'.objs.size/\_<h'.objs.size/\_<h'.objs.size/\_<h'.objs.size;rw[sz];generalize s1.heap.objs.size=N at lt1 lt2;have g:∀k:Nat,k<5->N+k<N+5:=λk hk=>by omega
    exact⟨g 4 (by decide),g 2 (by decide),g 3 (by decide),g 0 (by decide),g 1 (by decide),Nat.lt_of_lt_of_le lt1 (Nat.le_add_right _ _),Nat.lt_of_lt_of_le lt2 (Nat.le_add_right _ _)⟩
   ·simp only[List.size_toArray];omega
   ·have kold:∀b o,s1.heap.get? b=some o->h''.get? b=some o:=λb o q=>by have hb:=Heap.lt_size q;have g:∀k:Nat,b≠s1.heap.objs.size+k:=λk=>Nat.ne_of_lt (Nat.lt_of_lt_of_le hb (Nat.le_add_right _ _));exact k2 b o (g 4) (g 3) (g 0) (g 1) (kk b o q)
    obtain⟨p1,p2,p3⟩:=hp;simp only[List.size_toArray]at hlen;have lenxy:Ts.length=min xs.length ys.length:=by rw[hlen,hl,hl2]
    let rows:=(xs.zip ys).map λq=>[q.1,q.2]
    let news:Hp:=λc=>if c=h'.objs.size then some (HO.lst (Ts.map V.ref))else if c∈Ts then some (HO.tup (rows.getD (Ts.idxOf c) []))else none
    have hS':h'.objs.size∉Ts:=λz=>Nat.not_succ_le_self _ (p2 _ z).1;have nS:news h'.objs.size=some (.lst (Ts.map V.ref)):=if_pos rfl;have nT:∀c∈Ts,news c=some (.tup (rows.getD (Ts.idxOf c) [])):=λc hc=>by have zc:c≠h'.objs.size:=λz=>hS' (by rw[<-z];exact hc);show(if c=h'.objs.size then some (HO.lst (Ts.map V.ref))else if c∈Ts then some (HO.tup (rows.getD (Ts.idxOf c) []))else none)=_;rw[if_neg zc,if_pos hc]
    have hge:s1.heap.objs.size<=h'.objs.size:=by rw[sz];exact Nat.le_add_right _ _
    have hrow:∀(i:Nat)T r,Ts[i]?=some T->rows[i]?=some r->rows.getD (Ts.idxOf T) []=r:=λi T r h1 h2=>by
     have hi:i<Ts.length:=(List.getElem?_eq_some_iff.mp h1).1;have ei:Ts.idxOf T=i:=by have e:Ts[i]=T:=(List.getElem?_eq_some_iff.mp h1).2;rw[<-e];exact p1.idxOf_getElem i hi
     rw[ei,List.getD_eq_getElem?_getD,h2];rfl
    have I2:Inv X pins σ (VO H1 news) {s1 with heap:=h'',toks:=s1.toks}:=I1.more kold (λc o hc=>?_) (λc o hc=>?_)
    ·refine⟨.ref h'.objs.size,VO H1 news,I2,rfl,q _ _ ⟨λc o ho=>?_,I1.hok.fresh hge,Ts,UQ nS,?_,λc hc=>I1.hok.fresh (Nat.le_trans hge (Nat.le_of_succ_le (p2 c hc).1)),λi T r h1 h2=>?_⟩⟩
     ·rw[JS ?_]
      ·exact ho
      ·have hlt:=I1.hok.lt ho;have zc:c≠h'.objs.size:=Nat.ne_of_lt (Nat.lt_of_lt_of_le hlt hge);have zt:c∉Ts:=λz=>Nat.lt_irrefl _ (Nat.lt_of_lt_of_le hlt (Nat.le_trans hge (Nat.le_of_succ_le (p2 c z).1)));show(if c=h'.objs.size then some (HO.lst (Ts.map V.ref))else if c∈Ts then some (HO.tup (rows.getD (Ts.idxOf c) []))else none)=_;rw[if_neg zc,if_neg zt]
     ·rw[lenxy,List.length_map,List.length_zip]
     ·rw[UQ (nT T (List.mem_of_getElem? h1)),hrow i T r h1 h2]
    ·by_cases z:c=h'.objs.size
     ·rw[z];exact hge
     ·by_cases zz:c∈Ts
      ·exact Nat.le_trans hge (Nat.le_of_succ_le (p2 c zz).1)
      ·have:news c=none:=by show(if c=h'.objs.size then some (HO.lst (Ts.map V.ref))else if c∈Ts then some (HO.tup (rows.getD (Ts.idxOf c) []))else none)=_;rw[if_neg z,if_neg zz]
       rw[this]at hc;cases hc
    ·by_cases z:c=h'.objs.size
     ·subst z;rw[nS]at hc;cases hc;refine⟨by rw[List.length_map,lenxy];omega,Ts.map Value.ref,c',?_,hS⟩;generalize Ts=l;induction l with
     |nil=>exact .nil
     |cons a l ih=>exact .cons rfl ih
     ·by_cases zz:c∈Ts
      ·rw[nT c zz]at hc;cases hc;obtain⟨j,hj⟩:=List.mem_iff_getElem?.mp zz;obtain⟨x,y,hx',hy',hpr⟩:=p3 j c hj;obtain⟨vx,ex,rx⟩:=Rm rv (j:=j) (by simpa using hx');obtain⟨vy,ey,ry⟩:=Rm rv2 (j:=j) (by simpa using hy');have er:rows[j]?=some [vx,vy]:=by show((xs.zip ys).map λq=>[q.1,q.2])[j]?=_;rw[List.getElem?_map,List.getElem?_zip_eq_some (z:=(vx,vy)) |>.mpr ⟨ex,ey⟩];rfl
       rw[hrow j c _ hj er];exact⟨by show 2<=sizeLine;decide,[x,y],.cons rx (.cons ry .nil),⟨_,hpr,rfl,_,rfl⟩⟩
      ·have:news c=none:=by show(if c=h'.objs.size then some (HO.lst (Ts.map V.ref))else if c∈Ts then some (HO.tup (rows.getD (Ts.idxOf c) []))else none)=_;rw[if_neg z,if_neg zz]
       rw[this]at hc;cases hc
end
section
variable {prog:Program}{w:World}{A:Around}{E:Value->Shared->Prop}
theorem M9{it l:Addr}{items:Array Value}(hne:l≠it):∀(n i:Nat)(s:Shared)(Q:List Value->Shared->Prop),s.heap.IsListIter it l i->s.heap.IsList l items->i+n<=items.size ->(∀h',h'.IsListIter it l (i+n)->Heap.SameBut it s.heap h'->Q ((items.toList.drop i).take n) {s with heap:=h'})->wpAny (model prog w) A (draw (.ref it) n) Q E s
|0,i,s,Q,hit,_,_,hQ=>by show wpAny _ _ (pure []) Q E s;exact wpAny_pure (by simpa using hQ s.heap hit (Heap.SameBut.refl ..))
|n+1,i,s,Q,hit,hl,hle,hQ=>by
  have hlt:i<items.size:=by omega
  show wpAny _ _ (pyNext (.ref it) >>= _) Q E s;refine wpAny_bind (wpAny_pyNext_list_item hit hl (x:=items[i]) (by simp[hlt]) λh₁ hit₁ hs₁=>?_);refine wpAny_bind (wpAny_holding (M9 hne n (i+1) _ _ hit₁ (hl.at λo e=>hs₁.extBut _ _ hne e) (by omega) λh₂ hit₂ hs₂=>wpAny_pure ?_));have hd:items.toList.drop i=items[i]::items.toList.drop (i+1):=by simp[List.drop_eq_getElem_cons,hlt]
  have:=hQ h₂ (by rw[show i+(n+1)=i+1+n by omega];exact hit₂) (hs₁.trans hs₂);rw[hd,List.take_succ_cons]at this;exact this
theorem Ux{s:Shared}{t:Addr}{items:Array Value}{Q:List Value->Shared->Prop}(hh:A.handled=none)(ht:s.heap.IsList t items)(hQ:∀h',Heap.ExtBut s.heap.objs.size s.heap h'->Q items.toList {s with heap:=h'}):wpAny (model prog w) A (unpackItems (.ref t) items.size none) Q E s:=by
 have hlt:t≠s.heap.objs.size:=by obtain⟨o,ho,_⟩:=ht;exact Nat.ne_of_lt (Heap.lt_size ho)
 unfold unpackItems;refine wpAny_bind ?_
 ·unfold notIterableAtAll;refine wpAny_bind (wpAny_specialOf ht.typeIs slot_list_iter.lookup ?_);refine wpAny_pure ?_;simp only[Bool.false_eq_true,if_false];refine wpAny_bind (wpAny_holding (wpAny_pyIter_list ht ?_));have ht0:(s.heap.push {cls:=.type "list_iterator",data:=.fields #[.ref t,.int 0 0]}).IsList t items:=ht.at λo e=>Heap.get?_push_of_some _ e;refine wpAny_bind (wpAny_holding (M9 hlt items.size 0 _ _ ⟨_,Heap.get?_push_size _ rfl,rfl,rfl⟩ ht0 (by omega) λh₁ hit₁ hs₁=>?_));have hall:List.take items.size (List.drop 0 items.toList)=items.toList:=by rw[List.drop_zero];exact List.take_of_length_le (by simp)
  rw[hall];rw[if_neg (by simp)];have ht₁:h₁.IsList t items:=ht0.at λo e=>hs₁.extBut _ _ hlt e;refine wpAny_bind (wpAny_holding (wpAny_pyNext_list_end hh hit₁ ht₁ (by simp) λh₂ he₂=>?_));simp only[Option.isSome_none,Bool.false_eq_true,if_false];refine wpAny_pure (hQ h₂ λb o hb e=>he₂ b o hb (hs₁.extBut b o hb (Heap.get?_push_of_some _ e)))
theorem Ut{s:Shared}{env:Env}{elts:List Expr}{x1}{pos:Pos}{t:Addr}{items:Array Value}{Q:Unit->Shared->Prop}(hh:A.handled=none)(ht:s.heap.IsList t items)(hn:(assignEach elts env).length=items.size)(hstar:(assignEach elts env).findIdx? (·.1)=none)(h:∀h',Heap.ExtBut s.heap.objs.size s.heap h'->wpAny (model prog w) A (assignInOrder ((assignEach elts env).map (·.2)) items.toList) Q E {s with heap:=h'}):wpAny (model prog w) A (assign (.Tuple elts x1 pos) env (.ref t)) Q E s:=by rw[assign_Tuple];refine wpAny_bind (wpAny_standAt ?_);unfold unpack;rw[hn,hstar];exact wpAny_bind (wpAny_holding (Ux hh ht h))
end
section
variable {X:Cx}{pos:Pos}
def gLst(K:PySem.W.Frag)(n:Nat)(t:TGs):TG:=λv σ H Q=>∃a xs,v=.ref a/\SqL K H a xs/\xs.length=n/\t xs σ H Q
theorem Ww{es:List Expr}{k:Nat}{t:TGs}{n:Nat}(hc:X.calm=true)(h:PGs X es t)(hn:(assignEach es X.env).length=n:=by rfl)(hst:(assignEach es X.env).findIdx? (·.1)=none:=by rfl):PG X (.Tuple es k pos) (gLst X.K n t):=by intro pins s σ H v u Q I r hw;obtain⟨a,xs,e1,hq,hl,hw⟩:=hw;subst e1;cases r;obtain⟨its,rv,ht,hz⟩:=I.list hq;refine Ut (I.ok.hd hc) ht.isList (by simp[hn,<-hl,rv.length]) hst λh' hx=>?_;have I1:Inv X pins σ H {s with heap:=h'}:=I.kept (t':=s.toks) λb o e=>hx b o (Nat.ne_of_lt (Heap.lt_size e)) e;exact h pins _ σ H xs _ Q I1 (by simpa using rv) hw
noncomputable def rLen(K:PySem.W.Frag):List V->Hp->VK->Prop:=λxs H Q=>∃p ys,xs=[.ref p]/\(SqL K H p ys\/SqT K H p ys)/\Q (.int ys.length) H
theorem Y2:YK X (.builtin "len") (rLen X.K):=Jq
end
mutual
inductive Is(H:Hp):V->PyData->Prop
|non:Is H .non .none
|bl (b:Bool):Is H (.bl b) (.bool b)
|int (i:Int):Is H (.int i) (.int i)
|str (z:Str):Is H (.str z) (.str z)
|lst {a:Addr}{xs:List V}{ds:List PyData} (e:H a=some (.lst xs)) (r:IsAll H xs ds):Is H (.ref a) (.list ds)
|tup {a:Addr}{xs:List V}{ds:List PyData} (e:H a=some (.tup xs)) (r:IsAll H xs ds):Is H (.ref a) (.tuple ds)
inductive IsAll(H:Hp):List V->List PyData->Prop
|nil:IsAll H [] []
|cons {x:V}{xs:List V}{d:PyData}{ds:List PyData} (h:Is H x d) (r:IsAll H xs ds):IsAll H (x::xs) (d::ds)
end
section
variable {P:Program}{w:World}{H:Hp}{h:Heap}
mutual
theorem Is.reads(ok:HOk P w H h):∀{x:V}{d:PyData}{v:Value},Is H x d->RelV x v->∃as,Reads h v d as
|_,_,_,.non,r=>by cases r;exact⟨_,.none⟩
|_,_,_,.bl b,r=>by cases r;exact⟨_,.bool b⟩
|_,_,_,.int i,r=>by obtain⟨t,rfl⟩:=r;exact⟨_,.int i t⟩
|_,_,_,.str z,r=>by obtain⟨t,rfl⟩:=r;exact⟨_,.str z t⟩
|_,_,_,.lst e q,r=>by cases r;obtain⟨_,its,n,rv,e2⟩:=ok _ _ e;obtain⟨as,ra⟩:=IsAll.reads ok q rv;exact⟨_,.list e2 rfl rfl (by simpa using ra)⟩
|_,_,_,.tup e q,r=>by cases r;obtain⟨_,its,rv,o,e2,hc,n,hd⟩:=ok _ _ e;obtain⟨as,ra⟩:=IsAll.reads ok q rv;exact⟨_,.tuple e2 hc hd (by simpa using ra)⟩
theorem IsAll.reads(ok:HOk P w H h):∀{xs:List V}{ds:List PyData}{us:List Value},IsAll H xs ds->Vals xs us->∃as,ReadsAll h us ds as
|_,_,_,.nil,r=>by cases r;exact⟨_,.nil⟩
|_,_,_,.cons a b,r=>by
  cases r with
 |cons r1 r2=>obtain⟨as,h1⟩:=Is.reads ok a r1;obtain⟨bs,h2⟩:=IsAll.reads ok b r2;exact⟨_,.cons h1 h2⟩
end
mutual
theorem Is.nodict:∀{x:V}{d:PyData},Is H x d->d.hasDict=false
|_,_,.non=>by simp only[PyData.hasDict]
|_,_,.bl b=>by simp only[PyData.hasDict]
|_,_,.int i=>by simp only[PyData.hasDict]
|_,_,.str z=>by simp only[PyData.hasDict]
|_,_,.lst e q=>by simp only[PyData.hasDict];exact IsAll.nodict q
|_,_,.tup e q=>by simp only[PyData.hasDict];exact IsAll.nodict q
theorem IsAll.nodict:∀{xs:List V}{ds:List PyData},IsAll H xs ds->PyData.hasDictAll ds=false
|_,_,.nil=>by simp only[PyData.hasDictAll]
|_,_,.cons a b=>by simp only[PyData.hasDictAll,Is.nodict a,IsAll.nodict b,Bool.or_false]
end
mutual
theorem Is.same{H':Hp}(s:Same H H'):∀{x:V}{d:PyData},Is H x d->Is H' x d
|_,_,.non=>.non
|_,_,.bl b=>.bl b
|_,_,.int i=>.int i
|_,_,.str z=>.str z
|_,_,.lst e q=>.lst (s _ _ e) (IsAll.same s q)
|_,_,.tup e q=>.tup (s _ _ e) (IsAll.same s q)
theorem IsAll.same{H':Hp}(s:Same H H'):∀{xs:List V}{ds:List PyData},IsAll H xs ds->IsAll H' xs ds
|_,_,.nil=>.nil
|_,_,.cons a b=>.cons (Is.same s a) (IsAll.same s b)
end
end
section
variable {X:Cx}
noncomputable def EC:List V->Hp->VK->Prop:=λxs H Q=>∃a d,xs=[.ref a]/\Is H (.ref a) d/\d.showable=true/\d.depth<=64/\d.shown.length<=sizeLine/\Q (.str d.shown) H
theorem Ms{k:Nat}(hr:Room k X.A):YK X (.builtin "repr") EC:=by intro pins s σ H xs us Q I r h;obtain⟨a,d,rfl,hd,hs,hdp,hz,q⟩:=h;obtain⟨u,rfl,rx⟩:=vals1 r;obtain⟨as,rd⟩:=hd.reads I.hok rx;cases rx;exact repr_of_reads' rd hs (PyData.noDict_hsm hd.nodict) hr.gd (by have:=hr.un;omega) (λ_ _ e=>e) (λh' u tk hk=>⟨.str d.shown,H,I.kept hk,⟨u,rfl⟩,q⟩) hz
end
theorem Zh.new'{b l:Addr}{H H1:Hp}{o:HO}(x:Zh b H H1)(hl:H1 l=none):Zh b H (L2.upd H1 l o):=λc u h hc=>by rw[Zj (Zk (x c u h hc) hl)];exact x c u h hc
theorem Zh.put{b:Addr}{H H1:Hp}{o:HO}(x:Zh b H H1):Zh b H (L2.upd H1 b o):=λc u h hc=>by rw[Zj hc];exact x c u h hc
theorem at_of{α:Type}{xs:List α}{r:Int}(h0:0<=r)(h1:r<(xs.length:Int)):∃v,atI xs r=some v/\v∈xs:=by
 have e1:((r.toNat:Nat):Int)=r:=Int.toNat_of_nonneg h0;have hr':r.toNat<xs.length:=by omega
 refine⟨xs[r.toNat],?_,List.getElem_mem hr'⟩;have h:=Zn (xs:=xs) (List.getElem?_eq_getElem hr');rwa [e1]at h
end L2
namespace WD
open PySem L2 PySem.Spec PyProof.Rows TB
noncomputable def Blts:List Str:=["len","range","int","list","tuple","zip","sum","repr","max","isinstance","bool","str","enumerate"]
noncomputable def boxV(x y z:Int):HO:=.lst [.int x,.int y,.int z]
def Zz(H:Hp)(b:Addr):Prop:=∃x y z:Int,H b=some (boxV x y z)
theorem Zz.new{H:Hp}{b l:Addr}{o:HO}(h:Zz H b)(hl:H l=none):Zz (upd H l o) b:=by obtain⟨x,y,z,e⟩:=h;exact⟨x,y,z,by rw[Zj (Zk e hl)];exact e⟩
theorem Zz.ne{H:Hp}{b l:Addr}(h:Zz H b)(hl:H l=none):l≠b:=by obtain⟨x,y,z,e⟩:=h;exact(Zk e hl).symm
theorem Zz.same{H H':Hp}{b:Addr}(h:Zz H b)(s:Same H H'):Zz H' b:=by obtain⟨x,y,z,e⟩:=h;exact⟨x,y,z,s _ _ e⟩
theorem al{b c:Addr}{H:Hp}{o:HO}{G:Hp->Prop}(B:Zz H b)(h:H c=none)(k:∀H',Zz H' b->Zh b H H'->H' c=some o->c≠b->G H'):G (upd H c o):=k _ (B.new h) ((Zh.refl b H).new' h) Ze (B.ne h)
theorem al2{b c:Addr}{H:Hp}{o:HO}{R:Type}{q:R}{G:Hp->R->Prop}(B:Zz H b)(h:H c=none)(k:∀H',Zz H' b->Zh b H H'->H' c=some o->c≠b->G H' q):G (upd H c o) q:=al (G:=λH=>G H q) B h k
def Lz:Sp:=λvs H Q _=>∃c:Int,vs=[.int c]/\∀l H',H l=none->Zz H' l->Same H H'->Q (.ref l) H'
def Xg:Sp:=λvs H Q _=>∃(b:Addr)(n:Int),vs=[.ref b,.int n]/\Zz H b/\0<n/\n.natAbs.log2<9000/\∀(r:Int)H',0<=r->r<n->Zz H' b->Zh b H H'->Q (.int r) H'
def Nl:Sp:=λvs H Q _=>∃(b:Addr),vs=[.ref b]/\Zz H b/\∀(r:Int)H',0<=r->r<=1000->Zz H' b->Zh b H H'->Q (.int r) H'
theorem MQ(a m:Int)(h:0<m)(hm:m<2 ^ 64):-(2 ^ 64)<a % m/\a % m<2 ^ 64:=by have h1:=Int.emod_nonneg a (by omega:m≠0);have h2:=Int.emod_lt_of_pos a h;omega
theorem ZA{n:Int}(h:0<=n)(h2:n<=1000):n.natAbs.log2<9000:=Nat.lt_of_le_of_lt (Nat.log2_le_self _) (by omega)
theorem XG{p:Bool}{A B:Prop}(h1:p=true->A)(h2:p=false->B):if p=true then A else B:=by
 cases p
 ·exact h2 rfl
 ·exact h1 rfl
section
variable {P:Program}{w:World}{K:PySem.W.Frag}{mg:Str->Option Value}{base:Heap}
theorem Qw:FnScope ["_law_cell_here"] ["_law_cell_here"] (Zf T.f__law_box):=scO (by decide +kernel)
theorem Lo(B:∀x∈Blts,mg x=none)(D:Df K mg "_law_box" T.f__law_box ["_law_cell_here"]):Can P w K mg base 1 "_law_box" ["_law_cell_here"] Lz:=by
 refine D.can Qw (λvs H Q E h=>?_) (λf cdv A outer s H vs Q E hr h=>?_)
 ·obtain⟨c,rfl,_⟩:=h;rfl
 ·obtain⟨c,rfl,k⟩:=h;refine⟨_,(Zi (Zo (Z2 (Za (ZC (TM rfl) rfl (B _ (by decide +kernel)) PyProof.Rows.boot_max (Za Zc (Za (Zx Jk (pv 0) (Zx Dv Zc Zc)) Zb))) (Za (Zx XN (pv 0) Zc) (Za Zc Zb)))))),?_⟩;refine⟨_,rfl,_,_,rfl,rfl,⟨by decide,by decide,by decide⟩,_,_,rfl,rfl,_,_,rfl,_,rfl,_,_,rfl,rfl,(by show(0:Int)<2147483647;decide),(by show 3<=sizeLine;decide),λp hp=>?_⟩;exact k p _ hp ⟨_,_,_,Ze⟩ (sameNew (Same.refl _) hp)
theorem Xy:FnScope ["_law_box_here","_law_many","_law_digit","_law_number"] ["_law_box_here","_law_many"] (Zf T.f__law_take):=scO (by decide +kernel)
theorem Kd(D:Df K mg "_law_take" T.f__law_take ["_law_box_here","_law_many"]):Can P w K mg base 1 "_law_take" ["_law_box_here","_law_many"] Xg:=by
 refine D.can Xy (λvs H Q E h=>?_) (λf cdv A outer s H vs Q E hr h=>?_)
 ·obtain⟨b,n,rfl,_⟩:=h;rfl
 ·obtain⟨b,n,rfl,⟨x,y,z,hb⟩,hn,hlog,k0⟩:=h;have k:∀r x' y' z':Int,0<=r->r<n->Q (.int r) (upd H b (boxV x' y' z')):=λr x' y' z' h0 h1=>k0 r _ h0 h1 ⟨_,_,_,Ze⟩ (Zh.refl b H).put;refine⟨_,(Zd (ZH (ZF WI (il K (pv 0) Zc) Zc (ZE _)) (Zd (st 2 Xy.nd (Zx XN (il K (pv 0) Zc) (pv 1))) (Zd (UK (Zx WJ (il K (pv 0) Zc) (pv 1)) (Wv (pv 0) Zc set_list)) (Zi (Zo (pv 2))))) Zv) (Zd (UK (Zx Z3 (il K (pv 0) Zc) Zc) (Wv (pv 0) Zc set_list)) (Zd (st 3 Xy.nd (Zx XN (Zx Z3 (Zx Z3 (Zx UN (il K (pv 0) Zc) Zc) (Zx UN Zc (il K (pv 0) Zc))) Zc) Zc)) (Zd (st 3 Xy.nd (Zx XN (Zx UN (Zx XN (Zx UN (pv 3) (pv 3)) Zc) Zc) Zc)) (Zi (Zo (Zx XN (Zx KZ (Zx XN (Zx UN (pv 3) (pv 3)) Zc) Zc) (pv 1)))))))),?_⟩;have a0:atI [V.int x,V.int y,V.int z] 0=some (.int x):=Zn (j:=0) rfl;refine⟨_,rfl,b,_,0,_,rfl,rfl,SqL.of hb,a0,_,_,rfl,rfl,_,rfl,?_⟩;refine ite2 (λe=>?_) (λe=>?_)
  ·refine⟨_,rfl,b,_,0,_,rfl,rfl,SqL.of hb,a0,_,rfl,_,_,rfl,rfl,hn,?_⟩;refine⟨_,rfl,b,_,0,_,rfl,rfl,SqL.of hb,a0,_,rfl,_,_,rfl,rfl,⟨hn,hlog⟩,?_⟩;refine⟨_,rfl,b,_,0,0,rfl,rfl,hb,rfl,_,rfl,?_⟩;exact k _ _ _ _ (Int.emod_nonneg _ (by omega)) (Int.emod_lt_of_pos _ hn)
  ·have a2:atI [V.int x,V.int y,V.int z] 2=some (.int z):=Zn (j:=2) rfl;refine⟨_,rfl,b,_,2,_,rfl,rfl,SqL.of hb,a2,_,_,rfl,rfl,?_⟩;refine⟨_,rfl,b,_,2,2,rfl,rfl,hb,rfl,?_⟩;have hb2:upd H b (.lst ([V.int x,V.int y,V.int z].set 2 (.int (z+1)))) b=some (boxV x y (z+1)):=Ze;have b1:atI [V.int x,V.int y,V.int (z+1)] 1=some (.int y):=Zn (j:=1) rfl;have b2:atI [V.int x,V.int y,V.int (z+1)] 2=some (.int (z+1)):=Zn (j:=2) rfl;refine⟨_,rfl,b,_,1,_,rfl,rfl,SqL.of hb2,b1,_,_,rfl,rfl,.inr ⟨by decide,by decide⟩,_,rfl,b,_,2,_,rfl,rfl,SqL.of hb2,b2,_,_,rfl,rfl,.inl ⟨by decide,by decide⟩,_,_,rfl,rfl,_,_,rfl,rfl,_,_,rfl,rfl,(by show(0:Int)<2147483629;decide),?_⟩;refine⟨_,rfl,_,rfl,_,_,rfl,rfl,.inl (MQ _ _ (by decide) (by decide)),_,_,rfl,rfl,(by show(0:Int)<2147483587;decide),_,_,rfl,rfl,.inr ⟨by decide,by decide⟩,_,_,rfl,rfl,(by show(0:Int)<2147483647;decide),?_⟩;refine⟨_,rfl,_,rfl,_,_,rfl,rfl,.inl (MQ _ _ (by decide) (by decide)),_,_,rfl,rfl,(by show(0:Int)<2147483629;decide),_,_,rfl,rfl,⟨by decide,by decide⟩,_,rfl,_,_,rfl,rfl,hn,?_⟩;exact k _ _ _ _ (Int.emod_nonneg _ (by omega)) (Int.emod_lt_of_pos _ hn)
theorem U6:FnScope ["_law_box_here","_law_way_here"] ["_law_box_here"] (Zf T.f__law_size):=scO (by decide +kernel)
theorem Kf(CT:Can P w K mg base 1 "_law_take" ["_law_box_here","_law_many"] Xg)(D:Df K mg "_law_size" T.f__law_size ["_law_box_here"]):Can P w K mg base 2 "_law_size" ["_law_box_here"] Nl:=by
 refine D.can U6 (λvs H Q E h=>?_) (λf cdv A outer s H vs Q E hr h=>?_)
 ·obtain⟨b,rfl,_⟩:=h;rfl
 ·obtain⟨b,rfl,hb,k⟩:=h;refine⟨_,(Zd (st 1 U6.nd (cn CT hr (Za (pv 0) (Za Zc Zb)))) (Zd (ZH (ZF X4 (pv 1) Zc (ZE _)) (Zi (Zo (il K (Z2 (Za Zc (Za Zc (Za Zc Zb)))) (cn CT hr (Za (pv 0) (Za Zc Zb)))))) Zv) (Zi (Zo (cn CT hr (Za (pv 0) (Za Zc Zb))))))),?_⟩;refine⟨_,rfl,b,8,rfl,hb,by decide,ZA (by decide) (by decide),λr H1 h0 h1 B1 S1=>?_⟩;refine⟨_,rfl,rfl,_,rfl,?_⟩;refine ite2 (λe=>?_) (λe=>?_)
  ·refine⟨by show 3<=sizeLine;decide,λl hl=>?_⟩;have nlb:=B1.ne hl;refine⟨_,rfl,b,3,rfl,B1.new hl,by decide,ZA (by decide) (by decide),λr2 H2 h02 h12 B2 S2=>?_⟩;obtain⟨v,hv,hm⟩:=at_of (xs:=[V.int 0,.int 1000,.int 999]) h02 h12;refine⟨l,_,r2,v,rfl,rfl,SqL.of (S2 _ _ Ze nlb),hv,?_⟩;have S:Zh b H H2:=(S1.new' hl).trans S2;simp only[List.mem_cons,List.not_mem_nil,or_false]at hm;rcases hm with rfl|rfl|rfl
   ·exact k 0 H2 (by decide) (by decide) B2 S
   ·exact k 1000 H2 (by decide) (by decide) B2 S
   ·exact k 999 H2 (by decide) (by decide) B2 S
  ·refine⟨_,rfl,b,5,rfl,B1,by decide,ZA (by decide) (by decide),λr2 H2 h02 h12 B2 S2=>?_⟩;exact k r2 H2 h02 (by omega) B2 (S1.trans S2)
end
noncomputable abbrev codes:=K1.codes
noncomputable abbrev LET:=K1.LET
theorem Ti{a b:Str}(h:codes a=codes b):a=b:=by
 obtain⟨x⟩:=a;obtain⟨y⟩:=b;have:x=y:=by simpa[K1.codes]using h
 rw[this]
theorem YJ(a b:Str):codes (a++b)=codes a++codes b:=by show(a.cps++b.cps).toList=_;simp[K1.codes]
theorem Tg(c:Nat):codes ⟨#[c]⟩=[c]:=rfl
theorem Ve{α:Type}(xs:List α)(a:Nat):∀k,a+k<=xs.length->((List.range k).map λi=>a+i).filterMap (λi=>xs[i]?)=(xs.drop a).take k
|0,_=>by simp
|k+1,h=>by
  rw[List.range_succ,List.map_append,List.filterMap_append,Ve xs a k (by omega)];have hk:a+k<xs.length:=by omega
  rw[List.take_succ];congr 1;simp[hk]
theorem W0(n:Nat)(j:Int)(h:0<=j):Builtin.Str.strSliceIndices none (some j) 1 n=(List.range (min j.toNat n)).map λi=>0+i:=by
 unfold Builtin.Str.strSliceIndices sliceRange;obtain⟨m,rfl⟩:=Int.eq_ofNat_of_zero_le h;simp only[show(1:Int)>0 by decide,if_true,show ¬(m:Int)<0 by omega,if_false];rw[show max 0 (min (m:Int) n)=((min m n:Nat):Int) by omega,Int.toNat_natCast];generalize min m n=t;have e:(if(0:Int)<t then((t:Int)-0+1-1) / 1 else 0).toNat=t:=by rw[Int.ediv_one];split<;>omega
 rw[e];apply List.map_congr_left;intro k _;omega
theorem W2(n:Nat)(j:Int)(h:0<=j)(h2:j<=n):Builtin.Str.strSliceIndices (some j) none 1 n=(List.range (n-j.toNat)).map λi=>j.toNat+i:=by
 unfold Builtin.Str.strSliceIndices sliceRange;obtain⟨m,rfl⟩:=Int.eq_ofNat_of_zero_le h;simp only[show(1:Int)>0 by decide,if_true,show ¬(m:Int)<0 by omega,if_false];rw[show max 0 (min (m:Int) n)=m by omega,Int.toNat_natCast];have e:(if(m:Int)<(n:Int)then((n:Int)-m+1-1) / 1 else 0).toNat=n-m:=by rw[Int.ediv_one];split<;>omega
 rw[e];apply List.map_congr_left;intro k _;omega
theorem Pp(x:Str)(l:List Nat):(l.filterMap (x.cps[·]?))=l.filterMap (λi=>(codes x)[i]?):=by congr 1;funext i;simp[K1.codes]
theorem ZK(x:Str):(codes x).length=x.length:=K1.clen x
theorem Vl(x:Str)(j:Int)(h:0<=j):codes (Txt.slice x none (some j))=(codes x).take j.toNat:=by
 unfold Txt.slice;rw[W0 _ _ h];split
 ·rename_i hq;have:min j.toNat x.length=x.length:=by simpa using hq
  rw[List.take_of_length_le (by rw[ZK];omega)]
 ·show(List.filterMap _ _)=_;rw[Pp,Ve _ 0 _ (by rw[ZK];omega),List.drop_zero];rcases Nat.le_total j.toNat x.length with hh|hh
  ·rw[Nat.min_eq_left hh]
  ·rw[Nat.min_eq_right hh,List.take_of_length_le (by rw[ZK];exact Nat.le_refl _),List.take_of_length_le (by rw[ZK];omega)]
theorem QR(x:Str)(j:Int)(h:0<=j)(h2:j<=x.length):codes (Txt.slice x (some j) none)=(codes x).drop j.toNat:=by
 unfold Txt.slice;rw[W2 _ _ h h2];split
 ·rename_i hq;have:x.length-j.toNat=x.length:=by simpa using hq
  have hl:=ZK x;rcases Nat.eq_zero_or_pos x.length with e|e
  ·have:codes x=[]:=List.eq_nil_of_length_eq_zero (by omega);rw[this];simp
  ·have:j.toNat=0:=by omega
   rw[this,List.drop_zero]
 ·show(List.filterMap _ _)=_;rw[Pp,Ve _ j.toNat _ (by rw[ZK];omega),List.take_of_length_le (by rw[List.length_drop,ZK];omega)]
theorem Mm:∀(ts:List Str),codes (Txt.join Str.empty ts)=(ts.map codes).flatten
|[]=>rfl
|[t]=>by show codes (Txt.join Str.empty [t])=_;unfold Txt.join;rw[PySem.StrLaws.glued_eq_join];show codes t=_;simp
|t::u::r=>by have ih:=Mm (u::r);unfold Txt.join at ih ⊢;rw[PySem.StrLaws.glued_eq_join]at ih ⊢;show codes (t++Str.empty++Str.join Str.empty (u::r))=_;rw[YJ,YJ,ih];simp[K1.codes,Str.empty]
def Nm(t:Str):Prop:=1<=(codes t).length/\(codes t).length<=8/\∀c∈codes t,c∈LET
def Bs(n:Nat)(t:Str):Prop:=(codes t).length=n/\∀c∈codes t,c∈LET
theorem Bs.join{ts:List Str}(h:∀t∈ts,Bs 1 t):Bs ts.length (Txt.join Str.empty ts):=by
 unfold Bs;rw[Mm];induction ts with
|nil=>simp
|cons t r ih=>
  obtain⟨a,b⟩:=h t List.mem_cons_self;obtain⟨a',b'⟩:=ih λu hu=>h u (List.mem_cons_of_mem _ hu);refine⟨by simp only[List.map_cons,List.flatten_cons,List.length_append,List.length_cons];omega,λc hc=>?_⟩;rw[List.map_cons,List.flatten_cons]at hc;rcases List.mem_append.mp hc with hc|hc
  ·exact b c hc
  ·exact b' c hc
noncomputable def wds:List Str:=["home","ride","turns","place","way","group","out","wait"]
noncomputable def wdsFrom(a n:Nat):List Str:=(List.range n).map λk=>wds.getD ((a+k) % 8) ""
theorem LS:∀a<8,∀n<9,(wdsFrom a n).Nodup:=by decide +kernel
theorem LR:∀t∈wds,1<=(codes t).length/\(codes t).length<=8/\∀c∈codes t,c∈LET:=by decide +kernel
theorem Qi(a n:Nat):∀t∈wdsFrom a n,Nm t:=λt ht=>by obtain⟨k,_,rfl⟩:=List.mem_map.mp ht;have:(a+k) % 8<wds.length:=Nat.mod_lt _ (by decide);rw[List.getD_eq_getElem?_getD,List.getElem?_eq_getElem this];exact LR _ (List.getElem_mem this)
noncomputable def begs(base:Str)(sz n:Nat):List Str:=(List.range n).map λk=>Txt.slice base none (some ((1+(k+sz) % 8:Nat):Int))
theorem Lr{base:Str}(hb:Bs 8 base)(sz n:Nat):∀t∈begs base sz n,Nm t:=λt ht=>by obtain⟨k,_,rfl⟩:=List.mem_map.mp ht;unfold Nm;rw[Vl _ _ (by omega)];refine⟨by rw[List.length_take,hb.1];omega,by rw[List.length_take,hb.1];omega,λc hc=>hb.2 c (List.mem_of_mem_take hc)⟩
theorem nodup_map_on{α β:Type}{f:α->β}:∀{l:List α},l.Nodup->(∀a∈l,∀b∈l,f a=f b->a=b)->(l.map f).Nodup
|[],_,_=>List.nodup_nil
|a::l,h,i=>by rw[List.map_cons,List.nodup_cons];rw[List.nodup_cons]at h;refine⟨λhm=>?_,nodup_map_on h.2 λx hx y hy e=>i x (List.mem_cons_of_mem _ hx) y (List.mem_cons_of_mem _ hy) e⟩;obtain⟨b,hb,e⟩:=List.mem_map.mp hm;exact h.1 (i b (List.mem_cons_of_mem _ hb) a List.mem_cons_self e▸hb)
theorem Ls{base:Str}(hb:Bs 8 base)(sz:Nat){n:Nat}(hn:n<=8):(begs base sz n).Nodup:=by refine nodup_map_on List.nodup_range λa ha b hb' e=>?_;rw[List.mem_range]at ha hb';have e1:=congrArg (λt=>(codes t).length) e;simp only[Vl _ _ (Int.natCast_nonneg _),List.length_take,hb.1,Int.toNat_natCast]at e1;omega
noncomputable def put(base:Str)(at_:Nat)(c:Nat):Str:=Txt.slice base none (some (at_:Int))++⟨#[c]⟩++Txt.slice base (some (at_:Int)) none
theorem UY{base:Str}{a:Nat}(h:a<=base.length)(c:Nat):codes (put base a c)=(codes base).take a++[c]++(codes base).drop a:=by unfold put;rw[YJ,YJ,Vl _ _ (by omega),QR _ _ (by omega) (by omega),Tg];simp
noncomputable def sgn(f k:Nat):Nat:=LET.getD ((f+5*k) % 26) 0
theorem KC(f k:Nat):sgn f k∈LET:=by have:(f+5*k) % 26<LET.length:=Nat.mod_lt _ (by decide);unfold sgn;rw[List.getD_eq_getElem?_getD,List.getElem?_eq_getElem this];exact List.getElem_mem this
theorem Dd:∀f<26,∀n<14,((List.range n).map (sgn f)).Nodup:=by decide +kernel
noncomputable def puts(base:Str)(a f n:Nat):List Str:=(List.range n).map λk=>put base a (sgn f k)
theorem KR{base:Str}{sz:Nat}(hb:Bs sz base)(hs:sz<=7){a:Nat}(ha:a<=sz)(f n:Nat):∀t∈puts base a f n,Nm t:=λt ht=>by
 obtain⟨k,_,rfl⟩:=List.mem_map.mp ht;have hl:base.length=sz:=by rw[<-ZK];exact hb.1
 unfold Nm;rw[UY (by omega)];refine⟨by simp;omega,by simp[hb.1];omega,λc hc=>?_⟩;simp only[List.mem_append,List.mem_singleton]at hc;rcases hc with(hc|hc)|hc
 ·exact hb.2 c (List.mem_of_mem_take hc)
 ·rw[hc];exact KC f k
 ·exact hb.2 c (List.mem_of_mem_drop hc)
theorem KS{base:Str}{sz:Nat}(hb:Bs sz base){a:Nat}(ha:a<=sz){f n:Nat}(hf:f<26)(hn:n<14):(puts base a f n).Nodup:=by
 have hl:base.length=sz:=by rw[<-ZK];exact hb.1
 refine nodup_map_on List.nodup_range λx hx y hy e=>?_;have e1:=congrArg codes e;rw[UY (by omega),UY (by omega)]at e1;have e2:sgn f x=sgn f y:=by rw[List.append_assoc,List.append_assoc]at e1;have:=List.append_cancel_left e1;simpa using this
 have nd:=Dd f hf n hn;rw[List.mem_range]at hx hy;have h1:((List.range n).map (sgn f))[x]'(by simpa using hx)=((List.range n).map (sgn f))[y]'(by simpa using hy):=by simpa using e2
 exact(List.getElem_inj nd).mp h1
end WD
namespace L2
open PySem PySem.Spec PyProof.Rows
section
variable {X:Cx}
theorem Jg{i:Nat}{x:Str}{pos' pos2:Pos}{elt iter tg:Expr}{ifs:List Expr}{scope:Scope}{pos:Pos}{N:List Str}{cp:List (Option Nat)}{wi:TI}{g:TG}{tc:TT}{te:TE}(hNd:X.N.Nodup)(hix:X.N[i]?=some x)(hlx:Loc X.env.scope x)(hc:X.calm=true){sc:Scope}{N0:List Str}(hS0:CompScope scope sc)(hN0:CompNames N0 scope N cp)
  (hi:PI X tg iter wi) (hg:∀C s H ex pn,PG (Jo X scope N C s H ex pn) tg g) (ht:∀C s H ex pn,PTs (Jo X scope N C s H ex pn) ifs tc) (he:∀C s H ex pn,PE (Jo X scope N C s H ex pn) elt te)
  (hsw:swapsWith (.ListComp elt [⟨tg,iter,ifs,0⟩] scope pos) (some (.Name x pos')) pos2.line X.env=pure true:=by with_unfolding_all rfl) (hff:X.fn x=true\/X.env.scope.names.lookup x=some .local:=by first|exact .inl rfl|exact .inr rfl|assumption)
  (hsc:X.env.scope=sc:=by rfl) (hxn:X.N=N0:=by rfl) (hs:∀x,foldedSetIterable iter X.env x=pure x:=by intro _;rfl):PS X (.Assign [.Name x pos'] (.ListComp elt [⟨tg,iter,ifs,0⟩] scope pos) pos2) (tAsg (Lx cp wi g tc te) (RV i)):=by
 subst hsc hxn
 have hS:=hS0
 have hN:=hN0
 intro pins s σ H D I h
 rw[exec_Assign_Name_used _ _ _ _ hsw]
 refine wpAny_bind (wpAny_standAt (wpAny_bind ?_))
 show wpAny _ _ (do let _ <-comprehension (.ListComp elt [⟨tg,iter,ifs,0⟩] scope pos) scope X.env _ (newList []) false (eval iter X.env) (some (assign (.Name x pos') X.env))) _ _ s
 refine wpAny_bind (wpAny_mono (wpAny_comprehension_free (Q:=λ_ s'=>SP X pins D .next s') (use:=some (assign (.Name x pos') X.env)) (cl:=clOf scope X.env) rfl hs (Mn (Mo I hS)) hS.kind hS.loc (thn (hi pins s σ H _ I h) λv s1 h1=>thn h1 λitv s2 h2=>?_)) (λ_ s' hq=>wpAny_pure (wpAny_pure hq)) λ_ _ e=>e)
 obtain⟨it,fp,tn,J,H2,rfl,I2,T,st2,f2,W,⟨m0,w0⟩,turn⟩:=h2
 refine wpAny_newObj_type (wpAny_newFunctionEnv hS.nocell (by intro y hy;simp at hy) (λh4 hns hsb=>?_) hS.kind)
 dsimp only at hns hsb ⊢
 have hz:(s2.heap.push (Zw [] 0)).objs.size=s2.heap.objs.size+1:=Heap.size_push ..
 have hk4:∀b o,(s2.heap.push (Zw [] 0)).get? b=some o->h4.get? b=some o:=λb o e=>hsb.extBut b o (Nat.ne_of_lt (Heap.lt_size e)) (Heap.get?_push_of_some _ e)
 have hfo:∀b∈fp,∃o,s2.heap.get? b=some o:=λb hb=>let ⟨o,e,_⟩:=T.obj _ _ st2 b hb;⟨o,e⟩
 have fplt:∀b∈fp,b<s2.heap.objs.size:=λb hb=>let ⟨o,e⟩:=hfo b hb;Heap.lt_size e
 generalize hXc:Jo X scope N (s2.heap.push (Zw [] 0)).objs.size {s2 with heap:=s2.heap.push (Zw [] 0)} H2 (s2.heap.objs.size::fp) (X.pn++pins)=Xc
 have J0:∀tk,Inv Xc [(s2.heap.objs.size,Zw [] 0)] (inner cp σ) H2 {s2 with heap:=h4,toks:=tk}:=λtk=>by
  rw[<-hXc]
  exact PJ hS hN I2 f2 hfo XF hns hk4 rfl
 have hg':PG Xc tg g:=hXc▸hg _ _ _ _ _
 have ht':PTs Xc ifs tc:=hXc▸ht _ _ _ _ _
 have he':PE Xc elt te:=hXc▸he _ _ _ _ _
 have eP:Xc.prog=X.prog:=by rw[<-hXc];rfl
 have eW:Xc.w=X.w:=by rw[<-hXc];rfl
 have eK:Xc.K=X.K:=by rw[<-hXc];rfl
 have eA:Xc.A=X.A:=by rw[<-hXc];rfl
 have eC:Xc.calm=true:=by rw[<-hXc];exact hc
 have eX:Xc.xe=NoX:=by rw[<-hXc];rfl
 have eE:Xc.env=compEnvC scope (clOf scope X.env) (s2.heap.push (Zw [] 0)).objs.size X.env:=by rw[<-hXc];rfl
 have eL:Xc.env.locals=(s2.heap.push (Zw [] 0)).objs.size:=by rw[eE];rfl
 have eFs:Xc.fs=frs X.stack:=by rw[<-hXc];rfl
 have eEx:Xc.ex=s2.heap.objs.size::fp:=by rw[<-hXc];rfl
 have eH0:Xc.H₀=H2:=by rw[<-hXc];rfl
 have eS0:Xc.s₀={s2 with heap:=s2.heap.push (Zw [] 0)}:=by rw[<-hXc];rfl
 have ePn:Xc.pn=X.pn++pins:=by rw[<-hXc];rfl
 have stk:∀b∈frs X.stack,b<s2.heap.objs.size:=λb hb=>by
  rcases List.mem_cons.mp (I2.stkSub b hb)with e|e
  ·rw[e];exact I2.lt
  ·exact Nat.lt_of_not_le λz=>I2.nofs z e
 have hDne:s2.heap.objs.size≠Xc.env.locals:=by rw[eL,hz];exact Nat.ne_of_lt (Nat.lt_succ_self _)
 have hDfs:s2.heap.objs.size∉Xc.fs:=by rw[eFs];exact λz=>Nat.lt_irrefl _ (stk _ z)
 have hDp:∀p∈Xc.pn,p.1≠s2.heap.objs.size:=λp hp=>by
  rw[ePn]at hp
  exact Nat.ne_of_lt (Heap.lt_size (I2.pin p hp).1)
 have hDc:∀{τ:St}{H':Hp}{s':Shared}{ps:List (Addr×Obj)},Inv Xc ps τ H' s'->∀x c,Xc.env.cells.lookup x=some c->c≠s2.heap.objs.size:=λI' x c e=>(I'.ok.exf _ (by rw[eEx];exact List.mem_cons_self)).2 x c e
 have stat:∀{τ:St}{H':Hp}{s':Shared}{ps:List (Addr×Obj)}{o:Obj},Inv Xc ps τ H' s'->(∀b∈fp,H' b=none)->∀b∈fp,FpOk Xc [(s2.heap.objs.size,o)] H' b:=λI' hn b hb=>by
  have q:=I'.ok.exf b (by rw[eEx];exact List.mem_cons_of_mem _ hb)
  refine⟨hn b hb,q.1,I'.ok.exfs b (by rw[eEx];exact List.mem_cons_of_mem _ hb),.inl (by rw[eEx];exact List.mem_cons_of_mem _ hb),q.2,λp hp=>?_⟩
  rcases List.mem_append.mp hp with hp|hp
  ·rw[ePn]at hp
   exact(f2 b hb).2.2.2.2.2 p hp
  ·have e:p.1=s2.heap.objs.size:=by
    rw[List.mem_singleton]at hp
    rw[hp]
   rw[e]
   exact Nat.ne_of_gt (fplt b hb)
 have run:∀s5:Shared,(∃tk,s5={s2 with heap:=h4,toks:=tk})->codeAny (model X.prog X.w) X.A (.compLoop (.ListComp elt [⟨tg,iter,ifs,0⟩] scope pos) 0 (.ref it) (.ref s2.heap.objs.size) Xc.env)
   (compPost (model X.prog X.w) X.A X.xe (some (assign (.Name x pos') X.env)) (λ_ s'=>SP X pins D .next s') (.ref s2.heap.objs.size) (s2.heap.push (Zw [] 0)).objs.size) s5:=by
  rintro s5 ⟨tk,rfl⟩
  refine Gg (λn s'=>∃i ys τ H' its k,Inv Xc [(s2.heap.objs.size,Zw its k)] τ H' s'/\Vals ys its/\tn i s'.heap/\(∀b∈fp,H' b=none)/\W i n ys τ H'/\ys.length<=sizeLine) ?_ m0
   ⟨0,[],inner cp σ,H2,[],0,J0 tk,.nil,T.keep _ _ _ st2 λb hb o e=>hk4 b o (Heap.get?_push_of_some _ e),λb hb=>(f2 b hb).1,w0,Nat.zero_le _⟩
  rintro n s3 ⟨i,ys,τ,H3,its,k,I3,rv,st3,fr3,w3,hl3⟩
  rcases turn i n ys τ H3 w3 with⟨stop,qn⟩|⟨go,hl,Nw,hNw,step⟩
  ·have dn:=T.done Xc eP eW eK eC i _ s3 τ H3 NoX I3 (stat I3 fr3) st3 stop
   rw[eA]at dn
   refine thn dn λr s4⟨hr,I4⟩=>?_
   subst hr
   obtain⟨m,hn,_⟩:=id I4.loc
   rw[eL]at hn
   have hs':Heap.SameBut (s2.heap.push (Zw [] 0)).objs.size s4.heap s4.heap:=Heap.SameBut.refl ..
   obtain⟨eD,nD,_⟩:=I4.pin (s2.heap.objs.size,Zw its k) (List.mem_append_right _ List.mem_cons_self)
   have u4:=I4.base
   rw[eFs,eEx,eH0,eS0]at u4
   have hD2:H2 s2.heap.objs.size=none:=I2.hok.fresh (Nat.le_refl _)
   have hfree:=I4.free
   rw[eL]at hfree
   have kp:∀b o,s2.heap.get? b=some o->(s2.heap.push (Zw [] 0)).get? b=some o:=λb o e=>Heap.get?_push_of_some _ e
   have nD':∀b o,s2.heap.get? b=some o->b≠s2.heap.objs.size:=λb o e=>Nat.ne_of_lt (Heap.lt_size e)
   have nC':∀b o,s2.heap.get? b=some o->b≠(s2.heap.push (Zw [] 0)).objs.size:=λb o e=>by rw[hz];exact Nat.ne_of_lt (Nat.lt_succ_of_lt (Heap.lt_size e))
   have nex:∀b o,s2.heap.get? b=some o->b∉fp->b∉s2.heap.objs.size::fp:=λb o e hb z=>(List.mem_cons.mp z).elim (nD' b o e) hb
   have I5:Inv X pins σ (upd H3 s2.heap.objs.size (.lst ys)) s4:=by
    refine I2.call' (s':=s4) (ch:=fp) ?_ ⟨λb o e n hb hx=>?_,λb o e n hb hx=>?_,λb o e n hx=>?_,λb o e hx=>?_,λb xs q=>?_,λb o u q=>?_,λb ps q=>?_⟩ ?_ I4.bare λb hb=>?_
    ·have:=I4.os
     rw[eS0]at this
     exact this
    ·exact(hs'.2 b (nC' b o e)).trans (u4.keep b o (kp b o e) n hb (nex b o e hx))
    ·obtain⟨sl,q⟩:=u4.slot b o (kp b o e) n hb (nex b o e hx)
     exact⟨sl,(hs'.2 b (nC' b o e)).trans q⟩
    ·rw[Zj (nD' b o e)]
     exact u4.free b o (kp b o e) n (nex b o e hx)
    ·obtain⟨o',q⟩:=u4.there b o (kp b o e) (nex b o e hx)
     exact⟨o',(hs'.2 b (nC' b o e)).trans q⟩
    ·rw[Zj (Zk q hD2)]
     exact u4.tups b xs q
    ·rw[Zj (Zk q hD2)]
     exact u4.frzs b o u q
    ·rw[Zj (Zk q hD2)]
     exact u4.tbls b ps q
    ·intro b ob q
     have keepC:∀c v,H3 c≠none->s4.heap.get? c=some v->s4.heap.get? c=some v:=λc v hc q=>(hs'.2 c (λz=>hc (by rw[z];exact hfree))).trans q
     by_cases hb:b=s2.heap.objs.size
     ·subst hb
      rw[Ze]at q
      cases q
      exact⟨hl3,its,k,rv,(hs'.2 _ (by rw[hz];exact Nat.ne_of_lt (Nat.lt_succ_self _))).trans eD⟩
     ·rw[Zj hb]at q
      have ok4:ZG X.prog X.w H3 s4.heap b ob:=by have:=I4.hok b ob q;rw[eP,eW]at this;exact this
      refine ok4.stay (λc v hc' q'=>keepC c v ?_ q') (λc q'=>by rw[Zj (Zk q' nD)];exact q') λc xs q'=>by rw[Zj (Zk q' nD)];exact q'
      rcases hc' with rfl|hc'
      ·rw[q];simp
      ·rw[hc'];simp
    ·obtain⟨g0,g1,g2,g3,g4,g5⟩:=f2 b hb
     exact⟨g3,g1,g4,g5⟩
   have hCn:(s2.heap.push (Zw [] 0)).objs.size≠X.env.locals:=by rw[hz];exact Nat.ne_of_gt (Nat.lt_succ_of_lt I2.lt)
   have hCc:∀y c,X.env.cells.lookup y=some c->c≠(s2.heap.push (Zw [] 0)).objs.size:=λy c e=>by
    obtain⟨v,o,ho,_⟩:=I2.cell y c e
    exact nC' c o ho
   have hCH:upd H3 s2.heap.objs.size (.lst ys) (s2.heap.push (Zw [] 0)).objs.size=none:=by
    rw[Zj (by rw[hz];exact Nat.succ_ne_self _)]
    exact hfree
   refine wpAny_assign_Name (MO I5 hNd hix hlx (v:=.ref s2.heap.objs.size) rfl (λs' I6 hsb=>?_) hff)
   obtain⟨a,hsb,ha⟩:=hsb
   have haC:(s2.heap.push (Zw [] 0)).objs.size≠a:=by
    rcases ha with rfl|ha
    ·exact hCn
    ·exact(hCc _ _ ha).symm
   refine⟨m,hn.sameBut hsb haC,λh'' hs''=>⟨_,_,I6.turned (t':=s'.toks) (it:=(s2.heap.push (Zw [] 0)).objs.size) (λb o hb e=>(hs''.2 b hb).trans e) hCH hCn ?_ hCc ?_,qn _ nD⟩⟩
   ·right
    rw[hz]
    exact Nat.le_succ_of_le I2.sz
   ·intro p hp
    exact nC' p.1 p.2 (I2.pin p hp).1
  ·have itm:=T.item Xc eP eW eK eC i _ s3 τ H3 NoX I3 (stat I3 fr3) st3 go
   rw[eA]at itm
   refine thn itm λr s4⟨u,hr,h4'⟩=>?_
   subst hr
   refine thn h4' λ_ s5⟨x,H5,I5,r5,y5,st5,fr5⟩=>?_
   have I5':=I5.pinned (stat I5 fr5) (T.obj _ _ st5)
   have a1:=hg' _ s5 τ H5 x u _ I5' r5 (step x H5 y5)
   rw[eP,eW,eA,eX]at a1
   refine thn a1 λ_ s6⟨τ6,H6,I6,q6⟩=>?_
   have a2:=ht' _ s6 τ6 H6 _ I6 q6
   rw[eP,eW,eA,eX]at a2
   refine thn a2 λok s7⟨H7,I7,q7⟩=>?_
   have tnAt:∀{τ':St}{H':Hp}{s':Shared},Inv Xc ([(s2.heap.objs.size,Zw its k)]++UL fp s5.heap) τ' H' s'->tn (i+1) s'.heap/\∀b∈fp,H' b=none:=λI'=>
    ⟨T.keep _ _ _ st5 λb hb o e=>(I'.pin (b,o) (List.mem_append_right _ (List.mem_append_right _ (mem_pinsAt hb e)))).1,λb hb=>by
     obtain⟨o,e,d⟩:=T.obj _ _ st5 b hb
     exact(I'.pin (b,o) (List.mem_append_right _ (List.mem_append_right _ (mem_pinsAt hb e)))).2.1⟩
   cases ok with
  |false=>
    rw[if_neg Bool.false_ne_true]at q7
    rw[if_neg Bool.false_ne_true]
    obtain⟨m',hm,w7⟩:=hNw _ _ _ q7
    exact⟨m',hm,i+1,ys,τ6,H7,its,k,I7.unpinned,rv,(tnAt I7).1,(tnAt I7).2,w7,hl3⟩
  |true=>
    rw[if_pos rfl]at q7
    rw[if_pos rfl]
    have a3:=he' _ s7 τ6 H7 _ I7 q7
    rw[eP,eW,eA,eX]at a3
    refine thn a3 λv s8⟨y,H8,I8,r8,q8⟩=>?_
    obtain⟨m',hm,w8⟩:=hNw _ _ _ q8
    obtain⟨eD,nD,_⟩:=I8.pin (s2.heap.objs.size,Zw its k) (List.mem_append_right _ (List.mem_append_left _ List.mem_cons_self))
    have hlen:=rv.length
    refine call_meets F.slot_list_append ⟨_,eD,rfl⟩ F.entry_list_append (F.args_list_append_2 _ _) (PySem.list_append s2.heap.objs.size its.toArray k v (by rw[List.size_toArray];omega)) ⟨eD,?_⟩
    have q0:=PySem.IsL.update eD (·.push v)
    obtain⟨k',q⟩:∃k',(s8.heap.update s2.heap.objs.size (Obj.mapSeq (·.push v))).get? s2.heap.objs.size=some (Zw (its++[v]) k'):=⟨_,by
     have e:(its++[v]).toArray=its.toArray.push v:=by simp
     unfold Zw
     rw[e]
     exact q0⟩
    have I9:Inv Xc [] τ6 H8 s8:=I8.pins_of λp hp=>absurd (show p∈([]:List (Addr×Obj))from hp) (by simp)
    refine⟨m',hm,i+1,ys++[y],τ6,H8,its++[v],k',?_,rv.append (.cons r8 .nil),T.keep _ _ _ (tnAt I8).1 λb hb o e=>?_,(tnAt I8).2,w8,?_⟩
    ·refine Inv.pins_of (pins:=[]) (I9.turned (t':=s8.toks) (it:=s2.heap.objs.size) (λb o hb e=>(Heap.get?_update_other _ _ (Ne.symm hb)).trans e) nD hDne (.inl (by rw[eEx];exact List.mem_cons_self)) (hDc I9) (λp hp=>hDp p (by simpa using hp))) λp hp=>?_
     have e:p=(s2.heap.objs.size,Zw (its++[v]) k'):=by simpa using hp
     subst e
     exact⟨q,nD,hDne,hDfs,XF⟩
    ·exact(Heap.get?_update_other _ _ (Nat.ne_of_gt (fplt b hb))).trans e
    ·rw[List.length_append,List.length_singleton]
     omega
 have st4:tn 0 h4:=T.keep _ _ _ st2 λb hb o e=>hk4 b o (Heap.get?_push_of_some _ e)
 have fin:=codeAny_compStart_list (run _ ⟨_,rfl⟩) (T.self X.A 0 {s2 with heap:=h4,toks:=s2.toks+([]:List (Str×Value)).length} _ (notedBy (model X.prog X.w) X.A Xc.env λex s'=>(compPost (model X.prog X.w) X.A X.xe (some (assign (.Name x pos') X.env)) (λ_ s'=>SP X pins D .next s') (.ref s2.heap.objs.size) (s2.heap.push (Zw [] 0)).objs.size) (.error ex) s') st4 (run _ ⟨_,rfl⟩))
 rw[eE]at fin
 exact fin
end
end L2
namespace WD
open PySem L2 PySem.Spec PyProof.Rows TB
def Nn:Sp:=λvs H Q _=>∃(b:Addr)(n:Int),vs=[.ref b,.int n]/\Zz H b/\1<=n/\n<=13/\∀H' l(ts:List Str),Zz H' b->Zh b H H'->H' l=some (.lst (ts.map V.str))->l≠b->(ts.length:Int)=n->ts.Nodup->(∀t∈ts,Nm t)->Q (.ref l) H'
theorem modN{x:Int}{k n:Nat}(h:x=k):x % (n:Int)=((k % n:Nat):Int):=by rw[h];rfl
theorem Se{p:Bool}{C B A:Prop}(h1:p=true->B->C)(h2:B):if p=true then C else(if false=true then A else B):=by
 cases p
 ·exact h2
 ·exact h1 rfl h2
theorem Kr{r:Int}(h0:0<=r)(h1:r<26):∃c,atI (codes K1.tLET) r=some c/\c∈LET:=by obtain⟨c,h,m⟩:=at_of (xs:=codes K1.tLET) h0 (by rw[show codes K1.tLET=LET from K1.cLET];exact h1);rw[show codes K1.tLET=LET from K1.cLET]at m;exact⟨c,h,m⟩
theorem Rc{α:Type}{xs:List α}{i:Int}{j:Nat}{v:α}(e:i=(j:Int))(h:xs[j]?=some v):atI xs i=some v:=by rw[e];exact Zn h
theorem Ni{b:Addr}{H H1:Hp}{i:Nat}{ts:List Str}{c:Nat}(e:ts.length=i)(h:∀t∈ts,Bs 1 t)(hc:c∈LET):(ts++[(⟨#[c]⟩:Str)]).length=i+1/\∀t∈ts++[(⟨#[c]⟩:Str)],Bs 1 t:=by
 refine⟨by simp[e],λt ht=>?_⟩;rcases List.mem_append.mp ht with ht|ht
 ·exact h t ht
 ·rw[List.mem_singleton]at ht;subst ht;exact⟨rfl,λd hd=>by rw[List.mem_singleton.mp hd];exact hc⟩
theorem Qn:∀(ts:List Str),(∀t∈ts,Bs 1 t)->(ts.map (·.length)).sum=ts.length
|[],_=>rfl
|t::r,h=>by have h1:=(h t List.mem_cons_self).1;rw[ZK]at h1;rw[List.map_cons,List.sum_cons,h1,Qn r λu hu=>h u (List.mem_cons_of_mem _ hu),List.length_cons];omega
theorem LU(a i:Nat):(wds.map V.str)[(a+i) % 8]?=some (.str (wds.getD ((a+i) % 8) "")):=by have:(a+i) % 8<wds.length:=Nat.mod_lt _ (by decide);rw[List.getElem?_map,List.getD_eq_getElem?_getD,List.getElem?_eq_getElem this];rfl
theorem De(f i:Nat):(codes K1.tLET)[(f+5*i) % 26]?=some (sgn f i):=by have:(f+5*i) % 26<LET.length:=Nat.mod_lt _ (by decide);rw[show codes K1.tLET=LET from K1.cLET,sgn,List.getD_eq_getElem?_getD,List.getElem?_eq_getElem this];rfl
section
variable {P:Program}{w:World}{K:PySem.W.Frag}{mg:Str->Option Value}{base:Heap}
theorem ZR:FnScope ["_law_box_here","_law_many","_law_letters","_law_way_here","_law_words","_law_at","_law_size_here","_law_base","_law_first","_law_signs"] ["_law_box_here","_law_many"] (Zf T.f__law_names):=scO (by decide +kernel)
noncomputable def Xv:Scope:={kind:=.function,names:=[(Str.ofString ".0",.local),(Str.ofString "_law_k",.local),(Str.ofString "_law_at",.free),(Str.ofString "_law_words",.free)],isGenerator:=false,isCoroutine:=false,more:=[]}
theorem Up:CompScope Xv (Zf T.f__law_names):=⟨rfl,by decide +kernel,by decide +kernel,by decide +kernel⟩
theorem Ur:(["_law_k","_law_at","_law_words"]:List Str).Nodup:=by decide +kernel
theorem Uq:CompNames ["_law_box_here","_law_many","_law_letters","_law_way_here","_law_words","_law_at","_law_size_here","_law_base","_law_first","_law_signs"] Xv ["_law_k","_law_at","_law_words"] [none,some 5,some 4]:=.mk' (by decide +kernel)
noncomputable def Xu:Scope:={kind:=.function,names:=[(Str.ofString ".0",.local),(Str.ofString "_law_k",.local),(Str.ofString "_law_take",.globalImplicit),(Str.ofString "_law_box_here",.free),(Str.ofString "_law_letters",.free)],isGenerator:=false,isCoroutine:=false,more:=[]}
theorem Ul:CompScope Xu (Zf T.f__law_names):=⟨rfl,by decide +kernel,by decide +kernel,by decide +kernel⟩
theorem Uo:(["_law_k","_law_box_here","_law_letters"]:List Str).Nodup:=by decide +kernel
theorem Um:CompNames ["_law_box_here","_law_many","_law_letters","_law_way_here","_law_words","_law_at","_law_size_here","_law_base","_law_first","_law_signs"] Xu ["_law_k","_law_box_here","_law_letters"] [none,some 0,some 2]:=.mk' (by decide +kernel)
noncomputable def Xs:Scope:={kind:=.function,names:=[(Str.ofString ".0",.local),(Str.ofString "_law_k",.local),(Str.ofString "_law_base",.free),(Str.ofString "_law_size_here",.free)],isGenerator:=false,isCoroutine:=false,more:=[]}
theorem Ui:CompScope Xs (Zf T.f__law_names):=⟨rfl,by decide +kernel,by decide +kernel,by decide +kernel⟩
theorem Uk:(["_law_k","_law_base","_law_size_here"]:List Str).Nodup:=by decide +kernel
theorem Uj:CompNames ["_law_box_here","_law_many","_law_letters","_law_way_here","_law_words","_law_at","_law_size_here","_law_base","_law_first","_law_signs"] Xs ["_law_k","_law_base","_law_size_here"] [none,some 7,some 6]:=.mk' (by decide +kernel)
noncomputable def Xr:Scope:={kind:=.function,names:=[(Str.ofString ".0",.local),(Str.ofString "_law_k",.local),(Str.ofString "_law_take",.globalImplicit),(Str.ofString "_law_box_here",.free),(Str.ofString "_law_letters",.free)],isGenerator:=false,isCoroutine:=false,more:=[]}
theorem Ue:CompScope Xr (Zf T.f__law_names):=⟨rfl,by decide +kernel,by decide +kernel,by decide +kernel⟩
theorem Uh:(["_law_k","_law_box_here","_law_letters"]:List Str).Nodup:=by decide +kernel
theorem Ug:CompNames ["_law_box_here","_law_many","_law_letters","_law_way_here","_law_words","_law_at","_law_size_here","_law_base","_law_first","_law_signs"] Xr ["_law_k","_law_box_here","_law_letters"] [none,some 0,some 2]:=.mk' (by decide +kernel)
noncomputable def Xq:Scope:={kind:=.function,names:=[(Str.ofString ".0",.local),(Str.ofString "_law_k",.local),(Str.ofString "_law_first",.free),(Str.ofString "_law_letters",.free)],isGenerator:=false,isCoroutine:=false,more:=[]}
theorem Ub:CompScope Xq (Zf T.f__law_names):=⟨rfl,by decide +kernel,by decide +kernel,by decide +kernel⟩
theorem Ud:(["_law_k","_law_first","_law_letters"]:List Str).Nodup:=by decide +kernel
theorem Uc:CompNames ["_law_box_here","_law_many","_law_letters","_law_way_here","_law_words","_law_at","_law_size_here","_law_base","_law_first","_law_signs"] Xq ["_law_k","_law_first","_law_letters"] [none,some 8,some 2]:=.mk' (by decide +kernel)
noncomputable def Xp:Scope:={kind:=.function,names:=[(Str.ofString ".0",.local),(Str.ofString "_law_sign",.local),(Str.ofString "_law_at",.free),(Str.ofString "_law_base",.free)],isGenerator:=false,isCoroutine:=false,more:=[]}
theorem V8:CompScope Xp (Zf T.f__law_names):=⟨rfl,by decide +kernel,by decide +kernel,by decide +kernel⟩
theorem Ua:(["_law_sign","_law_at","_law_base"]:List Str).Nodup:=by decide +kernel
theorem V9:CompNames ["_law_box_here","_law_many","_law_letters","_law_way_here","_law_words","_law_at","_law_size_here","_law_base","_law_first","_law_signs"] Xp ["_law_sign","_law_at","_law_base"] [none,some 5,some 7]:=.mk' (by decide +kernel)
theorem TC(B:∀x∈Blts,mg x=none)(CT:Can P w K mg base 1 "_law_take" ["_law_box_here","_law_many"] Xg)(D:Df K mg "_law_names" T.f__law_names ["_law_box_here","_law_many"]):Can P w K mg base 2 "_law_names" ["_law_box_here","_law_many"] Nn:=by
 refine D.can ZR (λvs H Q E h=>?_) (λf cdv A outer s H vs Q E hr h=>?_)
 ·obtain⟨b,n,rfl,_⟩:=h;rfl
 ·obtain⟨b,n,rfl,hb,hn1,hn2,k⟩:=h;have hsz:n.toNat<=sizeLine:=Nat.le_trans (by omega:n.toNat<=1000) (by decide);refine⟨_,(Zd (Yl (i:=2) ZR.nd rfl (Or.inr rfl) Zr) (Zd (st 3 ZR.nd (cn CT hr (Za (pv 0) (Za Zc Zb)))) (Zd (ZH (PW.pt (UJ (ZF X4 (pv 3) Zc (ZE _)) (VB (ZF LF (pv 1) Zc (ZE _))))) (Zd (Yl (i:=4) ZR.nd rfl (Or.inr rfl) (Z2 (Za Zr (Za Zr (Za Zr (Za Zr (Za Zr (Za Zr (Za Zr (Za Zr Zb)))))))))) (Zd (Yl (i:=5) ZR.nd rfl (Or.inr rfl) (cn CT hr (Za (pv 0) (Za Zc Zb)))) (Zi (Zo (YG (scope:=Xv) (N:=["_law_k","_law_at","_law_words"]) (cp:=[none,some 5,some 4]) rfl Up Uq (Yy rfl (B _ (by decide +kernel)) (Za (pv 1) Zb)) (λC s H ex pn=>(Zp (i:=0) Ur rfl (Or.inl rfl))) (λC s H ex pn=>Ys) (λC s H ex pn=>(il K (pv 2) (Zx XN (Zx Z3 (pv 1) (pv 0)) Zc)))))))) Zv) (Zd (Yl (i:=6) ZR.nd rfl (Or.inr rfl) (cn CT hr (Za (pv 0) (Za Zc Zb)))) (Zd (ZH (PW.pt (UJ (ZF X4 (pv 3) Zc (ZE _)) (VB (ZF LF (pv 1) Zc (ZE _))))) (Zd (Yl (i:=7) ZR.nd rfl (Or.inr rfl) (WC PySem.F.plainAttrs_str PySem.F.slot_str_join PySem.F.type_str_join RQ Zr (Za (YG (scope:=Xu) (N:=["_law_k","_law_box_here","_law_letters"]) (cp:=[none,some 0,some 2]) rfl Ul Um (Yy rfl (B _ (by decide +kernel)) (Za Zc Zb)) (λC s H ex pn=>(Zp (i:=0) Uo rfl (Or.inl rfl))) (λC s H ex pn=>Ys) (λC s H ex pn=>(Yb Mb (pv 2) (cn CT hr (Za (pv 1) (Za Zc Zb))) (λ_ _=>rfl)))) Zb))) (Zi (Zo (YG (scope:=Xs) (N:=["_law_k","_law_base","_law_size_here"]) (cp:=[none,some 7,some 6]) rfl Ui Uj (Yy rfl (B _ (by decide +kernel)) (Za (pv 1) Zb)) (λC s H ex pn=>(Zp (i:=0) Uk rfl (Or.inl rfl))) (λC s H ex pn=>Ys) (λC s H ex pn=>(ZY Qu (pv 1) Yg (Ye (Zx Z3 Zc (Zx XN (Zx Z3 (pv 0) (pv 2)) Zc))))))))) Zv) (Zd (Yl (i:=5) ZR.nd rfl (Or.inr rfl) (cn CT hr (Za (pv 0) (Za (Zx Z3 (pv 6) Zc) Zb)))) (Zd (Yl (i:=7) ZR.nd rfl (Or.inr rfl) (WC PySem.F.plainAttrs_str PySem.F.slot_str_join PySem.F.type_str_join RQ Zr (Za (YG (scope:=Xr) (N:=["_law_k","_law_box_here","_law_letters"]) (cp:=[none,some 0,some 2]) rfl Ue Ug (Yy rfl (B _ (by decide +kernel)) (Za (pv 6) Zb)) (λC s H ex pn=>(Zp (i:=0) Uh rfl (Or.inl rfl))) (λC s H ex pn=>Ys) (λC s H ex pn=>(Yb Mb (pv 2) (cn CT hr (Za (pv 1) (Za Zc Zb))) (λ_ _=>rfl)))) Zb))) (Zd (Yl (i:=8) ZR.nd rfl (Or.inr rfl) (cn CT hr (Za (pv 0) (Za Zc Zb)))) (Zd (Jg (i:=9) ZR.nd rfl (Or.inl rfl) (scope:=Xq) (N:=["_law_k","_law_first","_law_letters"]) (cp:=[none,some 8,some 2]) rfl Ub Uc (Yy rfl (B _ (by decide +kernel)) (Za (pv 1) Zb)) (λC s H ex pn=>(Zp (i:=0) Ud rfl (Or.inl rfl))) (λC s H ex pn=>Ys) (λC s H ex pn=>(Yb Mb (pv 2) (Zx XN (Zx Z3 (pv 1) (Zx UN Zc (pv 0))) Zc) (λ_ _=>rfl)))) (Zi (Zo (YG (scope:=Xp) (N:=["_law_sign","_law_at","_law_base"]) (cp:=[none,some 5,some 7]) rfl V8 V9 (Yo (pv 9)) (λC s H ex pn=>(Zp (i:=0) Ua rfl (Or.inl rfl))) (λC s H ex pn=>Ys) (λC s H ex pn=>(Zx Jl (Zx Jl (ZY Qu (pv 2) Yg (Ye (pv 1))) (pv 0)) (ZY Qu (pv 2) (Ye (pv 1)) Yg))))))))))))))),?_⟩;refine⟨_,rfl,b,4,rfl,hb,by decide,ZA (by decide) (by decide),λr H1 h0 h1 B1 S1=>?_⟩;refine⟨_,rfl,rfl,_,rfl,?_⟩;refine Se (λe rest=>⟨_,rfl,_,_,rfl,rfl,_,rfl,ite2 (λe2=>?_) (λe2=>rest)⟩) ?_
  ·have hn9:n<9:=of_decide_eq_true e2;refine⟨by show 8<=sizeLine;decide,λl hl=>?_⟩;have nlb:=B1.ne hl;refine⟨_,rfl,b,8,rfl,B1.new hl,by decide,ZA (by decide) (by decide),λr2 H2 h02 h12 B2 S2=>?_⟩;have hw:H2 l=some (.lst (wds.map V.str)):=S2 _ _ Ze nlb;refine⟨_,rfl,n,rfl,by omega,by omega,Yd (J:=Itr 0 n.toNat) n.toNat hsz
    (λi ys τ H'=>H'=H2/\ys=(wdsFrom r2.toNat i).map V.str/\∃v,τ=[v,some (.int r2),some (.ref l)]) ⟨rfl,rfl,none,rfl⟩ (λi ys τ H' p=>?_) (λi ys τ H' hi p=>hi) (λys τ H' p=>Nat.le_refl _) (λi ys τ H' x' H3 hi p yl=>?_) (λys τ H' p q hq=>?_)⟩
   ·obtain⟨_,rfl,_⟩:=p;simp[wdsFrom]
   ·obtain⟨rfl,rfl,v,rfl⟩:=p;obtain⟨rfl,rfl⟩:=yl;refine⟨_,rfl,_,rfl,_,rfl,_,_,rfl,rfl,_,_,rfl,rfl,(by show(0:Int)<8;decide),l,_,_,_,rfl,rfl,SqL.of hw,Rc (j:=(r2.toNat+i) % 8) (modN (n:=8) (by omega)) (LU _ _),rfl,?_,_,rfl⟩;simp[wdsFrom,List.range_succ]
   ·obtain⟨rfl,rfl,v,rfl⟩:=p;exact k _ q _ (B2.new hq) (((S1.new' hl).trans S2).new' hq) Ze (B2.ne hq) (by simp[wdsFrom];omega) (LS _ (by omega) _ (by omega)) (Qi _ _)
  ·refine⟨_,rfl,b,8,rfl,B1,by decide,ZA (by decide) (by decide),λsz H2 h02 h12 B2 S2=>?_⟩;have S02:=S1.trans S2;refine⟨_,rfl,rfl,_,rfl,?_⟩;refine Se (λe rest=>⟨_,rfl,_,_,rfl,rfl,_,rfl,ite2 (λe2=>?_) (λe2=>rest)⟩) ?_
   ·have hn9:n<9:=of_decide_eq_true e2;refine⟨rfl,8,rfl,by decide,by decide,Yd (J:=Itr 0 8) 8 (by decide)
     (λi ys τ H'=>Zz H' b/\Zh b H H'/\(∃ts:List Str,ys=ts.map V.str/\ts.length=i/\∀t∈ts,Bs 1 t)/\∃v,τ=[v,some (.ref b),some (.str K1.tLET)]) ⟨B2,S02,⟨[],rfl,rfl,by simp⟩,none,rfl⟩ (λi ys τ H' p=>?_) (λi ys τ H' hi p=>hi) (λys τ H' p=>Nat.le_refl _) (λi ys τ H' x' H3 hi p yl=>?_) (λys τ H' p q hq=>?_)⟩
    ·obtain⟨_,_,⟨ts,rfl,e,_⟩,_⟩:=p;rw[List.length_map,e];exact Nat.le_refl _
    ·obtain⟨bx,sm,⟨ts,rfl,e,ho⟩,v,rfl⟩:=p;obtain⟨rfl,rfl⟩:=yl;refine⟨_,rfl,_,rfl,b,26,rfl,bx,by decide,ZA (by decide) (by decide),λr4 H4 h04 h14 B4 S4=>?_⟩;obtain⟨c,hat,hc⟩:=Kr h04 h14;obtain⟨g1,g2⟩:=Ni (b:=b) (H:=H) (H1:=H) e ho hc;exact⟨_,r4,c,rfl,rfl,by decide +kernel,hat,B4,sm.trans S4,⟨ts++[⟨#[c]⟩],by rw[List.map_append];rfl,g1,g2⟩,_,rfl⟩
    ·obtain⟨bx,sm,⟨ts,rfl,e,ho⟩,v,rfl⟩:=p;refine⟨_,q,ts,rfl,rfl,SqL.of Ze,by rw[Qn _ ho,e];decide,?_⟩;have hbs:=Bs.join ho;rw[e]at hbs;have hl8:(Txt.join Str.empty ts).length=8:=by rw[<-ZK];exact hbs.1
     refine⟨_,rfl,n,rfl,by omega,by omega,Yd (J:=Itr 0 n.toNat) n.toNat hsz
      (λi ys τ H3=>H3=upd H' q (.lst (ts.map V.str))/\ys=(begs (Txt.join Str.empty ts) sz.toNat i).map V.str/\∃v,τ=[v,some (.str (Txt.join Str.empty ts)),some (.int sz)]) ⟨rfl,rfl,none,rfl⟩ (λi ys τ H' p=>?_) (λi ys τ H' hi p=>hi) (λys τ H' p=>Nat.le_refl _) (λi ys τ H' x' H3 hi p yl=>?_) (λys τ H' p q2 hq2=>?_)⟩
     ·obtain⟨_,rfl,_⟩:=p;simp[begs]
     ·obtain⟨rfl,rfl,v,rfl⟩:=p;obtain⟨rfl,rfl⟩:=yl;refine⟨_,rfl,_,rfl,_,rfl,_,_,rfl,rfl,_,_,rfl,rfl,(by show(0:Int)<8;decide),_,_,rfl,rfl,_,rfl,_,rfl,by rw[hl8];decide,rfl,?_,_,rfl⟩;have e5:(1+(0+(i:Int)+sz) % 8)=((1+(i+sz.toNat) % 8:Nat):Int):=congrArg (1+·) (modN (k:=i+sz.toNat) (n:=8) (by omega));rw[e5];simp[begs,List.range_succ]
     ·obtain⟨rfl,rfl,v,rfl⟩:=p;exact k _ q2 _ ((bx.new hq).new hq2) ((sm.new' hq).new' hq2) Ze ((bx.new hq).ne hq2) (by simp[begs];omega) (Ls hbs _ (by omega)) (Lr hbs _ _)
   ·refine⟨_,rfl,_,rfl,_,_,rfl,rfl,b,sz+1,rfl,B2,by omega,ZA (by omega) (by omega),λat_ H3 h03 h13 B3 S3=>?_⟩;have S03:=S02.trans S3;refine⟨rfl,_,rfl,sz,rfl,by omega,by omega,Yd (J:=Itr 0 sz.toNat) sz.toNat (Nat.le_trans (by omega:sz.toNat<=8) (by decide))
     (λi ys τ H'=>Zz H' b/\Zh b H H'/\(∃ts:List Str,ys=ts.map V.str/\ts.length=i/\∀t∈ts,Bs 1 t)/\∃v,τ=[v,some (.ref b),some (.str K1.tLET)]) ⟨B3,S03,⟨[],rfl,rfl,by simp⟩,none,rfl⟩ (λi ys τ H' p=>?_) (λi ys τ H' hi p=>hi) (λys τ H' p=>Nat.le_refl _) (λi ys τ H' x' H3 hi p yl=>?_) (λys τ H' p q hq=>?_)⟩
    ·obtain⟨_,_,⟨ts,rfl,e,_⟩,_⟩:=p;rw[List.length_map,e];exact Nat.le_refl _
    ·obtain⟨bx,sm,⟨ts,rfl,e,ho⟩,v,rfl⟩:=p;obtain⟨rfl,rfl⟩:=yl;refine⟨_,rfl,_,rfl,b,26,rfl,bx,by decide,ZA (by decide) (by decide),λr4 H4 h04 h14 B4 S4=>?_⟩;obtain⟨c,hat,hc⟩:=Kr h04 h14;obtain⟨g1,g2⟩:=Ni (b:=b) (H:=H) (H1:=H) e ho hc;exact⟨_,r4,c,rfl,rfl,by decide +kernel,hat,B4,sm.trans S4,⟨ts++[⟨#[c]⟩],by rw[List.map_append];rfl,g1,g2⟩,_,rfl⟩
    ·obtain⟨bx,sm,⟨ts,rfl,e,ho⟩,v,rfl⟩:=p;refine⟨_,q,ts,rfl,rfl,SqL.of Ze,?_,?_⟩
     ·rw[Qn _ ho,e];show sz.toNat+sz.toNat*0<=16777216;omega
     have hbs:=Bs.join ho;rw[e]at hbs;have hl8:(Txt.join Str.empty ts).length=sz.toNat:=by rw[<-ZK];exact hbs.1
     refine⟨_,rfl,b,26,rfl,bx.new hq,by decide,ZA (by decide) (by decide),λfi H5 h05 h15 B5 S5=>?_⟩;have S05:=(sm.new' hq).trans S5;refine⟨_,rfl,n,rfl,by omega,by omega,Yd (J:=Itr 0 n.toNat) n.toNat hsz
      (λi ys τ H'=>H'=H5/\ys=((List.range i).map λk=>V.str ⟨#[sgn fi.toNat k]⟩)/\∃v,τ=[v,some (.int fi),some (.str K1.tLET)]) ⟨rfl,rfl,none,rfl⟩ (λi ys τ H' p=>?_) (λi ys τ H' hi p=>hi) (λys τ H' p=>Nat.le_refl _) (λi ys τ H' x' H3 hi p yl=>?_) (λys τ H' p q2 hq2=>?_)⟩
     ·obtain⟨_,rfl,_⟩:=p;simp
     ·obtain⟨rfl,rfl,v,rfl⟩:=p;obtain⟨rfl,rfl⟩:=yl;refine⟨_,rfl,_,rfl,_,rfl,_,_,rfl,rfl,.inl ⟨by decide,by decide⟩,_,_,rfl,rfl,_,_,rfl,rfl,(by show(0:Int)<26;decide),_,_,_,rfl,rfl,by decide +kernel,Rc (j:=(fi.toNat+5*i) % 26) (modN (n:=26) (by omega)) (De _ _),rfl,?_,_,rfl⟩;simp[List.range_succ]
     ·obtain⟨rfl,rfl,v,rfl⟩:=p;refine⟨_,rfl,q2,rfl,⟨_,SqL.of Ze⟩,?_⟩;generalize eH:upd H' q2 (.lst ((List.range n.toNat).map λk=>V.str ⟨#[sgn fi.toNat k]⟩))=H6;have hq6:H6 q2=some (.lst ((List.range n.toNat).map λk=>V.str ⟨#[sgn fi.toNat k]⟩)):=by rw[<-eH];exact Ze
      have B6:Zz H6 b:=by rw[<-eH];exact B5.new hq2
      have S06:Zh b H H6:=by rw[<-eH];exact S05.new' hq2
      refine Yd (J:=Itl K q2) n.toNat hsz (λi ys τ H'=>H'=H6/\ys=(puts (Txt.join Str.empty ts) at_.toNat fi.toNat i).map V.str/\∃v,τ=[v,some (.int at_),some (.str (Txt.join Str.empty ts))]) ⟨rfl,rfl,none,rfl⟩ (λi ys τ H' p=>?_) (λi ys τ H' hi p=>?_) (λys τ H' p=>?_) (λi ys τ H' x' H3 hi p yl=>?_) (λys τ H' p q3 hq3=>?_)
      ·obtain⟨_,rfl,_⟩:=p;simp[puts]
      ·obtain⟨rfl,_⟩:=p;exact⟨_,V.str ⟨#[sgn fi.toNat i]⟩,SqL.of hq6,by simp[hi]⟩
      ·obtain⟨rfl,_⟩:=p;exact⟨_,SqL.of hq6,by simp⟩
      ·obtain⟨rfl,rfl,v,rfl⟩:=p;obtain⟨rfl,hy⟩:=yl;have hx:x'=V.str ⟨#[sgn fi.toNat i]⟩:=by have:=hy _ (SqL.of hq6);simp[hi]at this;exact this.symm
       subst hx;have hbl:(Txt.join Str.empty ts).length<=8:=by omega
       have e1:=Txt.slice_le (Txt.join Str.empty ts) none (some at_);have e2:=Txt.slice_le (Txt.join Str.empty ts) (some at_) none;have z:(100:Nat)<=sizeLine:=by decide
       refine⟨_,rfl,_,rfl,_,rfl,_,rfl,by omega,_,rfl,_,_,rfl,rfl,?_,_,rfl,_,rfl,_,rfl,_,rfl,by omega,_,_,rfl,rfl,?_,rfl,?_,_,rfl⟩
       ·show _+1<=_;omega
       ·rw[Str.length_append];show _+1+_<=_;omega
       ·have e5:at_=((at_.toNat:Nat):Int):=by omega
        simp[puts,List.range_succ,put,<-e5]
      ·obtain⟨rfl,rfl,v,rfl⟩:=p;exact k _ q3 _ (B6.new hq3) (S06.new' hq3) Ze (B6.ne hq3) (by simp[puts];omega) (KS hbs (by omega) (by omega) (by omega)) (KR hbs (by omega) (by omega) _ _)
noncomputable abbrev Pl:=List (Str×Option Int)
noncomputable def YU:Option Int->V
|none=>.non
|some i=>.int i
noncomputable def ZV(p:Str×Option Int):List V:=[.str p.1,YU p.2]
def RowsAt(b:Addr)(H:Hp)(l:Addr)(rows:List (List V)):Prop:=l≠b/\∃as:List Addr,H l=some (.lst (as.map V.ref))/\as.length=rows.length/\∀(i:Nat)a r,as[i]?=some a->rows[i]?=some r->a≠b/\H a=some (.tup r)
theorem RowsAt.same{b:Addr}{H H':Hp}{l:Addr}{rows:List (List V)}(s:Zh b H H')(h:RowsAt b H l rows):RowsAt b H' l rows:=by obtain⟨n,as,e,hl,r⟩:=h;exact⟨n,as,s _ _ e n,hl,λi a q h1 h2=>let ⟨x,y⟩:=r i a q h1 h2;⟨x,s _ _ y x⟩⟩
theorem RowsAt.at{b:Addr}{H:Hp}{l:Addr}{rows:List (List V)}(h:RowsAt b H l rows){i:Nat}{r:List V}(hr:rows[i]?=some r):∃a,a≠b/\H a=some (.tup r)/\∃as:List Addr,H l=some (.lst (as.map V.ref))/\as[i]?=some a/\as.length=rows.length:=by
 obtain⟨n,as,e,hl,q⟩:=h;have hi:i<as.length:=by rw[hl];exact(List.getElem?_eq_some_iff.mp hr).1
 obtain⟨x,y⟩:=q i as[i] r (List.getElem?_eq_getElem hi) hr;exact⟨as[i],x,y,as,e,List.getElem?_eq_getElem hi,hl⟩
theorem Zz.same_ne{H:Hp}{b q:Addr}{o:HO}(h:Zz H b)(n:q≠b):Zz (upd H q o) b:=by obtain⟨x,y,z,e⟩:=h;exact⟨x,y,z,by rw[Zj n.symm];exact e⟩
theorem SG{b q:Addr}{H H4 H6:Hp}{o:HO}(s:Zh b H H6)(s4:Zh b H H4)(nqb:q≠b)(hq:H4 q=none):Zh b H (upd H6 q o):=λc u h hc=>by
 have:c≠q:=λz=>by rw[z]at h hc;rw[s4 _ _ h hc]at hq;cases hq
 rw[Zj this];exact s c u h hc
structure GoodPl(ps:Pl):Prop where
 lo:3<=ps.length
 hi:ps.length<=6
 nd:(ps.map (·.1)).Nodup
 nm:∀p∈ps,Nm p.1
 room:∀p∈ps,∀i,p.2=some i->0<=i/\i<=1000
 one:∃p∈ps,∃i,p.2=some i
 home:∃p∈ps,p.2=none
theorem zip_rows(ts:List Str)(ρ:List (Option Int)):((ts.map V.str).zip (ρ.map YU)).map (λq=>[q.1,q.2])=(ts.zip ρ).map ZV:=by rw[List.zip_map,List.map_map];rfl
theorem N7{α β:Type}:∀(t0:List α)(ρ:List β)(s:α),t0.length=ρ.length->(t0++[s]).zip ρ=t0.zip ρ
|[],[],_,_=>rfl
|[],_::_,_,h=>by cases h
|_::_,[],_,h=>by cases h
|a::t,c::r,s,h=>by rw[List.cons_append,List.zip_cons_cons,N7 t r s (by simpa using h),List.zip_cons_cons]
def Pd:Sp:=λvs H Q _=>∃(b:Addr),vs=[.ref b]/\Zz H b/\∀H' q l s(ps:Pl),Zz H' b->Zh b H H'->H' q=some (.lst [.ref l,.str s])->q≠b->RowsAt b H' l (ps.map ZV)->GoodPl ps->Nm s->s∉ps.map (·.1)->Q (.ref q) H'
theorem PD{b:Addr}{H H':Hp}{l:Addr}{rows:List (List V)}(h:Ku H H' l rows)(hb:Zz H b):RowsAt b H' l rows:=by obtain⟨s,hl,as,e,len,n,r⟩:=h;exact⟨hb.ne hl,as,e,len,λi a q h1 h2=>⟨hb.ne (n a (List.mem_of_getElem? h1)),r i a q h1 h2⟩⟩
theorem Y3:FnScope ["_law_box_here","_law_names_here","_law_rooms","_law_k"] ["_law_box_here"] (Zf T.f__law_places):=scO (by decide +kernel)
theorem Q2(B:∀x∈Blts,mg x=none)(CT:Can P w K mg base 1 "_law_take" ["_law_box_here","_law_many"] Xg)(CN:Can P w K mg base 2 "_law_names" ["_law_box_here","_law_many"] Nn)(CS:Can P w K mg base 2 "_law_size" ["_law_box_here"] Nl)(D:Df K mg "_law_places" T.f__law_places ["_law_box_here"]):Can P w K mg base 3 "_law_places" ["_law_box_here"] Pd:=by
 refine D.can Y3 (λvs H Q E h=>?_) (λf cdv A outer s H vs Q E hr h=>?_)
 ·obtain⟨b,rfl,_⟩:=h;rfl
 ·obtain⟨b,rfl,hb,k⟩:=h;refine⟨_,(Zd (st 1 Y3.nd (cn CN hr (Za (pv 0) (Za (Zx Z3 Zc (cn CT hr (Za (pv 0) (Za Zc Zb)))) Zb)))) (Zd (st 2 Y3.nd (Z2 (Za (cn CS hr (Za (pv 0) Zb)) (Za (cn CS hr (Za (pv 0) Zb)) (Za ZI Zb))))) (Zd (YO PassesOwn.never rfl (Yy rfl (B _ (by decide +kernel)) (Za (Zx Jk (ZC (r:=rLen K) Y2 rfl (B _ (by decide +kernel)) PySem.boot_len (Za (pv 1) Zb)) Zc) Zb)) (Zp (i:=3) Y3.nd rfl (Or.inl rfl)) (Zi (Yz (WC PySem.F.plainAttrs_list PySem.F.slot_list_append PySem.F.type_list_append SK (pv 2) (Za (il K (Z2 (Za ZI (Za (cn CS hr (Za (pv 0) Zb)) Zb))) (cn CT hr (Za (pv 0) (Za Zc Zb)))) Zb))))) (Zi (Zo (Z2 (Za (QC rfl rfl (B _ (by decide +kernel)) rfl (B _ (by decide +kernel)) (Za (pv 1) (Za (pv 2) Zb))) (Za (il K (pv 1) (VF Jd Zc)) Zb)))))))),?_⟩;refine⟨_,rfl,_,rfl,b,4,rfl,hb,by decide,ZA (by decide) (by decide),λr H1 h0 h1 B1 S1=>?_⟩;refine⟨_,_,rfl,rfl,b,4+r,rfl,B1,by omega,by omega,λH2 l ts B2 S2 hl nlb hlen hnd hnm=>?_⟩;refine⟨_,rfl,b,rfl,B2,λr3 H3 h03 h13 B3 S3=>?_⟩;refine⟨_,rfl,b,rfl,B3,λr4 H4 h04 h14 B4 S4=>?_⟩;refine⟨by show 3<=sizeLine;decide,λq hq=>?_⟩;have S04:=((S1.trans S2).trans S3).trans S4;have hl4:=S4 _ _ (S3 _ _ hl nlb) nlb;have nql:q≠l:=(Zk hl4 hq).symm;refine⟨_,rfl,l,_,rfl,.inl (SqL.of (by rw[Zj nql.symm];exact hl4)),_,_,rfl,rfl,r,?_,by omega,by omega,?_⟩
  ·have:((List.map V.str ts).length:Int)-4=r:=by rw[List.length_map];omega
   exact congrArg (λx=>[V.int x]) this
  refine JV (n:=r.toNat) (λi σ' H'=>Zz H' b/\Zh b H H'/\H' l=some (.lst (ts.map V.str))/\q≠b/\(∃ρ:List (Option Int),H' q=some (.lst (ρ.map YU))/\ρ.length=3+i/\ρ[0]?=some (some r3)/\ρ[2]?=some none/\∀x∈ρ,∀j,x=some j->0<=j/\j<=1000)/\∃v,σ'=[some (.ref b),some (.ref l),some (.ref q),v]) ⟨B4.new hq,S04.new' hq,by rw[Zj nql.symm];exact hl4,B4.ne hq,⟨[some r3,some r4,none],Ze,rfl,rfl,rfl,?_⟩,none,rfl⟩ (λi σ' H' hi p=>?_) (λσ' H' p=>?_)
  ·intro x hx j e;subst e;simp only[List.mem_cons,Option.some.injEq,List.not_mem_nil,or_false,reduceCtorEq]at hx;omega
  ·obtain⟨bx,sm,hl',nqb,⟨ρ,hq',len,z0,z2,ok⟩,v,rfl⟩:=p;refine⟨_,rfl,.inl ⟨rfl,_,SqL.of hq'⟩,_,rfl,b,rfl,bx,λr5 H5 h05 h15 B5 S5=>?_⟩;refine⟨by show 2<=sizeLine;decide,λq2 hq2=>?_⟩;have n2:=B5.ne hq2;refine⟨_,rfl,b,2,rfl,B5.new hq2,by decide,ZA (by decide) (by decide),λr6 H6 h06 h16 B6 S6=>?_⟩;have e6:H6 q2=some (.lst [.non,.int r5]):=S6 _ _ Ze n2;have hq6:H6 q=some (.lst (ρ.map YU)):=S6 _ _ (by rw[Zj (Zk (S5 _ _ hq' nqb) hq2)];exact S5 _ _ hq' nqb) nqb;have hl6:H6 l=some (.lst (ts.map V.str)):=S6 _ _ (by rw[Zj (Zk (S5 _ _ hl' nlb) hq2)];exact S5 _ _ hl' nlb) nlb;have S06:Zh b H H6:=((sm.trans S5).new' hq2).trans S6;have hz:(ρ.map YU).length<sizeLine:=by rw[List.length_map,len];exact Nat.lt_of_lt_of_le (by omega:3+i<1000) (by decide)
   have fin:∀x:Option Int,(∀j,x=some j->0<=j/\j<=1000)->_:=λx hx=>(⟨B6.same_ne nqb,SG S06 S04 nqb hq,by rw[Zj nql.symm];exact hl6,nqb,⟨ρ++[x],by rw[Ze,List.map_append];rfl,by simp[len];omega,by rw[List.getElem?_append_left (by omega)];exact z0,by rw[List.getElem?_append_left (by omega)];exact z2,λy hy j e=>by
     rcases List.mem_append.mp hy with hy|hy
     ·exact ok y hy j e
     ·rw[List.mem_singleton]at hy;subst hy;exact hx j e⟩,_,rfl⟩:Zz (upd H6 q (.lst (ρ.map YU++[YU x]))) b/\Zh b H (upd H6 q (.lst (ρ.map YU++[YU x])))/\(upd H6 q (.lst (ρ.map YU++[YU x]))) l=some (.lst (ts.map V.str))/\q≠b/\(∃ρ':List (Option Int),(upd H6 q (.lst (ρ.map YU++[YU x]))) q=some (.lst (ρ'.map YU))/\ρ'.length=3+(i+1)/\ρ'[0]?=some (some r3)/\ρ'[2]?=some none/\∀x∈ρ',∀j,x=some j->0<=j/\j<=1000)/\∃v',[some (.ref b),some (.ref l),some (.ref q),some (.int (0+i))]=[some (V.ref b),some (.ref l),some (.ref q),v'])
   have c6:r6=0\/r6=1:=by omega
   rcases c6 with rfl|rfl
   ·exact⟨q2,_,0,.non,rfl,rfl,SqL.of e6,Zn (j:=0) rfl,q,_,_,rfl,rfl,hq6,hz,fin none (λj e=>by cases e)⟩
   ·exact⟨q2,_,1,.int r5,rfl,rfl,SqL.of e6,Zn (j:=1) rfl,q,_,_,rfl,rfl,hq6,hz,fin (some r5) (λj e=>by cases e;exact⟨h05,h15⟩)⟩
  ·obtain⟨bx,sm,hl',nqb,⟨ρ,hq',len,z0,z2,ok⟩,v,rfl⟩:=p;refine⟨_,rfl,_,rfl,l,q,_,_,rfl,hl',hq',λH7 l7 L7=>?_⟩;have S7:Same H' H7:=L7.1;obtain⟨t0,s,rfl⟩:∃t0 s,ts=t0++[s]:=⟨_,_,(List.dropLast_concat_getLast (l:=ts) (by intro z;rw[z]at hlen;simp at hlen;omega)).symm⟩;have len0:t0.length=ρ.length:=by have:((t0++[s]).length:Int)=4+r:=hlen;rw[List.length_append]at this;simp at this;omega
   refine⟨_,rfl,_,rfl,l,_,-1,.str s,rfl,rfl,SqL.of (S7 _ _ hl'),by rw[List.map_append];exact Kt _ _,by show 2<=sizeLine;decide,λq8 hq8=>?_⟩;have B7:Zz H7 b:=bx.same S7;have R7:=PD L7 bx;rw[zip_rows,N7 t0 ρ s len0]at R7;have fst:(t0.zip ρ).map (·.1)=t0:=List.map_fst_zip (by omega);have nd0:=List.nodup_append.mp hnd;refine k _ q8 l7 s (t0.zip ρ) (B7.new hq8) ((sm.trans (Zh.of S7)).new' hq8) Ze (B7.ne hq8) (R7.same ((Zh.refl b H7).new' hq8)) ?_ (hnm s (by simp)) ?_
   ·refine⟨by rw[List.length_zip];omega,by rw[List.length_zip];omega,by rw[fst];exact nd0.1,λp hp=>hnm _ (List.mem_append_left _ (List.of_mem_zip hp).1),λp hp i e=>ok _ (List.of_mem_zip hp).2 i e,?_,?_⟩
    ·have h3:0<t0.length:=by omega
     have h4:0<ρ.length:=by omega
     refine⟨(t0[0],ρ[0]),List.mem_iff_getElem.mpr ⟨0,by rw[List.length_zip];omega,by simp⟩,r3,?_⟩;rw[List.getElem?_eq_getElem h4]at z0;exact Option.some.inj z0
    ·have h3:2<t0.length:=by omega
     have h4:2<ρ.length:=by omega
     refine⟨(t0[2],ρ[2]),List.mem_iff_getElem.mpr ⟨2,by rw[List.length_zip];omega,by simp⟩,?_⟩;rw[List.getElem?_eq_getElem h4]at z2;exact Option.some.inj z2
   ·rw[fst];intro z;exact nd0.2.2 s z s (by simp) rfl
end
end WD
namespace L2
open PySem PySem.Spec PyProof.Rows
theorem NG{X:Cx}{pos:Pos}{K:PySem.W.Frag}{es:List Expr}{k:Nat}{t:TGs}{n:Nat}(hK:X.K=K)(hc:X.calm=true)(h:PGs X es t)(hn:(assignEach es X.env).length=n:=by rfl)(hst:(assignEach es X.env).findIdx? (·.1)=none:=by rfl):PG X (.Tuple es k pos) (gTup K n t):=by subst hK;exact Xj hc h hn hst
end L2
namespace WD
open PySem L2 PySem.Spec PyProof.Rows TB
def Nq:Sp:=λvs H Q _=>∃(b l:Addr)(ps:Pl),vs=[.ref b,.ref l]/\Zz H b/\RowsAt b H l (ps.map ZV)/\GoodPl ps/\∀H' q s g,Zz H' b->Zh b H H'->H' q=some (.tup [.str s,.str g])->q≠b->(∃i,(s,some i)∈ps)->(∃r,(g,r)∈ps)->s≠g->Q (.ref q) H'
theorem Xx{α:Type}(p:α->Bool)(l:List α){i:Nat}{a:α}(h:l[i]?=some a):(l.take (i+1)).filter p=(l.take i).filter p++(if p a=true then[a]else[]):=by rw[List.take_succ,h,List.filter_append];simp only[Option.toList_some];cases hp:p a<;>simp[hp]
theorem Rb{ts:List Str}{r:Int}(h0:0<=r)(h1:r<(ts.length:Int)):∃t,atI (ts.map V.str) r=some (.str t)/\t∈ts:=by obtain⟨v,hv,hm⟩:=at_of (xs:=ts.map V.str) h0 (by rw[List.length_map];exact h1);obtain⟨t,ht,rfl⟩:=List.mem_map.mp hm;exact⟨t,hv,ht⟩
theorem SA(r:Option Int):(!decide (YU r=.non))=r.isSome:=by cases r<;>rfl
theorem RowsAt.go{K:PySem.W.Frag}{b:Addr}{H:Hp}{l:Addr}{rows:List (List V)}(h:RowsAt b H l rows){i:Nat}(hi:i<rows.length):(Itl K l).go i H:=by obtain⟨n,as,e,hl,r⟩:=h;exact⟨_,.ref (as[i]'(by omega)),SqL.of e,by simp[hl,hi]⟩
theorem RowsAt.stop{K:PySem.W.Frag}{b:Addr}{H:Hp}{l:Addr}{rows:List (List V)}(h:RowsAt b H l rows):(Itl K l).stop rows.length H:=by obtain⟨n,as,e,hl,r⟩:=h;exact⟨_,SqL.of e,by simp[hl]⟩
theorem RowsAt.item{K:PySem.W.Frag}{b:Addr}{H:Hp}{l:Addr}{rows:List (List V)}(h:RowsAt b H l rows){i:Nat}{r:List V}(hr:rows[i]?=some r){x:V}{H':Hp}(y:(Itl K l).yld i H x H'):H'=H/\∃a,x=.ref a/\a≠b/\H a=some (.tup r):=by obtain⟨a,n,e,as,el,ea,len⟩:=h.at hr;obtain⟨rfl,q⟩:=y;have:=q _ (SqL.of el);rw[List.getElem?_map,ea]at this;exact⟨rfl,a,(Option.some.inj this).symm,n,e⟩
section
variable {P:Program}{w:World}{K:PySem.W.Frag}{mg:Str->Option Value}{base:Heap}
theorem XA:FnScope ["_law_box_here","_law_places_here","_law_starts","_law_start","_law_goals"] ["_law_box_here","_law_places_here"] (Zf T.f__law_ends):=scO (by decide +kernel)
noncomputable def XU:Scope:={kind:=.function,names:=[(Str.ofString ".0",.local),(Str.ofString "_law_place",.local),(Str.ofString "_law_room",.local)],isGenerator:=false,isCoroutine:=false,more:=[]}
theorem UW:CompScope XU (Zf T.f__law_ends):=⟨rfl,by decide +kernel,by decide +kernel,by decide +kernel⟩
theorem Jb:(["_law_place","_law_room"]:List Str).Nodup:=by decide +kernel
theorem UX:CompNames ["_law_box_here","_law_places_here","_law_starts","_law_start","_law_goals"] XU ["_law_place","_law_room"] [none,none]:=.mk' (by decide +kernel)
noncomputable def XS:Scope:={kind:=.function,names:=[(Str.ofString ".0",.local),(Str.ofString "_law_place",.local),(Str.ofString "_law_room",.local),(Str.ofString "_law_start",.free)],isGenerator:=false,isCoroutine:=false,more:=[]}
theorem UT:CompScope XS (Zf T.f__law_ends):=⟨rfl,by decide +kernel,by decide +kernel,by decide +kernel⟩
theorem Ja:(["_law_place","_law_room","_law_start"]:List Str).Nodup:=by decide +kernel
theorem UU:CompNames ["_law_box_here","_law_places_here","_law_starts","_law_start","_law_goals"] XS ["_law_place","_law_room","_law_start"] [none,none,some 3]:=.mk' (by decide +kernel)
theorem TH(B:∀x∈Blts,mg x=none)(CT:Can P w K mg base 1 "_law_take" ["_law_box_here","_law_many"] Xg)(D:Df K mg "_law_ends" T.f__law_ends ["_law_box_here","_law_places_here"]):Can P w K mg base 2 "_law_ends" ["_law_box_here","_law_places_here"] Nq:=by
 refine D.can XA (λvs H Q E h=>?_) (λf cdv A outer s H vs Q E hr h=>?_)
 ·obtain⟨b,l,ps,rfl,_⟩:=h;rfl
 ·obtain⟨b,l,ps,rfl,hb,hp,gp,k⟩:=h;have hpl:(ps.map ZV).length<=sizeLine:=Nat.le_trans (by rw[List.length_map];have:=gp.hi;omega:(ps.map ZV).length<=1000) (by decide);refine⟨_,(Zd (Jg (i:=2) XA.nd rfl (Or.inl rfl) (scope:=XU) (N:=["_law_place","_law_room"]) (cp:=[none,none]) rfl UW UX (Yo (pv 1)) (λC s H ex pn=>(NG (K:=K) (n:=2) rfl rfl (Zt (Zp (i:=0) Jb rfl (Or.inl rfl)) (Zt (Zp (i:=1) Jb rfl (Or.inl rfl)) Yt)))) (λC s H ex pn=>(Gs (ZF JQ (pv 1) ZI (ZE _)))) (λC s H ex pn=>(pv 0))) (Zd (Yl (i:=3) XA.nd rfl (Or.inr rfl) (il K (pv 2) (cn CT hr (Za (pv 0) (Za (ZC (r:=rLen K) Y2 rfl (B _ (by decide +kernel)) PySem.boot_len (Za (pv 2) Zb)) Zb))))) (Zd (Jg (i:=4) XA.nd rfl (Or.inl rfl) (scope:=XS) (N:=["_law_place","_law_room","_law_start"]) (cp:=[none,none,some 3]) rfl UT UU (Yo (pv 1)) (λC s H ex pn=>(NG (K:=K) (n:=2) rfl rfl (Zt (Zp (i:=0) Ja rfl (Or.inl rfl)) (Zt (Zp (i:=1) Ja rfl (Or.inl rfl)) Yt)))) (λC s H ex pn=>(Gs (ZF RM (pv 0) (pv 2) (ZE _)))) (λC s H ex pn=>(pv 0))) (Zi (Zo (Zy (Za (pv 3) (Za (il K (pv 4) (cn CT hr (Za (pv 0) (Za (ZC (r:=rLen K) Y2 rfl (B _ (by decide +kernel)) PySem.boot_len (Za (pv 4) Zb)) Zb)))) Zb)))))))),?_⟩;refine⟨_,rfl,l,rfl,⟨_,SqL.of hp.2.choose_spec.1⟩,?_⟩;refine Us (J:=Itl K l) (ps.map ZV).length hpl (λi ys τ H'=>H'=H/\ys=((ps.take i).filter λp=>p.2.isSome).map (λp=>V.str p.1)/\∃v1 v2,τ=[v1,v2]) ⟨rfl,rfl,none,none,rfl⟩ (λi ys τ H' p=>?_) (λi ys τ H' hi p=>?_) (λys τ H' p=>?_) (λi ys τ H' x H2 hi p yl=>?_) (λys τ H0 p l1 hl1=>?_)
  ·obtain⟨_,rfl,_⟩:=p;rw[List.length_map];exact Nat.le_trans (List.length_filter_le _ _) (by rw[List.length_take];omega)
  ·obtain⟨rfl,_⟩:=p;exact hp.go hi
  ·obtain⟨rfl,_⟩:=p;exact hp.stop
  ·obtain⟨rfl,rfl,v1,v2,rfl⟩:=p;have hi':i<ps.length:=by simpa using hi
   have e0:ps[i]?=some ps[i]:=List.getElem?_eq_getElem hi';obtain⟨rfl,a,rfl,na,ha⟩:=hp.item (r:=ZV ps[i]) (by rw[List.getElem?_map,e0];rfl) yl;refine⟨a,_,rfl,SqT.of ha,rfl,_,_,rfl,_,_,rfl,rfl,_,rfl,rfl,_,rfl,?_⟩;rw[SA];refine XG (λe=>?_) (λe=>?_)
   ·refine⟨_,rfl,rfl,?_,_,_,rfl⟩;rw[Xx _ _ e0,if_pos e,List.map_append];rfl
   ·refine⟨rfl,?_,_,_,rfl⟩;rw[Xx _ _ e0,if_neg (by rw[e];exact Bool.false_ne_true),List.append_nil]
  ·obtain⟨rfl,rfl,v1,v2,rfl⟩:=p;rw[List.length_map,List.take_length];generalize ess:(ps.filter λp=>p.2.isSome).map (·.1)=ss;have e1:(ps.filter λp=>p.2.isSome).map (λp=>V.str p.1)=ss.map V.str:=by rw[<-ess,List.map_map];rfl
   rw[e1];have hss:∀t∈ss,∃i,(t,some i)∈ps:=λt ht=>by rw[<-ess]at ht;obtain⟨p,hp',rfl⟩:=List.mem_map.mp ht;obtain⟨m1,m2⟩:=List.mem_filter.mp hp';obtain⟨i,hi⟩:=Option.isSome_iff_exists.mp m2;exact⟨i,by rw[<-hi];exact m1⟩
   have hs0:0<ss.length:=by
    obtain⟨p,hp',i,hi⟩:=gp.one;have:p.1∈ss:=by rw[<-ess];exact List.mem_map.mpr ⟨p,List.mem_filter.mpr ⟨hp',by rw[hi];rfl⟩,rfl⟩
    exact List.length_pos_of_mem this
   have hs6:ss.length<=6:=by rw[<-ess,List.length_map];exact Nat.le_trans (List.length_filter_le _ _) gp.hi
   have nl1:=hb.ne hl1;have B1:=hb.new (o:=.lst (ss.map V.str)) hl1;have S1:Zh b H0 (upd H0 l1 (.lst (ss.map V.str))):=(Zh.refl b H0).new' hl1;have el1:upd H0 l1 (.lst (ss.map V.str)) l1=some (.lst (ss.map V.str)):=Ze;generalize upd H0 l1 (.lst (ss.map V.str))=H1 at B1 S1 el1 ⊢;refine⟨_,rfl,_,rfl,_,rfl,l1,_,rfl,.inl (SqL.of el1),b,_,rfl,B1,by rw[List.length_map];omega,ZA (by omega) (by rw[List.length_map];omega),λr H2 h02 h12 B2 S2=>?_⟩;rw[List.length_map]at h12;obtain⟨st,hat,hst⟩:=Rb h02 h12;refine⟨l1,_,r,_,rfl,rfl,SqL.of (S2 _ _ el1 nl1),hat,?_⟩;have hp2:=hp.same (S1.trans S2);have S02:=S1.trans S2;refine⟨_,rfl,l,rfl,⟨_,SqL.of hp2.2.choose_spec.1⟩,?_⟩;refine Us (J:=Itl K l) (ps.map ZV).length hpl (λi ys τ H'=>H'=H2/\ys=((ps.take i).filter λp=>!decide (p.1=st)).map (λp=>V.str p.1)/\∃v1 v2,τ=[v1,v2,some (.str st)]) ⟨rfl,rfl,none,none,rfl⟩ (λi ys τ H' p=>?_) (λi ys τ H' hi p=>?_) (λys τ H' p=>?_) (λi ys τ H' x H2 hi p yl=>?_) (λys τ H' p l3 hl3=>?_)
   ·obtain⟨_,rfl,_⟩:=p;rw[List.length_map];exact Nat.le_trans (List.length_filter_le _ _) (by rw[List.length_take];omega)
   ·obtain⟨rfl,_⟩:=p;exact hp2.go hi
   ·obtain⟨rfl,_⟩:=p;exact hp2.stop
   ·obtain⟨rfl,rfl,v1,v2,rfl⟩:=p;have hi':i<ps.length:=by simpa using hi
    have e0:ps[i]?=some ps[i]:=List.getElem?_eq_getElem hi';obtain⟨rfl,a,rfl,na,ha⟩:=hp2.item (r:=ZV ps[i]) (by rw[List.getElem?_map,e0];rfl) yl;refine⟨a,_,rfl,SqT.of ha,rfl,_,_,rfl,_,_,rfl,rfl,_,rfl,_,rfl,rfl,_,rfl,?_⟩;have ee:(!decide (V.str ps[i].1=V.str st))=!decide (ps[i].1=st):=by
     congr 1;by_cases z:ps[i].1=st
     ·rw[z];simp
     ·rw[decide_eq_false z,decide_eq_false (λq=>z (by cases q;rfl))]
    refine XG (λe=>?_) (λe=>?_)
    ·have e':=ee.symm.trans e;refine⟨_,rfl,rfl,?_,_,_,rfl⟩;rw[Xx _ _ e0,if_pos e',List.map_append];rfl
    ·have e':=ee.symm.trans e;refine⟨rfl,?_,_,_,rfl⟩;rw[Xx _ _ e0,if_neg (by rw[e'];exact Bool.false_ne_true),List.append_nil]
   ·obtain⟨rfl,rfl,v1,v2,rfl⟩:=p;rw[List.length_map,List.take_length];generalize egs:(ps.filter λp=>!decide (p.1=st)).map (·.1)=gs;have e3:(ps.filter λp=>!decide (p.1=st)).map (λp=>V.str p.1)=gs.map V.str:=by rw[<-egs,List.map_map];rfl
    rw[e3];have hgs:∀t∈gs,st≠t/\∃r,(t,r)∈ps:=λt ht=>by rw[<-egs]at ht;obtain⟨p,hp',rfl⟩:=List.mem_map.mp ht;obtain⟨m1,m2⟩:=List.mem_filter.mp hp';exact⟨λz=>by simp[z]at m2,p.2,m1⟩
    have hg0:0<gs.length:=by
     have h3:=gp.lo;have nd:=gp.nd;by_cases z:ps[0].1=st
     ·have z1:ps[1].1≠st:=λq=>by
       have:(ps.map (·.1))[0]'(by simp;omega)=(ps.map (·.1))[1]'(by simp;omega):=by simp[z,q]
       exact absurd ((List.getElem_inj nd).mp this) (by decide)
      have:ps[1].1∈gs:=by rw[<-egs];exact List.mem_map.mpr ⟨ps[1],List.mem_filter.mpr ⟨List.getElem_mem _,by simp[z1]⟩,rfl⟩
      exact List.length_pos_of_mem this
     ·have:ps[0].1∈gs:=by rw[<-egs];exact List.mem_map.mpr ⟨ps[0],List.mem_filter.mpr ⟨List.getElem_mem _,by simp[z]⟩,rfl⟩
      exact List.length_pos_of_mem this
    have hg6:gs.length<=6:=by rw[<-egs,List.length_map];exact Nat.le_trans (List.length_filter_le _ _) gp.hi
    have nl3:=B2.ne hl3;have B3:=B2.new (o:=.lst (gs.map V.str)) hl3;have S3:Zh b H0 (upd H' l3 (.lst (gs.map V.str))):=S02.new' hl3;have el3:upd H' l3 (.lst (gs.map V.str)) l3=some (.lst (gs.map V.str)):=Ze;generalize upd H' l3 (.lst (gs.map V.str))=H3 at B3 S3 el3 ⊢;refine⟨_,rfl,_,rfl,_,rfl,_,rfl,l3,_,rfl,.inl (SqL.of el3),b,_,rfl,B3,by rw[List.length_map];omega,ZA (by omega) (by rw[List.length_map];omega),λr4 H4 h04 h14 B4 S4=>?_⟩;rw[List.length_map]at h14;obtain⟨g,hat4,hg⟩:=Rb h04 h14;refine⟨l3,_,r4,_,rfl,rfl,SqL.of (S4 _ _ el3 nl3),hat4,by show 2<=sizeLine;decide,λq hq=>?_⟩;exact k _ q st g (B4.new hq) ((S3.trans S4).new' hq) Ze (B4.ne hq) (hss st hst) (hgs g hg).2 (hgs g hg).1
structure Rd where
 nm:Str
 st:Str
 lv:Int
 gl:Str
 cm:Int
 se:Int
noncomputable def JC(r:Rd):List V:=[.str r.nm,.str r.st,.int r.lv,.str r.gl,.int r.cm,.int r.se]
structure Wy where
 nm:Str
 st:Str
 gl:Str
 lo:Int
 wi:Int
noncomputable def Vo(r:Wy):List V:=[.str r.nm,.str r.st,.str r.gl,.int r.lo,.int r.wi]
structure Gr where
 nm:Str
 pl:Str
 tu:Int
 ma:Int
noncomputable def grRow(r:Gr):List V:=[.str r.nm,.str r.pl,.int r.tu,.int r.ma]
structure Ends(ps:Pl)(s g:Str):Prop where
 st:∃i,(s,some i)∈ps
 gl:∃r,(g,r)∈ps
 ne:s≠g
structure GoodRd(n:Int)(ps:Pl)(r:Rd):Prop where
 ends:Ends ps r.st r.gl
 lv0:0<=r.lv
 lv1:r.lv<=n-1
 cm0:r.lv+1<=r.cm
 cm1:r.cm<=n
 se0:0<=r.se
 se1:r.se<=1000
structure GoodWy(ps:Pl)(r:Wy):Prop where
 ends:Ends ps r.st r.gl
 lo0:1<=r.lo
 lo1:r.lo<=50
 wi0:0<=r.wi
 wi1:r.wi<=1000
noncomputable def sufs:List Str:=["",".","..7",".b"]
structure GoodGr(n:Int)(ps:Pl)(base:Str)(r:Gr):Prop where
 nm:∃s∈sufs,r.nm=base++s
 pl:∃x,(r.pl,x)∈ps
 tu0:0<=r.tu
 tu1:r.tu<=n
 ma0:0<=r.ma
 ma1:r.ma<=5
def RB:Sp:=λvs H Q _=>∃(b l:Addr)(nm:Str)(n:Int)(ps:Pl),vs=[.ref b,.str nm,.int n,.ref l]/\Zz H b/\RowsAt b H l (ps.map ZV)/\GoodPl ps/\1<=n/\n<=50/\∀H' q(r:Rd),Zz H' b->Zh b H H'->H' q=some (.tup (JC r))->q≠b->r.nm=nm->GoodRd n ps r->Q (.ref q) H'
def Wa:Sp:=λvs H Q _=>∃(b l:Addr)(nm:Str)(ps:Pl),vs=[.ref b,.str nm,.ref l]/\Zz H b/\RowsAt b H l (ps.map ZV)/\GoodPl ps/\∀H' q(r:Wy),Zz H' b->Zh b H H'->H' q=some (.tup (Vo r))->q≠b->r.nm=nm->GoodWy ps r->Q (.ref q) H'
def Ph:Sp:=λvs H Q _=>∃(b l:Addr)(nm:Str)(n:Int)(ps:Pl),vs=[.ref b,.str nm,.int n,.ref l]/\Zz H b/\nm.length<=1000/\RowsAt b H l (ps.map ZV)/\GoodPl ps/\1<=n/\n<=50/\∀H' q(r:Gr),Zz H' b->Zh b H H'->H' q=some (.tup (grRow r))->q≠b->GoodGr n ps nm r->Q (.ref q) H'
theorem Ra{c:Bool}{x y:Int}:atI [V.int x,.int y] (if c=true then 1 else 0)=some (.int (if c=true then y else x)):=by
 cases c
 ·exact Zn (j:=0) rfl
 ·exact Zn (j:=1) rfl
theorem Uy{x y m:Int}(h1:x<=m)(h2:y<=m)(c:Bool):(if c=true then y else x)<=m:=by cases c<;>assumption
theorem Uz{x y m:Int}(h1:m<=x)(h2:m<=y)(c:Bool):m<=(if c=true then y else x):=by cases c<;>assumption
theorem Xz:FnScope ["_law_box_here","_law_name","_law_turns","_law_places_here","_law_start","_law_goal","_law_leave"] ["_law_box_here","_law_name","_law_turns","_law_places_here"] (Zf T.f__law_ride):=scO (by decide +kernel)
theorem TF(B:∀x∈Blts,mg x=none)(CT:Can P w K mg base 1 "_law_take" ["_law_box_here","_law_many"] Xg)(CS:Can P w K mg base 2 "_law_size" ["_law_box_here"] Nl)(CE:Can P w K mg base 2 "_law_ends" ["_law_box_here","_law_places_here"] Nq)(D:Df K mg "_law_ride" T.f__law_ride ["_law_box_here","_law_name","_law_turns","_law_places_here"]):Can P w K mg base 3 "_law_ride" ["_law_box_here","_law_name","_law_turns","_law_places_here"] RB:=by
 refine D.can Xz (λvs H Q E h=>?_) (λf cdv A outer s H vs Q E hr h=>?_)
 ·obtain⟨b,l,nm,n,ps,rfl,_⟩:=h;rfl
 ·obtain⟨b,l,nm,n,ps,rfl,hb,hp,gp,hn1,hn2,k⟩:=h;refine⟨_,(Zd (UK (cn CE hr (Za (pv 0) (Za (pv 3) Zb))) (Xj rfl (Zt (Zp (i:=4) Xz.nd rfl (Or.inl rfl)) (Zt (Zp (i:=5) Xz.nd rfl (Or.inl rfl)) Yt)))) (Zd (st 6 Xz.nd (cn CT hr (Za (pv 0) (Za (pv 2) Zb)))) (Zi (Zo (Zy (Za (pv 1) (Za (pv 4) (Za (pv 6) (Za (pv 5) (Za (Zx Z3 (Zx Z3 (pv 6) Zc) (cn CT hr (Za (pv 0) (Za (Zx Jk (pv 2) (pv 6)) Zb)))) (Za (cn CS hr (Za (pv 0) Zb)) Zb))))))))))),?_⟩;refine⟨_,rfl,_,rfl,b,l,ps,rfl,hb,hp,gp,λH1 q st gl B1 S1 hq nq es eg ne=>?_⟩;refine⟨q,_,rfl,SqT.of hq,rfl,_,_,rfl,_,_,rfl,rfl,?_⟩;refine⟨_,rfl,_,rfl,b,n,rfl,B1,by omega,ZA (by omega) (by omega),λlv H2 h02 h12 B2 S2=>?_⟩;refine⟨_,rfl,_,rfl,_,rfl,_,rfl,_,rfl,_,_,rfl,rfl,_,rfl,_,rfl,_,rfl,_,_,rfl,rfl,b,n-lv,rfl,B2,by omega,ZA (by omega) (by omega),λd H3 h03 h13 B3 S3=>?_⟩;refine⟨_,_,rfl,rfl,_,rfl,b,rfl,B3,λse H4 h04 h14 B4 S4=>?_⟩;refine⟨by show 6<=sizeLine;decide,λq2 hq2=>?_⟩;exact k _ q2 ⟨nm,st,lv,gl,lv+1+d,se⟩ (B4.new hq2) ((((S1.trans S2).trans S3).trans S4).new' hq2) Ze (B4.ne hq2) rfl ⟨⟨es,eg,ne⟩,h02,by show lv<=n-1;omega,by show lv+1<=lv+1+d;omega,by show lv+1+d<=n;omega,h04,h14⟩
theorem Va:FnScope ["_law_box_here","_law_name","_law_places_here","_law_start","_law_goal"] ["_law_box_here","_law_name","_law_places_here"] (Zf T.f__law_way):=scO (by decide +kernel)
theorem Kj(B:∀x∈Blts,mg x=none)(CT:Can P w K mg base 1 "_law_take" ["_law_box_here","_law_many"] Xg)(CS:Can P w K mg base 2 "_law_size" ["_law_box_here"] Nl)(CE:Can P w K mg base 2 "_law_ends" ["_law_box_here","_law_places_here"] Nq)(D:Df K mg "_law_way" T.f__law_way ["_law_box_here","_law_name","_law_places_here"]):Can P w K mg base 3 "_law_way" ["_law_box_here","_law_name","_law_places_here"] Wa:=by
 refine D.can Va (λvs H Q E h=>?_) (λf cdv A outer s H vs Q E hr h=>?_)
 ·obtain⟨b,l,nm,ps,rfl,_⟩:=h;rfl
 ·obtain⟨b,l,nm,ps,rfl,hb,hp,gp,k⟩:=h;refine⟨_,(Zd (UK (cn CE hr (Za (pv 0) (Za (pv 2) Zb))) (Xj rfl (Zt (Zp (i:=3) Va.nd rfl (Or.inl rfl)) (Zt (Zp (i:=4) Va.nd rfl (Or.inl rfl)) Yt)))) (Zi (Zo (Zy (Za (pv 1) (Za (pv 3) (Za (pv 4) (Za (Zx Z3 Zc (cn CT hr (Za (pv 0) (Za (il K (Z2 (Za Zc (Za Zc Zb))) (Yh U0 rfl (B _ (by decide +kernel)) NX (Za (YB X4 (cn CT hr (Za (pv 0) (Za Zc Zb))) Zc (ZE _)) Zb))) Zb)))) (Za (cn CS hr (Za (pv 0) Zb)) Zb))))))))),?_⟩;refine⟨_,rfl,_,rfl,b,l,ps,rfl,hb,hp,gp,λH1 q st gl B1 S1 hq nq es eg ne=>?_⟩;refine⟨q,_,rfl,SqT.of hq,rfl,_,_,rfl,_,_,rfl,rfl,?_⟩;refine⟨_,rfl,_,rfl,_,rfl,_,rfl,by show 2<=sizeLine;decide,λl2 hl2=>?_⟩;have n2:=B1.ne hl2;refine⟨_,rfl,b,8,rfl,B1.new hl2,by decide,ZA (by decide) (by decide),λr2 H2 h02 h12 B2 S2=>?_⟩;have el2:=S2 _ _ Ze n2;have S02:=(S1.new' (o:=.lst [.int 3,.int 50]) hl2).trans S2;refine⟨rfl,.inr ⟨_,rfl,l2,_,_,_,rfl,rfl,SqL.of el2,Ra,b,_,rfl,B2,?_,?_,λlo H3 h03 h13 B3 S3=>?_⟩⟩
  ·exact Int.lt_of_lt_of_le (by decide:(0:Int)<3) (Uz (by decide) (by decide) _)
  ·exact ZA (Int.le_trans (by decide:(0:Int)<=3) (Uz (by decide) (by decide) _)) (Uy (by decide) (by decide) _)
  ·have h50:lo<50:=Int.lt_of_lt_of_le h13 (Uy (by decide) (by decide) _);refine⟨_,_,rfl,rfl,_,rfl,b,rfl,B3,λwi H4 h04 h14 B4 S4=>?_⟩;refine⟨by show 5<=sizeLine;decide,λq2 hq2=>?_⟩;exact k _ q2 ⟨nm,st,gl,1+lo,wi⟩ (B4.new hq2) (((S02.trans S3).trans S4).new' hq2) Ze (B4.ne hq2) rfl ⟨⟨es,eg,ne⟩,by show 1<=1+lo;omega,by show 1+lo<=50;omega,h04,h14⟩
theorem Je:FnScope ["_law_box_here","_law_name","_law_turns","_law_places_here","_law_place"] ["_law_box_here","_law_name","_law_turns","_law_places_here"] (Zf T.f__law_group):=scO (by decide +kernel)
theorem Q5(B:∀x∈Blts,mg x=none)(CT:Can P w K mg base 1 "_law_take" ["_law_box_here","_law_many"] Xg)(D:Df K mg "_law_group" T.f__law_group ["_law_box_here","_law_name","_law_turns","_law_places_here"]):Can P w K mg base 2 "_law_group" ["_law_box_here","_law_name","_law_turns","_law_places_here"] Ph:=by
 refine D.can Je (λvs H Q E h=>?_) (λf cdv A outer s H vs Q E hr h=>?_)
 ·obtain⟨b,l,nm,n,ps,rfl,_⟩:=h;rfl
 ·obtain⟨b,l,nm,n,ps,rfl,hb,hnl,hp,gp,hn1,hn2,k⟩:=h;refine⟨_,(Zd (st 1 Je.nd (Zx Jl (pv 1) (il K (Z2 (Za Zr (Za Zr (Za Zr (Za Zr Zb))))) (cn CT hr (Za (pv 0) (Za Zc Zb)))))) (Zd (st 4 Je.nd (it K (il K (pv 3) (cn CT hr (Za (pv 0) (Za (ZC (r:=rLen K) Y2 rfl (B _ (by decide +kernel)) PySem.boot_len (Za (pv 3) Zb)) Zb)))) Zc)) (Zi (Zo (Zy (Za (pv 1) (Za (pv 4) (Za (cn CT hr (Za (pv 0) (Za (Zx Z3 (pv 2) Zc) Zb))) (Za (cn CT hr (Za (pv 0) (Za Zc Zb))) Zb))))))))),?_⟩;refine⟨_,rfl,by show 4<=sizeLine;decide,λl2 hl2=>?_⟩;have n2:=hb.ne hl2;refine⟨_,rfl,b,4,rfl,hb.new hl2,by decide,ZA (by decide) (by decide),λr2 H2 h02 h12 B2 S2=>?_⟩;have el2:=S2 _ _ Ze n2;have S02:=((Zh.refl b H).new' (o:=.lst (sufs.map V.str)) hl2).trans S2;obtain⟨sf,hat,hsf⟩:=Rb (ts:=sufs) h02 h12;have hsl:sf.length<=3:=(by decide +kernel:∀t∈sufs,t.length<=3) sf hsf;refine⟨l2,_,r2,_,rfl,rfl,SqL.of el2,hat,_,_,rfl,rfl,Nat.le_trans (by omega:nm.length+sf.length<=2000) (by decide),?_⟩;have hp2:=hp.same S02;have hp2':=hp2;obtain⟨nlb,as,el,len,rws⟩:=hp2';have len':as.length=ps.length:=by rw[len,List.length_map]
  have h36:3<=ps.length/\ps.length<=6:=⟨gp.lo,gp.hi⟩;refine⟨_,rfl,_,rfl,_,rfl,l,_,rfl,.inl (SqL.of el),b,_,rfl,B2,by rw[List.length_map];omega,ZA (by omega) (by rw[List.length_map];omega),λr3 H3 h03 h13 B3 S3=>?_⟩;rw[List.length_map]at h13;have hi:r3.toNat<ps.length:=by omega
  obtain⟨a,na,ha,as',el',ea,len2⟩:=(hp2.same S3).at (i:=r3.toNat) (r:=ZV ps[r3.toNat]) (by rw[List.getElem?_map,List.getElem?_eq_getElem hi];rfl);refine⟨l,_,r3,.ref a,rfl,rfl,SqL.of el',Rc (j:=r3.toNat) (by omega) (by rw[List.getElem?_map,ea];rfl),a,_,0,_,rfl,rfl,SqT.of ha,Zn (j:=0) rfl,?_⟩;refine⟨_,rfl,_,rfl,_,rfl,_,rfl,_,_,rfl,rfl,b,n+1,rfl,B3,by omega,ZA (by omega) (by omega),λtu H4 h04 h14 B4 S4=>?_⟩;refine⟨_,rfl,b,6,rfl,B4,by decide,ZA (by decide) (by decide),λma H5 h05 h15 B5 S5=>?_⟩;refine⟨by show 4<=sizeLine;decide,λq hq=>?_⟩;exact k _ q ⟨nm++sf,ps[r3.toNat].1,tu,ma⟩ (B5.new hq) ((((S02.trans S3).trans S4).trans S5).new' hq) Ze (B5.ne hq) ⟨⟨sf,hsf,rfl⟩,⟨ps[r3.toNat].2,List.getElem_mem hi⟩,h04,by show tu<=n;omega,h05,by show ma<=5;omega⟩
structure Wd where
 n:Int
 ps:Pl
 rs:List Rd
 ws:List Wy
 gs:List Gr
structure Names(ts:List Str)(s:Str):Prop where
 nd:ts.Nodup
 nm:∀t∈ts,Nm t
 len:ts.length<=12
 snm:Nm s
 s:s∉ts
structure GoodW(W:Wd)(bs:List Str):Prop where
 n0:1<=W.n
 n1:W.n<=50
 pl:GoodPl W.ps
 rd:∀r∈W.rs,GoodRd W.n W.ps r
 wy:∀r∈W.ws,GoodWy W.ps r
 len:W.gs.length=bs.length
 gr:∀(i:Nat)b g,bs[i]?=some b->W.gs[i]?=some g->GoodGr W.n W.ps b g
structure Strange(W:Wd)(bs:List Str)(s0 s1 s2 s3:Str):Prop where
 p:Nm s0/\s0∉W.ps.map (·.1)
 r:Names (W.rs.map (·.nm)) s1
 w:Names (W.ws.map (·.nm)) s2
 g:Names bs s3
structure WorldAt(b:Addr)(H:Hp)(p:Addr)(W:Wd)(l1 l2 l3 l4:Addr):Prop where
 ne:p≠b
 at_:H p=some (.lst [.int W.n,.ref l1,.ref l2,.ref l3,.ref l4])
 pl:RowsAt b H l1 (W.ps.map ZV)
 rd:RowsAt b H l2 (W.rs.map JC)
 wy:RowsAt b H l3 (W.ws.map Vo)
 gr:RowsAt b H l4 (W.gs.map grRow)
def Rt:Sp:=λvs H Q _=>∃(b:Addr),vs=[.ref b]/\Zz H b/\∀H' q p st l1 l2 l3 l4(W:Wd)(bs:List Str)(s0 s1 s2 s3:Str),Zz H' b->Zh b H H'->q≠b->H' q=some (.lst [.ref p,.ref st])->st≠b->H' st=some (.lst [.str s0,.str s1,.str s2,.str s3])->WorldAt b H' p W l1 l2 l3 l4->GoodW W bs->Strange W bs s0 s1 s2 s3->Q (.ref q) H'
def GA(b:Addr)(H:Hp)(l:Addr)(ts:List Str):Prop:=l≠b/\H l=some (.lst (ts.map V.str))/\1<=ts.length/\ts.length<=13/\ts.Nodup/\∀t∈ts,Nm t
theorem GA.same{b:Addr}{H H':Hp}{l:Addr}{ts:List Str}(s:Zh b H H')(h:GA b H l ts):GA b H' l ts:=⟨h.1,s _ _ h.2.1 h.1,h.2.2⟩
theorem cut1(xs:List V)(h:1<=xs.length):cutV xs (some 1) none=xs.drop 1:=by
 have e:HT.sIx xs.length 0 (some 1)=1:=by simp[HT.sIx];omega
 have e2:HT.sIx xs.length xs.length none=xs.length:=by simp[HT.sIx]
 unfold cutV;rw[e,e2,List.take_of_length_le (by rw[List.length_drop];exact Nat.le_refl _)]
theorem Names.of{ts:List Str}{s:Str}(h1:(s::ts).length<=13)(h2:(s::ts).Nodup)(h3:∀t∈s::ts,Nm t):Names ts s:=by rw[List.nodup_cons]at h2;exact⟨h2.2,λt ht=>h3 t (List.mem_cons_of_mem _ ht),by simp at h1;omega,h3 s List.mem_cons_self,h2.1⟩
def Made{R:Type}(b:Addr)(H:Hp)(row:R->List V)(G:Str->R->Prop)(tl:List Str)(i:Nat)(ys:List V):Prop:=∃(as:List Addr)(rs:List R),ys=as.map V.ref/\as.length=i/\rs.length=i/\(∀(j:Nat)a r,as[j]?=some a->rs[j]?=some r->a≠b/\H a=some (.tup (row r)))/\∀(j:Nat)r t,rs[j]?=some r->tl[j]?=some t->G t r
theorem Made.nil{R:Type}{b:Addr}{H:Hp}{row:R->List V}{G:Str->R->Prop}{tl:List Str}:Made b H row G tl 0 []:=⟨[],[],rfl,rfl,rfl,λj a r h=>by simp at h,λj r t h=>by simp at h⟩
theorem Made.len{R:Type}{b:Addr}{H:Hp}{row:R->List V}{G:Str->R->Prop}{tl:List Str}{i:Nat}{ys:List V}(m:Made b H row G tl i ys):ys.length<=i:=by obtain⟨as,rs,rfl,l1,_⟩:=m;rw[List.length_map,l1];exact Nat.le_refl _
theorem Gm{α:Type}{l:List α}{x y:α}{j i:Nat}(hl:l.length=i)(h:(l++[x])[j]?=some y):l[j]?=some y\/(j=i/\x=y):=by
 rcases Nat.lt_or_ge j l.length with h1|h1
 ·rw[List.getElem?_append_left h1]at h;exact .inl h
 ·rw[List.getElem?_append_right h1]at h;rcases Nat.eq_zero_or_pos (j-l.length)with h2|h2
  ·rw[h2]at h;exact .inr ⟨by omega,by simpa using h⟩
  ·rw[List.getElem?_eq_none (by simp;omega)]at h;cases h
theorem Made.step{R:Type}{b:Addr}{H H2:Hp}{row:R->List V}{G:Str->R->Prop}{tl:List Str}{i:Nat}{ys:List V}{a:Addr}{r:R}{t:Str}(m:Made b H row G tl i ys)(s:Zh b H H2)(na:a≠b)(ha:H2 a=some (.tup (row r)))(ht:tl[i]?=some t)(g:G t r):Made b H2 row G tl (i+1) (ys++[.ref a]):=by
 obtain⟨as,rs,rfl,l1,l2,r1,r2⟩:=m;refine⟨as++[a],rs++[r],by simp,by simp[l1],by simp[l2],λj a' r' h1 h2=>?_,λj r' t' h1 h2=>?_⟩
 ·rcases Gm l1 h1 with h1|⟨e,rfl⟩
  ·have hj:j<i:=by rw[<-l1];exact(List.getElem?_eq_some_iff.mp h1).1
   rcases Gm l2 h2 with h2|⟨e,rfl⟩
   ·obtain⟨n,e⟩:=r1 j a' r' h1 h2;exact⟨n,s _ _ e n⟩
   ·omega
  ·rcases Gm l2 h2 with h2|⟨e,rfl⟩
   ·have hj:j<i:=by rw[<-l2];exact(List.getElem?_eq_some_iff.mp h2).1
    omega
   ·exact⟨na,ha⟩
 ·rcases Gm l2 h1 with h1|⟨e,rfl⟩
  ·exact r2 j r' t' h1 h2
  ·rw[e,ht]at h2;cases h2;exact g
theorem Made.done{R:Type}{b:Addr}{H:Hp}{row:R->List V}{G:Str->R->Prop}{tl:List Str}{ys:List V}(m:Made b H row G tl tl.length ys){l:Addr}(hb:Zz H b)(hl:H l=none):∃rs:List R,RowsAt b (upd H l (.lst ys)) l (rs.map row)/\rs.length=tl.length/\∀(j:Nat)r t,rs[j]?=some r->tl[j]?=some t->G t r:=by obtain⟨as,rs,rfl,l1,l2,r1,r2⟩:=m;refine⟨rs,⟨hb.ne hl,as,Ze,by rw[List.length_map,l1,l2],λi a r h1 h2=>?_⟩,l2,r2⟩;rw[List.getElem?_map]at h2;obtain⟨r',h2',rfl⟩:=Option.map_eq_some_iff.mp h2;obtain⟨n,e⟩:=r1 i a r' h1 h2';exact⟨n,by rw[Zj (Zk e hl)];exact e⟩
theorem Qo{K:PySem.W.Frag}{H:Hp}{l:Addr}{ts:List Str}(h:H l=some (.lst (ts.map V.str))){i:Nat}(hi:i<ts.length):(Itl K l).go i H:=⟨_,.str ts[i],SqL.of h,by simp[hi]⟩
theorem GH{K:PySem.W.Frag}{H:Hp}{l:Addr}{ts:List Str}(h:H l=some (.lst (ts.map V.str))):(Itl K l).stop ts.length H:=⟨_,SqL.of h,by simp⟩
theorem GI{K:PySem.W.Frag}{H H':Hp}{l:Addr}{ts:List Str}(h:H l=some (.lst (ts.map V.str))){i:Nat}{x:V}(hi:i<ts.length)(y:(Itl K l).yld i H x H'):H'=H/\x=.str ts[i]:=by obtain⟨rfl,q⟩:=y;have:=q _ (SqL.of h);rw[List.getElem?_map,List.getElem?_eq_getElem hi]at this;exact⟨rfl,(Option.some.inj this).symm⟩
theorem Yi:FnScope ["_law_box_here","_law_turns","_law_places_here","_law_strange","_law_names_here","_law_rides","_law_ways","_law_groups"] ["_law_box_here"] (Zf T.f__law_world):=scO (by decide +kernel)
noncomputable def Xn:Scope:={kind:=.function,names:=[(Str.ofString ".0",.local),(Str.ofString "_law_k",.local),(Str.ofString "_law_names",.globalImplicit),(Str.ofString "_law_take",.globalImplicit),(Str.ofString "int",.globalImplicit),(Str.ofString "_law_box_here",.free)],isGenerator:=false,isCoroutine:=false,more:=[]}
theorem V2:CompScope Xn (Zf T.f__law_world):=⟨rfl,by decide +kernel,by decide +kernel,by decide +kernel⟩
theorem V4:(["_law_k","_law_box_here"]:List Str).Nodup:=by decide +kernel
theorem V3:CompNames ["_law_box_here","_law_turns","_law_places_here","_law_strange","_law_names_here","_law_rides","_law_ways","_law_groups"] Xn ["_law_k","_law_box_here"] [none,some 0]:=.mk' (by decide +kernel)
noncomputable def Xm:Scope:={kind:=.function,names:=[(Str.ofString ".0",.local),(Str.ofString "_law_name",.local),(Str.ofString "_law_ride",.globalImplicit),(Str.ofString "_law_box_here",.free),(Str.ofString "_law_places_here",.free),(Str.ofString "_law_turns",.free)],isGenerator:=false,isCoroutine:=false,more:=[]}
theorem VZ:CompScope Xm (Zf T.f__law_world):=⟨rfl,by decide +kernel,by decide +kernel,by decide +kernel⟩
theorem V1:(["_law_name","_law_box_here","_law_places_here","_law_turns"]:List Str).Nodup:=by decide +kernel
theorem V0:CompNames ["_law_box_here","_law_turns","_law_places_here","_law_strange","_law_names_here","_law_rides","_law_ways","_law_groups"] Xm ["_law_name","_law_box_here","_law_places_here","_law_turns"] [none,some 0,some 2,some 1]:=.mk' (by decide +kernel)
noncomputable def Xl:Scope:={kind:=.function,names:=[(Str.ofString ".0",.local),(Str.ofString "_law_name",.local),(Str.ofString "_law_way",.globalImplicit),(Str.ofString "_law_box_here",.free),(Str.ofString "_law_places_here",.free)],isGenerator:=false,isCoroutine:=false,more:=[]}
theorem VW:CompScope Xl (Zf T.f__law_world):=⟨rfl,by decide +kernel,by decide +kernel,by decide +kernel⟩
theorem VY:(["_law_name","_law_box_here","_law_places_here"]:List Str).Nodup:=by decide +kernel
theorem VX:CompNames ["_law_box_here","_law_turns","_law_places_here","_law_strange","_law_names_here","_law_rides","_law_ways","_law_groups"] Xl ["_law_name","_law_box_here","_law_places_here"] [none,some 0,some 2]:=.mk' (by decide +kernel)
noncomputable def Xk:Scope:={kind:=.function,names:=[(Str.ofString ".0",.local),(Str.ofString "_law_name",.local),(Str.ofString "_law_group",.globalImplicit),(Str.ofString "_law_box_here",.free),(Str.ofString "_law_places_here",.free),(Str.ofString "_law_turns",.free)],isGenerator:=false,isCoroutine:=false,more:=[]}
theorem VT:CompScope Xk (Zf T.f__law_world):=⟨rfl,by decide +kernel,by decide +kernel,by decide +kernel⟩
theorem VV:(["_law_name","_law_box_here","_law_places_here","_law_turns"]:List Str).Nodup:=by decide +kernel
theorem VU:CompNames ["_law_box_here","_law_turns","_law_places_here","_law_strange","_law_names_here","_law_rides","_law_ways","_law_groups"] Xk ["_law_name","_law_box_here","_law_places_here","_law_turns"] [none,some 0,some 2,some 1]:=.mk' (by decide +kernel)
theorem Tn(B:∀x∈Blts,mg x=none)(CT:Can P w K mg base 1 "_law_take" ["_law_box_here","_law_many"] Xg)(CN:Can P w K mg base 2 "_law_names" ["_law_box_here","_law_many"] Nn)(CP:Can P w K mg base 3 "_law_places" ["_law_box_here"] Pd)(CR:Can P w K mg base 3 "_law_ride" ["_law_box_here","_law_name","_law_turns","_law_places_here"] RB)(CW:Can P w K mg base 3 "_law_way" ["_law_box_here","_law_name","_law_places_here"] Wa)(CG:Can P w K mg base 2 "_law_group" ["_law_box_here","_law_name","_law_turns","_law_places_here"] Ph)(D:Df K mg "_law_world" T.f__law_world ["_law_box_here"]):Can P w K mg base 4 "_law_world" ["_law_box_here"] Rt:=by
 refine D.can Yi (λvs H Q E h=>?_) (λf cdv A outer s H vs Q E hr h=>?_)
 ·obtain⟨b,rfl,_⟩:=h;rfl
 ·obtain⟨b,rfl,hb,k⟩:=h;refine⟨_,(Zd (Yl (i:=1) Yi.nd rfl (Or.inr rfl) (Zx Z3 Zc (cn CT hr (Za (pv 0) (Za (il K (Z2 (Za Zc (Za Zc Zb))) (Yh U0 rfl (B _ (by decide +kernel)) NX (Za (YB X4 (cn CT hr (Za (pv 0) (Za Zc Zb))) Zc (ZE _)) Zb))) Zb))))) (Zd (UK (cn CP hr (Za (pv 0) Zb)) (Ww rfl (Zt (Zp (i:=2) Yi.nd rfl (Or.inr rfl)) (Zt (Zp (i:=3) Yi.nd rfl (Or.inl rfl)) Yt)))) (Zd (Jg (i:=4) Yi.nd rfl (Or.inl rfl) (scope:=Xn) (N:=["_law_k","_law_box_here"]) (cp:=[none,some 0]) rfl V2 V3 (Yy rfl (B _ (by decide +kernel)) (Za Zc Zb)) (λC s H ex pn=>(Zp (i:=0) V4 rfl (Or.inl rfl))) (λC s H ex pn=>Ys) (λC s H ex pn=>(cn CN hr (Za (pv 1) (Za (Zx Z3 Zc (cn CT hr (Za (pv 1) (Za (il K (Z2 (Za Zc (Za Zc Zb))) (Yh U0 rfl (B _ (by decide +kernel)) NX (Za (YB X4 (cn CT hr (Za (pv 1) (Za Zc Zb))) Zc (ZE _)) Zb))) Zb)))) Zb))))) (Zd (Jg (i:=5) Yi.nd rfl (Or.inl rfl) (scope:=Xm) (N:=["_law_name","_law_box_here","_law_places_here","_law_turns"]) (cp:=[none,some 0,some 2,some 1]) rfl VZ V0 (Yo (ZY (r:=rSlL K) Vu (il K (pv 4) Zc) (Ye Zc) Yg)) (λC s H ex pn=>(Zp (i:=0) V1 rfl (Or.inl rfl))) (λC s H ex pn=>Ys) (λC s H ex pn=>(cn CR hr (Za (pv 1) (Za (pv 0) (Za (pv 3) (Za (pv 2) Zb))))))) (Zd (Jg (i:=6) Yi.nd rfl (Or.inl rfl) (scope:=Xl) (N:=["_law_name","_law_box_here","_law_places_here"]) (cp:=[none,some 0,some 2]) rfl VW VX (Yo (ZY (r:=rSlL K) Vu (il K (pv 4) Zc) (Ye Zc) Yg)) (λC s H ex pn=>(Zp (i:=0) VY rfl (Or.inl rfl))) (λC s H ex pn=>Ys) (λC s H ex pn=>(cn CW hr (Za (pv 1) (Za (pv 0) (Za (pv 2) Zb)))))) (Zd (Jg (i:=7) Yi.nd rfl (Or.inl rfl) (scope:=Xk) (N:=["_law_name","_law_box_here","_law_places_here","_law_turns"]) (cp:=[none,some 0,some 2,some 1]) rfl VT VU (Yo (ZY (r:=rSlL K) Vu (il K (pv 4) Zc) (Ye Zc) Yg)) (λC s H ex pn=>(Zp (i:=0) VV rfl (Or.inl rfl))) (λC s H ex pn=>Ys) (λC s H ex pn=>(cn CG hr (Za (pv 1) (Za (pv 0) (Za (pv 3) (Za (pv 2) Zb))))))) (Zi (Zo (Z2 (Za (Z2 (Za (pv 1) (Za (pv 2) (Za (pv 5) (Za (pv 6) (Za (pv 7) Zb)))))) (Za (Z2 (Za (pv 3) (Za (il K (il K (pv 4) Zc) Zc) (Za (il K (il K (pv 4) Zc) Zc) (Za (il K (il K (pv 4) Zc) Zc) Zb))))) Zb))))))))))),?_⟩;refine⟨_,rfl,by show 2<=sizeLine;decide,λl2 hl2=>?_⟩;have n2:=hb.ne hl2;refine⟨_,rfl,b,8,rfl,hb.new hl2,by decide,ZA (by decide) (by decide),λr2 H2 h02 h12 B2 S2=>?_⟩;have el2:=S2 _ _ Ze n2;have S02:=((Zh.refl b H).new' (o:=.lst [.int 6,.int 50]) hl2).trans S2;refine⟨rfl,.inr ⟨_,rfl,l2,_,_,_,rfl,rfl,SqL.of el2,Ra,b,_,rfl,B2,?_,?_,λtu H3 h03 h13 B3 S3=>?_⟩⟩
  ·exact Int.lt_of_lt_of_le (by decide:(0:Int)<6) (Uz (by decide) (by decide) _)
  ·exact ZA (Int.le_trans (by decide:(0:Int)<=6) (Uz (by decide) (by decide) _)) (Uy (by decide) (by decide) _)
  have h50:tu<50:=Int.lt_of_lt_of_le h13 (Uy (by decide) (by decide) _);clear h13;refine⟨_,_,rfl,rfl,?_⟩;have S03:=S02.trans S3;clear S02 S2 S3 el2 hl2;have hn1:1<=(1+tu):=by omega
  have hn2:(1+tu)<=50:=by omega
  refine⟨_,rfl,b,rfl,B3,λH4 q l1 s0 ps B4 S4 hq nq hpl gp s0n s0p=>?_⟩;refine⟨q,_,rfl,SqL.of hq,rfl,_,_,rfl,_,_,rfl,rfl,?_⟩;have S04:=S03.trans S4;clear S03 S4 B3;refine⟨3,rfl,by decide,by decide,Yd (J:=Itr 0 3) 3 (by decide)
   (λi ys τ H'=>Zz H' b/\Zh b H H'/\RowsAt b H' l1 (ps.map ZV)/\(∃ls:List (Addr×List Str),ys=ls.map (λp=>V.ref p.1)/\ls.length=i/\∀p∈ls,GA b H' p.1 p.2)/\∃v,τ=[v,some (.ref b)]) ⟨B4,S04,hpl,⟨[],rfl,rfl,by simp⟩,none,rfl⟩ (λi ys τ H' p=>?_) (λi ys τ H' hi p=>hi) (λys τ H' p=>Nat.le_refl _) (λi ys τ H' x' H3 hi p yl=>?_) (λys τ H5 p ln hln=>?_)⟩
  ·obtain⟨_,_,_,⟨ls,rfl,e,_⟩,_⟩:=p;rw[List.length_map,e];exact Nat.le_refl _
  ·obtain⟨bx,sm,hpl5,⟨ls,rfl,e,ho⟩,v,rfl⟩:=p;obtain⟨rfl,rfl⟩:=yl;refine⟨_,rfl,_,rfl,by show 2<=sizeLine;decide,λl2 hl2=>?_⟩;have n2:=bx.ne hl2;refine⟨_,rfl,b,8,rfl,bx.new hl2,by decide,ZA (by decide) (by decide),λr2 H2 h02 h12 B2 S2=>?_⟩;have el2:=S2 _ _ Ze n2;have S12:=((Zh.refl b H3).new' (o:=.lst [.int 5,.int 13]) hl2).trans S2;refine⟨rfl,.inr ⟨_,rfl,l2,_,_,_,rfl,rfl,SqL.of el2,Ra,b,_,rfl,B2,?_,?_,λmn H6 h06 h16 B6 S6=>?_⟩⟩
   ·exact Int.lt_of_lt_of_le (by decide:(0:Int)<5) (Uz (by decide) (by decide) _)
   ·exact ZA (Int.le_trans (by decide:(0:Int)<=5) (Uz (by decide) (by decide) _)) (Uy (by decide) (by decide) _)
   have h13:mn<13:=Int.lt_of_lt_of_le h16 (Uy (by decide) (by decide) _);refine⟨_,_,rfl,rfl,b,1+mn,rfl,B6,by omega,by omega,λH7 l7 ts B7 S7 hl7 nl7 hlen hnd hnm=>?_⟩;have S17:=(S12.trans S6).trans S7;refine⟨B7,sm.trans S17,hpl5.same S17,⟨ls++[(l7,ts)],by rw[List.map_append];rfl,by simp[e],λp hp=>?_⟩,_,rfl⟩;rcases List.mem_append.mp hp with hp|hp
   ·exact(ho p hp).same S17
   ·rw[List.mem_singleton]at hp;subst hp;exact⟨nl7,hl7,by show 1<=ts.length;omega,by show ts.length<=13;omega,hnd,hnm⟩
  ·obtain⟨B5,S05,hpl5,⟨ls,rfl,e,ho⟩,v,rfl⟩:=p;match ls,e,ho with
  |[(a1,t1),(a2,t2),(a3,t3)],_,ho=>
   have N1:=ho (a1,t1) (by simp);have N2:=ho (a2,t2) (by simp);have N3:=ho (a3,t3) (by simp);clear ho;dsimp only[List.map]at hln ⊢;have nln:=B5.ne hln;have B6:=B5.new (o:=.lst [.ref a1,.ref a2,.ref a3]) hln;have S56:Zh b H5 (upd H5 ln (.lst [.ref a1,.ref a2,.ref a3])):=(Zh.refl b H5).new' hln;have eln:upd H5 ln (.lst [.ref a1,.ref a2,.ref a3]) ln=some (.lst [.ref a1,.ref a2,.ref a3]):=Ze;generalize upd H5 ln (.lst [.ref a1,.ref a2,.ref a3])=H6 at B6 S56 eln ⊢;have S06:=S05.trans S56;have N1:=N1.same S56;have N2:=N2.same S56;have N3:=N3.same S56;have hpl6:=hpl5.same S56;clear S56 S05 hpl5 B5 hln;obtain⟨na1,ea1,c1,c1',nd1,nm1⟩:=id N1;obtain⟨h1,u1,rfl⟩:∃h u,t1=h::u:=by
    cases t1 with
   |nil=>simp at c1
   |cons h u=>exact⟨h,u,rfl⟩
   refine⟨_,rfl,ln,_,0,_,rfl,rfl,SqL.of eln,Zn (j:=0) rfl,_,rfl,a1,_,rfl,SqL.of ea1,λx1 hx1=>?_⟩;rw[cut1 _ (by rw[List.length_map];exact c1)];have nx1:=B6.ne hx1;refine⟨x1,rfl,⟨_,SqL.of Ze⟩,?_⟩;have ex1:upd H6 x1 (.lst ((h1::u1).map V.str |>.drop 1)) x1=some (.lst (u1.map V.str)):=Ze
   have Bx1:=B6.new (o:=.lst ((h1::u1).map V.str |>.drop 1)) hx1
   have Sx1:Zh b H6 (upd H6 x1 (.lst ((h1::u1).map V.str |>.drop 1))):=(Zh.refl b H6).new' hx1
   generalize upd H6 x1 (.lst ((h1::u1).map V.str |>.drop 1))=X1 at ex1 Bx1 Sx1 ⊢
   have len1:u1.length<=12:=by simp at c1';omega
   refine Yd (J:=Itl K x1) u1.length (Nat.le_trans len1 (by decide)) (λi ys τ H'=>Zz H' b/\Zh b X1 H'/\Made b H' JC (λt(r:Rd)=>r.nm=t/\GoodRd (1+tu) ps r) u1 i ys/\∃v,τ=[v,some (.ref b),some (.ref l1),some (.int (1+tu))]) ⟨Bx1,Zh.refl b _,Made.nil,none,rfl⟩ (λi ys τ H' p=>p.2.2.1.len) (λi ys τ H' hi p=>Qo (p.2.1 _ _ ex1 nx1) hi) (λys τ H' p=>GH (p.2.1 _ _ ex1 nx1)) (λi ys τ H' x' H3 hi p yl=>?_) (λys τ H70 p lr hlr=>?_)
   ·obtain⟨bx,sm,md,v,rfl⟩:=p;obtain⟨rfl,rfl⟩:=GI (sm _ _ ex1 nx1) hi yl;exact⟨_,rfl,_,rfl,_,rfl,_,rfl,b,l1,_,(1+tu),ps,rfl,bx,hpl6.same (Sx1.trans sm),gp,hn1,hn2,λH4 q r B4 S4 hq nq e g=>⟨B4,sm.trans S4,md.step S4 nq hq (List.getElem?_eq_getElem hi) ⟨e,g⟩,_,rfl⟩⟩
   obtain⟨bx1,sm1,md1,v,rfl⟩:=p;obtain⟨rs,R1,lr1,g1⟩:=md1.done bx1 hlr;have B7:=bx1.new (o:=.lst ys) hlr;have S1_:Zh b H6 (upd H70 lr (.lst ys)):=(Sx1.trans sm1).new' hlr;generalize upd H70 lr (.lst ys)=H7 at B7 S1_ R1 ⊢;have S07:=S06.trans S1_;have hpl7:=hpl6.same S1_;have eln:=S1_ _ _ eln nln;have N2:=N2.same S1_;have N3:=N3.same S1_;clear Sx1 sm1 ex1 bx1 Bx1 ea1;obtain⟨na2,ea2,c2,c2',nd2,nm2⟩:=id N2;obtain⟨h2,u2,rfl⟩:∃h u,t2=h::u:=by
    cases t2 with
   |nil=>simp at c2
   |cons h u=>exact⟨h,u,rfl⟩
   refine⟨_,rfl,ln,_,1,_,rfl,rfl,SqL.of eln,Zn (j:=1) rfl,_,rfl,a2,_,rfl,SqL.of ea2,λx2 hx2=>?_⟩;rw[cut1 _ (by rw[List.length_map];exact c2)];have nx2:=B7.ne hx2;refine⟨x2,rfl,⟨_,SqL.of Ze⟩,?_⟩;have ex2:upd H7 x2 (.lst ((h2::u2).map V.str |>.drop 1)) x2=some (.lst (u2.map V.str)):=Ze
   have Bx2:=B7.new (o:=.lst ((h2::u2).map V.str |>.drop 1)) hx2
   have Sx2:Zh b H7 (upd H7 x2 (.lst ((h2::u2).map V.str |>.drop 1))):=(Zh.refl b H7).new' hx2
   generalize upd H7 x2 (.lst ((h2::u2).map V.str |>.drop 1))=X2 at ex2 Bx2 Sx2 ⊢
   have len2:u2.length<=12:=by simp at c2';omega
   refine Yd (J:=Itl K x2) u2.length (Nat.le_trans len2 (by decide)) (λi ys τ H'=>Zz H' b/\Zh b X2 H'/\Made b H' Vo (λt(r:Wy)=>r.nm=t/\GoodWy ps r) u2 i ys/\∃v,τ=[v,some (.ref b),some (.ref l1)]) ⟨Bx2,Zh.refl b _,Made.nil,none,rfl⟩ (λi ys τ H' p=>p.2.2.1.len) (λi ys τ H' hi p=>Qo (p.2.1 _ _ ex2 nx2) hi) (λys τ H' p=>GH (p.2.1 _ _ ex2 nx2)) (λi ys τ H' x' H3 hi p yl=>?_) (λys τ H80 p lw hlw=>?_)
   ·obtain⟨bx,sm,md,v,rfl⟩:=p;obtain⟨rfl,rfl⟩:=GI (sm _ _ ex2 nx2) hi yl;exact⟨_,rfl,_,rfl,_,rfl,b,l1,_,ps,rfl,bx,hpl7.same (Sx2.trans sm),gp,λH4 q r B4 S4 hq nq e g=>⟨B4,sm.trans S4,md.step S4 nq hq (List.getElem?_eq_getElem hi) ⟨e,g⟩,_,rfl⟩⟩
   obtain⟨bx2,sm2,md2,v,rfl⟩:=p;obtain⟨ws,R2,lr2,g2⟩:=md2.done bx2 hlw;have B8:=bx2.new (o:=.lst ys) hlw;have S2_:Zh b H7 (upd H80 lw (.lst ys)):=(Sx2.trans sm2).new' hlw;generalize upd H80 lw (.lst ys)=H8 at B8 S2_ R2 ⊢;have S08:=S07.trans S2_;have hpl8:=hpl7.same S2_;have eln:=S2_ _ _ eln nln;have N3:=N3.same S2_;have R1:=R1.same S2_;clear Sx2 sm2 ex2 bx2 Bx2 ea2;obtain⟨na3,ea3,c3,c3',nd3,nm3⟩:=id N3;obtain⟨h3,u3,rfl⟩:∃h u,t3=h::u:=by
    cases t3 with
   |nil=>simp at c3
   |cons h u=>exact⟨h,u,rfl⟩
   refine⟨_,rfl,ln,_,2,_,rfl,rfl,SqL.of eln,Zn (j:=2) rfl,_,rfl,a3,_,rfl,SqL.of ea3,λx3 hx3=>?_⟩;rw[cut1 _ (by rw[List.length_map];exact c3)];have nx3:=B8.ne hx3;refine⟨x3,rfl,⟨_,SqL.of Ze⟩,?_⟩;have ex3:upd H8 x3 (.lst ((h3::u3).map V.str |>.drop 1)) x3=some (.lst (u3.map V.str)):=Ze
   have Bx3:=B8.new (o:=.lst ((h3::u3).map V.str |>.drop 1)) hx3
   have Sx3:Zh b H8 (upd H8 x3 (.lst ((h3::u3).map V.str |>.drop 1))):=(Zh.refl b H8).new' hx3
   generalize upd H8 x3 (.lst ((h3::u3).map V.str |>.drop 1))=X3 at ex3 Bx3 Sx3 ⊢
   have len3:u3.length<=12:=by simp at c3';omega
   refine Yd (J:=Itl K x3) u3.length (Nat.le_trans len3 (by decide)) (λi ys τ H'=>Zz H' b/\Zh b X3 H'/\Made b H' grRow (λt(r:Gr)=>GoodGr (1+tu) ps t r) u3 i ys/\∃v,τ=[v,some (.ref b),some (.ref l1),some (.int (1+tu))]) ⟨Bx3,Zh.refl b _,Made.nil,none,rfl⟩ (λi ys τ H' p=>p.2.2.1.len) (λi ys τ H' hi p=>Qo (p.2.1 _ _ ex3 nx3) hi) (λys τ H' p=>GH (p.2.1 _ _ ex3 nx3)) (λi ys τ H' x' H3 hi p yl=>?_) (λys τ H90 p lg hlg=>?_)
   ·obtain⟨bx,sm,md,v,rfl⟩:=p;obtain⟨rfl,rfl⟩:=GI (sm _ _ ex3 nx3) hi yl;exact⟨_,rfl,_,rfl,_,rfl,_,rfl,b,l1,_,(1+tu),ps,rfl,bx,Nat.le_trans (by have:=(nm3 u3[i] (List.mem_cons_of_mem _ (List.getElem_mem hi))).2.1;rw[ZK]at this;exact this) (by decide),hpl8.same (Sx3.trans sm),gp,hn1,hn2,λH4 q r B4 S4 hq nq g=>⟨B4,sm.trans S4,md.step S4 nq hq (List.getElem?_eq_getElem hi) g,_,rfl⟩⟩
   obtain⟨bx3,sm3,md3,v,rfl⟩:=p;obtain⟨gs,R3,lr3,g3⟩:=md3.done bx3 hlg;have B9:=bx3.new (o:=.lst ys) hlg;have S3_:Zh b H8 (upd H90 lg (.lst ys)):=(Sx3.trans sm3).new' hlg;generalize upd H90 lg (.lst ys)=H9 at B9 S3_ R3 ⊢;have S09:=S08.trans S3_;have hpl9:=hpl8.same S3_;have eln:=S3_ _ _ eln nln;have R1:=R1.same S3_;have R2:=R2.same S3_;have N1:=N1.same ((S1_.trans S2_).trans S3_);have N2:=N2.same (S2_.trans S3_);have N3:=N3.same S3_;clear Sx3 sm3 ex3 bx3 Bx3 ea3;refine⟨_,rfl,_,rfl,_,rfl,_,rfl,_,rfl,by show 5<=sizeLine;decide,λpw hpw=>?_⟩;have npw:=B9.ne hpw;have Bp:=B9.new (o:=.lst [.int (1+tu),.ref l1,.ref lr,.ref lw,.ref lg]) hpw;have Sp:Zh b H9 (upd H9 pw (.lst [.int (1+tu),.ref l1,.ref lr,.ref lw,.ref lg])):=(Zh.refl b H9).new' hpw;have ep:upd H9 pw (.lst [.int (1+tu),.ref l1,.ref lr,.ref lw,.ref lg]) pw=some (.lst [.int (1+tu),.ref l1,.ref lr,.ref lw,.ref lg]):=Ze;generalize upd H9 pw (.lst [.int (1+tu),.ref l1,.ref lr,.ref lw,.ref lg])=Hp at Bp Sp ep ⊢;have elnp:=Sp _ _ eln nln;have at0:∀(x:V)(l:List V),atI (x::l) 0=some x:=λx l=>Zn (xs:=x::l) (j:=0) rfl;refine⟨_,rfl,_,rfl,ln,_,0,_,rfl,rfl,SqL.of elnp,Zn (j:=0) rfl,a1,_,0,_,rfl,rfl,SqL.of (Sp _ _ N1.2.1 N1.1),at0 _ _,_,rfl,ln,_,1,_,rfl,rfl,SqL.of elnp,Zn (j:=1) rfl,a2,_,0,_,rfl,rfl,SqL.of (Sp _ _ N2.2.1 N2.1),at0 _ _,_,rfl,ln,_,2,_,rfl,rfl,SqL.of elnp,Zn (j:=2) rfl,a3,_,0,_,rfl,rfl,SqL.of (Sp _ _ N3.2.1 N3.1),at0 _ _,by show 4<=sizeLine;decide,λps4 hps4=>?_⟩;have nps4:=Bp.ne hps4;refine⟨by show 2<=sizeLine;decide,λqq hqq=>?_⟩;have Bs:=Bp.new (o:=.lst [.str s0,.str h1,.str h2,.str h3]) hps4;have Ss:Zh b Hp (upd Hp ps4 (.lst [.str s0,.str h1,.str h2,.str h3])):=(Zh.refl b Hp).new' hps4;have Sq:=(Sp.trans Ss).new' (o:=.lst [.ref pw,.ref ps4]) hqq;have st4:(upd (upd Hp ps4 (.lst [.str s0,.str h1,.str h2,.str h3])) qq (.lst [.ref pw,.ref ps4])) ps4=some (.lst [.str s0,.str h1,.str h2,.str h3]):=by rw[Zj (Zk Ze hqq)];exact Ze
   have fst:∀{R:Type}{f:R->Str}{rs:List R}{u:List Str},rs.length=u.length->(∀(j:Nat)r t,rs[j]?=some r->u[j]?=some t->f r=t)->rs.map f=u:=λ{R f rs u}hl hf=>by apply List.ext_getElem (by simp[hl]);intro i h1 h2;simp only[List.getElem_map];exact hf i _ _ (List.getElem?_eq_getElem (by simpa using h1)) (List.getElem?_eq_getElem h2)
   have f1:rs.map (·.nm)=u1:=fst lr1 λj r t a c=>(g1 j r t a c).1;have f2:ws.map (·.nm)=u2:=fst lr2 λj r t a c=>(g2 j r t a c).1;have all:∀{R:Type}{rs:List R}{u:List Str}{G:R->Prop},rs.length=u.length->(∀(j:Nat)r t,rs[j]?=some r->u[j]?=some t->G r)->∀r∈rs,G r:=λ{R rs u G}hl hf r hr=>by
    obtain⟨j,hj⟩:=List.mem_iff_getElem?.mp hr;have:j<u.length:=by rw[<-hl];exact(List.getElem?_eq_some_iff.mp hj).1
    exact hf j r _ hj (List.getElem?_eq_getElem this)
   refine k _ qq pw ps4 l1 lr lw lg ⟨(1+tu),ps,rs,ws,gs⟩ u3 s0 h1 h2 h3 (Bs.new hqq) (S09.trans Sq) (Bs.ne hqq) Ze nps4 st4 ⟨npw,?_,hpl9.same Sq,R1.same Sq,R2.same Sq,R3.same Sq⟩ ?_ ?_
   ·exact((Zh.refl b Hp).new' hps4).new' hqq _ _ ep npw
   ·exact⟨hn1,hn2,gp,all lr1 λj r t a c=>(g1 j r t a c).2,all lr2 λj r t a c=>(g2 j r t a c).2,lr3,λi c g h1 h2=>g3 i g c h2 h1⟩
   ·refine⟨⟨s0n,s0p⟩,?_,?_,Names.of c3' nd3 nm3⟩
    ·show Names (rs.map (·.nm)) h1;rw[f1];exact Names.of c1' nd1 nm1
    ·show Names (ws.map (·.nm)) h2;rw[f2];exact Names.of c2' nd2 nm2
end
theorem RP{t:Str}(h:Nm t):∃c r,codes t=c::r/\c∈LET:=by
 obtain⟨h1,h2,h3⟩:=h;cases e:codes t with
|nil=>rw[e]at h1;simp at h1
|cons c r=>exact⟨c,r,rfl,h3 c (by rw[e];exact List.mem_cons_self)⟩
theorem WM{t:Str}(h:Nm t):Z5 false (.str t)=true:=by
 obtain⟨c,r,e,hc⟩:=RP h;obtain⟨h1,h2,h3⟩:=h;show K1.X6 8 (K1.codes K1.tNAME) (codes t)=true;unfold K1.X6 K1.YC K1.lenB;rw[K1.EX];simp only[Bool.and_eq_true,decide_eq_true_eq,List.all_eq_true];refine⟨⟨⟨by omega,by omega⟩,λd hd=>?_⟩,?_⟩
 ·exact List.mem_append_left _ (List.mem_append_left _ (h3 d hd))
 ·rw[e];exact hc
theorem T7:∀s∈sufs,(codes s).length<=3/\(∀c∈codes s,c∈LET++K1.FIG++[46])/\((codes s).head?.map λc=>decide (c∈LET))≠some true:=by decide +kernel
theorem D7{t s:Str}(h:Nm t)(hs:s∈sufs):Z5 true (.str (t++s))=true:=by
 obtain⟨c,r,e,hc⟩:=RP h;obtain⟨h1,h2,h3⟩:=h;obtain⟨s1,s2,_⟩:=T7 s hs;show K1.X6 12 (K1.codes K1.tGROUP) (codes (t++s))=true;unfold K1.X6 K1.YC K1.lenB;rw[K1.Ed,YJ];simp only[Bool.and_eq_true,decide_eq_true_eq,List.all_eq_true,List.length_append];refine⟨⟨⟨by omega,by omega⟩,λd hd=>?_⟩,?_⟩
 ·rcases List.mem_append.mp hd with hd|hd
  ·exact List.mem_append_left _ (List.mem_append_left _ (h3 d hd))
  ·exact s2 d hd
 ·rw[e];exact hc
theorem Su{t s:Str}(h:Nm t)(hs:s∈sufs):(codes (t++s)).takeWhile (λc=>decide (c∈LET))=codes t:=by
 obtain⟨_,_,h3⟩:=h;obtain⟨_,_,s3⟩:=T7 s hs;rw[YJ,List.takeWhile_append_of_pos (λc hc=>decide_eq_true (h3 c hc))];cases e:codes s with
|nil=>simp
|cons c r=>
  rw[e]at s3;have:decide (c∈LET)=false:=by simpa using s3
  rw[List.takeWhile_cons_of_neg (by rw[this];exact Bool.false_ne_true),List.append_nil]
theorem YV{i lo hi:Int}(h1:lo<=i)(h2:i<=hi):K1.Zu (.int i) lo hi=true:=by show(decide (lo<=i)&&decide (i<=hi))=true;simp[h1,h2]
end WD
namespace L2
open PySem PySem.W PySem.Spec PyProof.Rows
section
variable {X:Cx}
def LD:R2:=λx y H Q=>∃(a b:Addr)(xs ys:List V),x=.ref a/\y=.ref b/\H a=some (.tup xs)/\H b=some (.tup ys)/\xs.length+ys.length<=sizeLine /\(xs=[]->Q (.ref b) H)/\(ys=[]->Q (.ref a) H)/\(∀p,H p=none->Q (.ref p) (upd H p (.tup (xs++ys))))
theorem YR:OpR X (binaryOp .Add) LD:=by
 intro pins s σ H x y v u Q I rx ry h;obtain⟨a,b,xs,ys,rfl,rfl,ha,hb,hz,q1,q2,q3⟩:=h;by_cases hx:xs=[]
 ·cases rx;cases ry;obtain⟨its,r1,p1,_⟩:=I.tuple (SqT.of ha);obtain⟨its2,r2,p2,_⟩:=I.tuple (SqT.of hb);obtain⟨⟨cls,dd,data,sl⟩,ho,hc,n,hd⟩:=id p1;obtain⟨⟨cls2,dd2,data2,sl2⟩,ho2,hc2,n2,hd2⟩:=id p2;simp only at hc hd hc2 hd2;subst hc hd hc2 hd2;have h0:its=[]:=r1.nil_iff.mpr hx;exact concat_meets ⟨_,ho,rfl⟩ ⟨_,ho2,rfl⟩ noFill_tuple_add seq_tuple_add PySem.F.slot_tuple_add PySem.F.entry_tuple_add (PySem.F.args_tuple_add_2 _ _) (tuple_addW0 a b its.toArray its2.toArray n n2 dd dd2 sl sl2 (by simp[h0])) ⟨ho,ho2,⟨.ref b,H,I,rfl,q1 hx⟩⟩
 ·exact K0 pins s σ H _ _ v u Q I rx ry ⟨a,b,xs,ys,rfl,rfl,SqT.of ha,SqT.of hb,hx,hz,q2,λ_=>q3⟩
def rNil(neg:Bool)(K:PySem.W.Frag):R2:=λx y H Q=>∃a b xs,x=.ref a/\y=.ref b/\SqL K H a xs/\H b=some (.lst [])/\Q (.bl (if neg then !decide (xs=[])else decide (xs=[]))) H
end
end L2
namespace L2
open PySem PySem.Spec PyProof.Rows
section
variable {X:Cx}
def rEqD:R2:=λx y H Q=>∃d e,Is H x d/\Is H y e/\SeqAt.shaped d=true/\SeqAt.shaped e=true/\Q (.bl (PyData.eqv d e)) H
theorem NK(hu:X.A.units+64<cLine):OpR X (compareOp .Eq) rEqD:=by intro pins s σ H x y v u Q I rx ry h;obtain⟨d,e,h1,h2,s1,s2,q⟩:=h;obtain⟨as,r1⟩:=h1.reads I.hok rx;obtain⟨bs,r2⟩:=h2.reads I.hok ry;exact SeqAt.compareEq_shaped r1 r2 s1 s2 hu ⟨.bl _,H,I,rfl,q⟩
def rNeD:R2:=λx y H Q=>∃d e,Is H x d/\Is H y e/\SeqAt.shaped d=true/\SeqAt.shaped e=true/\Q (.bl (!PyData.eqv d e)) H
theorem Dw(hu:X.A.units+64<cLine):OpR X (compareOp .NotEq) rNeD:=by intro pins s σ H x y v u Q I rx ry h;obtain⟨d,e,h1,h2,s1,s2,q⟩:=h;obtain⟨as,r1⟩:=h1.reads I.hok rx;obtain⟨bs,r2⟩:=h2.reads I.hok ry;exact SeqAt.compareNe_shaped r1 r2 s1 s2 hu ⟨.bl _,H,I,rfl,q⟩
noncomputable def Dm:List V->Hp->VK->Prop:=λxs H Q=>∃x d,xs=[x]/\Is H x d/\d.showable=true/\d.depth<=64/\d.shown.length<=sizeLine/\Q (.str d.shown) H
theorem Mt{k:Nat}(hr:Room k X.A):YK X (.builtin "repr") Dm:=by
 intro pins s σ H xs us Q I r h;obtain⟨x,d,rfl,hd,hs,hdp,hz,q⟩:=h;have q0:=q;cases hd with
|non=>obtain⟨u,rfl,rx⟩:=vals1 r;cases rx;refine PySem.P.repr_of_none ⟨.str (PyData.none).shown,H,I.tok _,⟨s.toks,?_⟩,q⟩;simp only[PyData.shown]
|bl b=>obtain⟨u,rfl,rx⟩:=vals1 r;cases rx;refine PySem.P.repr_of_bool ⟨.str (PyData.bool b).shown,H,I.tok _,⟨s.toks,?_⟩,q⟩;simp only[PyData.shown]
|int i=>obtain⟨u,rfl,t,rfl⟩:=vals1 r;refine PySem.P.repr_of_int (by simpa[PyData.showable]using hs) ⟨.str (PyData.int i).shown,H,I.tok _,⟨s.toks,?_⟩,q⟩;simp only[PyData.shown]
|str z=>obtain⟨u,rfl,t,rfl⟩:=vals1 r;refine PySem.P.repr_of_str ⟨.str (PyData.str z).shown,H,I.tok _,⟨s.toks,?_⟩,q⟩ (by simpa only[PyData.shown]using hz);simp only[PyData.shown]
|lst e ra=>exact Ms hr pins s σ H _ us Q I r ⟨_,_,rfl,.lst e ra,hs,hdp,hz,q⟩
|tup e ra=>exact Ms hr pins s σ H _ us Q I r ⟨_,_,rfl,.tup e ra,hs,hdp,hz,q⟩
end
end L2
namespace WD
open PySem L2 PySem.Spec PyProof.Rows TB
noncomputable def szJ:Nat->Nat
|1=>2|2=>6|3=>5|_=>4
noncomputable def LG:Nat->Nat
|1=>14|2=>80|3=>40|_=>300
noncomputable def gJ(j:Nat):Bool:=decide (j=4)
noncomputable abbrev Kv:=List (Key×V)
noncomputable def whyJ(j:Nat)(k1:Kv)(n pp:Int)(ys:List V):V:=match j with
|1=>Z8 (at_ ys 1)
|2=>JB k1 n ys
|3=>wayW k1 ys
|_=>Jn k1 n pp ys
noncomputable def dueJ(j:Nat)(k1:Kv)(n pp:Int)(kvs:Kv)(r:Option (List V)):V:=if begR (gJ j) (szJ j) kvs r≠.non then begR (gJ j) (szJ j) kvs r else match r with
 |some ys=>whyJ j k1 n pp ys
 |none=>.str "form"
noncomputable def Jt(j:Nat)(k1:Kv)(n:Int):Nat->Int->Kv->List (V×Option (List V))->Sum (Nat×V) Kv
|_,_,kvs,[]=>.inr kvs
|i,pp,kvs,(x,r)::rs=>if dueJ j k1 n pp kvs r≠.non then .inl (i,dueJ j k1 n pp kvs r)else match r with
 |some ys=>Jt j k1 n (i+1) (pp+Ym ys) (putK kvs (.inr (nameOf ys)) (if j=1 then at_ ys 1 else x)) rs
 |none=>.inl (i,.str "form")
theorem JW{j:Nat}{k1:Kv}{n pp:Int}{kvs:Kv}{r:Option (List V)}(h:begR (gJ j) (szJ j) kvs r≠.non):dueJ j k1 n pp kvs r=begR (gJ j) (szJ j) kvs r:=by unfold dueJ;rw[if_pos h]
theorem Y4{j:Nat}{k1:Kv}{n pp:Int}{kvs:Kv}{ys:List V}(h:begR (gJ j) (szJ j) kvs (some ys)=.non):dueJ j k1 n pp kvs (some ys)=whyJ j k1 n pp ys:=by unfold dueJ;rw[if_neg (λz=>z h)]
theorem JU{j:Nat}{k1:Kv}{n:Int}{i:Nat}{pp:Int}{kvs:Kv}{x:V}{r:Option (List V)}{rs:List (V×Option (List V))}(h:dueJ j k1 n pp kvs r≠.non):Jt j k1 n i pp kvs ((x,r)::rs)=.inl (i,dueJ j k1 n pp kvs r):=by unfold Jt;rw[if_pos h]
theorem VP{j:Nat}{k1:Kv}{n:Int}{i:Nat}{pp:Int}{kvs:Kv}{x:V}{ys:List V}{rs:List (V×Option (List V))}(h:dueJ j k1 n pp kvs (some ys)=.non):Jt j k1 n i pp kvs ((x,some ys)::rs)=Jt j k1 n (i+1) (pp+Ym ys) (putK kvs (.inr (nameOf ys)) (if j=1 then at_ ys 1 else x)) rs:=by
 conv=>lhs;unfold Jt
 rw[if_neg (λz=>z h)]
theorem Md{g:Bool}{m:Nat}{why:List V->V}{j:Nat}{k1:Kv}{n:Int}(hg:gJ j=g)(hm:szJ j=m)(hj:j≠1)(hw:∀pp ys,whyJ j k1 n pp ys=why ys):∀(rs:List (V×Option (List V)))(i:Nat)(pp:Int)(kvs:Kv),Yk g m why i kvs rs=Jt j k1 n i pp kvs rs
|[],_,_,_=>rfl
|(x,r)::rs,i,pp,kvs=>by
  subst hg hm;by_cases b:begR (gJ j) (szJ j) kvs r=.non
  ·cases r with
  |none=>cases b
  |some ys=>
    rw[UH b];by_cases h:why ys=.non
    ·rw[if_neg (λz=>z h),VP (by rw[Y4 b,hw];exact h),if_neg hj];exact Md rfl rfl hj hw rs _ _ _
    ·rw[if_pos h,JU (by rw[Y4 b,hw];exact h),Y4 b,hw]
  ·rw[GX b,JU (by rw[JW b];exact b),JW b]
theorem Mf{k1:Kv}{n:Int}:∀(rs:List (V×Option (List V)))(i:Nat)(pp:Int)(kvs:Kv),Yc k1 n i pp kvs rs=Jt 4 k1 n i pp kvs rs
|[],_,_,_=>rfl
|(x,r)::rs,i,pp,kvs=>by
  by_cases b:begR true 4 kvs r=.non
  ·cases r with
  |none=>cases b
  |some ys=>
    have b':begR (gJ 4) (szJ 4) kvs (some ys)=.non:=b;rw[Gd b];by_cases h:Jn k1 n pp ys=.non
    ·rw[if_neg (λz=>z h),VP (by rw[Y4 b'];exact h),if_neg (by decide)];exact Mf rs _ _ _
    ·rw[if_pos h,JU (by rw[Y4 b'];exact h),Y4 b'];rfl
  ·have b':begR (gJ 4) (szJ 4) kvs r≠.non:=b;rw[JU (by rw[JW b'];exact b),JW b'];unfold Yc;rw[if_pos b];rfl
theorem Me{k1:Kv}{n:Int}:∀(xs:List V)(rs:List (Option (List V)))(i:Nat)(pp:Int)(kvs:Kv),xs.length=rs.length->Z9 i kvs rs=Jt 1 k1 n i pp kvs (xs.zip rs)
|[],[],_,_,_,_=>rfl
|[],_::_,_,_,_,h=>by cases h
|_::_,[],_,_,_,h=>by cases h
|x::xs,r::rs,i,pp,kvs,hl=>by
  rw[List.zip_cons_cons];by_cases b:begR false 2 kvs r=.non
  ·obtain⟨ys,y,rfl,h2,h0⟩:=JJ b;have b':begR (gJ 1) (szJ 1) kvs (some ys)=.non:=b;obtain⟨x0,room,rfl⟩:=len2 h2;have hx0:x0=.str y:=h0;subst hx0;conv=>lhs;unfold Z9
   rw[if_neg (λz=>z b)];dsimp only;by_cases h:Z8 room=.non
   ·rw[if_neg (λz=>z h),VP (by rw[Y4 b'];exact h),if_pos rfl];exact Me xs rs _ _ _ (by simpa using hl)
   ·rw[if_pos h,JU (by rw[Y4 b'];exact h),Y4 b'];rfl
  ·have b':begR (gJ 1) (szJ 1) kvs r≠.non:=b;rw[GY b,JU (by rw[JW b'];exact b),JW b'];rfl
noncomputable def goJ(j:Nat)(k1:Kv)(n:Int):List V->List (Option (List V))->Sum (Nat×V) Kv:=match j with
|1=>goP
|2=>goR k1 n
|3=>goW k1
|_=>goG k1 n
theorem D6{j:Nat}(hj:j=1\/j=2\/j=3\/j=4){k1:Kv}{n:Int}{xs:List V}{rs:List (Option (List V))}(h:xs.length=rs.length):goJ j k1 n xs rs=Jt j k1 n 0 0 [] (xs.zip rs):=by
 rcases hj with rfl|rfl|rfl|rfl
 ·exact Me xs rs _ _ _ h
 ·exact Md (j:=2) (k1:=k1) (n:=n) rfl rfl (by decide) (λ_ _=>rfl) _ _ _ _
 ·exact Md (j:=3) (k1:=k1) (n:=n) rfl rfl (by decide) (λ_ _=>rfl) _ _ _ _
 ·exact Mf _ _ _ _
def Mw(k1:Kv)(t1:List (List V)):Prop:=∀p∈t1,valV k1 (.inr (nameOf p))=some (at_ p 1)
structure PlDict(k1:Kv)(t1:List (List V)):Prop where
 has:Mw k1 t1
 no:∀z,z∉t1.map nameOf->valV k1 (.inr z)=none
def Flat(y:V):Prop:=y=.non\/(∃i,y=.int i)\/∃z,y=.str z/\z.length<=1000
structure RowOk(j:Nat)(n:Int)(t1:List (List V))(ys:List V):Prop where
 len:ys.length=szJ j
 nm:Z5 (gJ j) (at_ ys 0)=true
 why:∀k1,(j≠1->Mw k1 t1)->∀pp,(j=4->pp+Ym ys<=300)->whyJ j k1 n pp ys=.non
 ma:j=4->0<=Ym ys
 flat:∀y∈ys,Flat y
structure RowsOk(j:Nat)(n:Int)(t1 t:List (List V)):Prop where
 nd:(t.map nameOf).Nodup
 row:∀ys∈t,RowOk j n t1 ys
 sum:j=4->(t.map Ym).sum<=300
theorem DB{g:Bool}{v:V}(h:Z5 g v=true):∃z,v=.str z:=by unfold Z5 at h;split at h<;>(unfold K1.VM at h;cases v<;>first|exact⟨_,rfl⟩|(exfalso;simp at h))
theorem RowOk.name{j:Nat}{n:Int}{t1:List (List V)}{ys:List V}(h:RowOk j n t1 ys):ys.getD 0 .non=.str (nameOf ys):=by obtain⟨z,e⟩:=DB h.nm;have e':ys.getD 0 .non=.str z:=e;unfold nameOf;rw[e']
theorem T6:∀{l:List Int},(∀x∈l,0<=x)->0<=l.sum
|[],_=>by simp
|x::l,h=>by rw[List.sum_cons];have:=h x List.mem_cons_self;have:=T6 (l:=l) λy hy=>h y (List.mem_cons_of_mem _ hy);omega
theorem RU{j:Nat}{k1:Kv}{n:Int}{t1:List (List V)}(hk:j≠1->Mw k1 t1){rest:List (V×Option (List V))}:∀(t:List (List V))(xs:List V)(i:Nat)(pp:Int)(kvs:Kv),xs.length=t.length->(t.map nameOf).Nodup->(∀ys∈t,RowOk j n t1 ys)->(j=4->pp+(t.map Ym).sum<=300)->(∀ys∈t,valV kvs (.inr (nameOf ys))=none) ->∃kvs',Jt j k1 n i pp kvs (xs.zip (t.map some)++rest)=Jt j k1 n (i+t.length) (pp+(t.map Ym).sum) kvs' rest/\(∀z,z∉t.map nameOf->valV kvs' (.inr z)=valV kvs (.inr z))/\(j=1->Mw kvs' t)/\(∀ys∈t,valV kvs' (.inr (nameOf ys))≠none)/\(j≠1->∀(m:Nat)y x,t[m]?=some y->xs[m]?=some x->valV kvs' (.inr (nameOf y))=some x)
|[],[],i,pp,kvs,_,_,_,_,_=>⟨kvs,by simp,λ_ _=>rfl,λ_ p hp=>(by cases hp),λp hp=>(by cases hp),λ_ m y x h=>by simp at h⟩
|[],_::_,_,_,_,h,_,_,_,_=>by cases h
|_::_,[],_,_,_,h,_,_,_,_=>by cases h
|y::t,x::xs,i,pp,kvs,hl,nd,hr,hs,hn=>by
  have ry:=hr y List.mem_cons_self;have ny:=hn y List.mem_cons_self;have b:begR (gJ j) (szJ j) kvs (some y)=.non:=by show begV _ _ _ _=_;unfold begV;rw[if_neg (λz=>z ry.len),show Z5 (gJ j) (y.getD 0 .non)=true from ry.nm,if_neg (by decide),ry.name];rw[show ZN (.str (nameOf y)) kvs=false from by show(valV kvs _).isSome=false;rw[ny];rfl,if_neg (by decide)]
  rw[List.map_cons,List.nodup_cons]at nd;have ht:∀ys∈t,RowOk j n t1 ys:=λq hq=>hr q (List.mem_cons_of_mem _ hq);have hs':j=4->pp+Ym y+(t.map Ym).sum<=300:=λe=>by have:=hs e;rw[List.map_cons,List.sum_cons]at this;omega
  have hy:j=4->pp+Ym y<=300:=λe=>by
   have:=hs' e;have:=T6 (l:=t.map Ym) λx hx=>by obtain⟨q,hq,rfl⟩:=List.mem_map.mp hx;exact(ht q hq).ma e
   omega
  have hw:whyJ j k1 n pp y=.non:=ry.why k1 hk pp hy;have yn:∀q∈t,nameOf q≠nameOf y:=λq hq e=>nd.1 (e▸List.mem_map.mpr ⟨q,hq,rfl⟩);obtain⟨kvs',e1,e2,e3,e4,e5⟩:=RU hk (rest:=rest) t xs (i+1) (pp+Ym y) (putK kvs (.inr (nameOf y)) (if j=1 then at_ y 1 else x)) (by simpa using hl) nd.2 ht hs' (λq hq=>by rw[Jx,if_neg (λe=>yn q hq (by injection e))];exact hn q (List.mem_cons_of_mem _ hq));have eY:valV kvs' (.inr (nameOf y))=some (if j=1 then at_ y 1 else x):=by rw[e2 _ nd.1,Jx,if_pos rfl]
  refine⟨kvs',?_,λz hz=>?_,λe p hp=>?_,λp hp=>?_,λnj m y' x' h1 h2=>?_⟩
  ·rw[List.map_cons,List.zip_cons_cons,List.cons_append,VP (by rw[Y4 b];exact hw),e1,List.map_cons,List.sum_cons,List.length_cons];congr 1<;>omega
  ·rw[List.map_cons,List.mem_cons,not_or]at hz;rw[e2 z hz.2,Jx,if_neg (λe=>hz.1 (by injection e))]
  ·rcases List.mem_cons.mp hp with rfl|hp
   ·rw[eY,if_pos e]
   ·exact e3 e p hp
  ·rcases List.mem_cons.mp hp with rfl|hp
   ·rw[eY];exact λz=>by cases z
   ·exact e4 p hp
  ·cases m with
  |zero=>simp at h1 h2;subst h1 h2;rw[eY,if_neg nj]
  |succ m=>exact e5 nj m y' x' (by simpa using h1) (by simpa using h2)
def Rh(j:Nat)(n:Int)(t1 t:List (List V)):Prop:=t.length<=LG j/\RowsOk j n t1 t
section
variable {j:Nat}{k1:Kv}{n:Int}{t1:List (List V)}
theorem X0(hj:j=1\/j=2\/j=3\/j=4)(hk:j≠1->Mw k1 t1){t:List (List V)}(h:Rh j n t1 t){xs:List V}(hx:xs.length=t.length):∃kvs,YD (LG j) (goJ j k1 n) (some (xs,t.map some))=.inr kvs/\(j=1->PlDict kvs t)/\(∀z,z∉t.map nameOf->valV kvs (.inr z)=none)/\(j≠1->∀(m:Nat)y x,t[m]?=some y->xs[m]?=some x->valV kvs (.inr (nameOf y))=some x):=by obtain⟨hl,nd,row,sum⟩:=h;obtain⟨kvs,e,e2,e3,_,e5⟩:=RU (k1:=k1) (n:=n) hk (rest:=[]) t xs 0 0 [] hx nd row (λe=>by have:=sum e;omega) (λ_ _=>rfl);refine⟨kvs,?_,λe=>⟨e3 e,λz hz=>e2 z hz⟩,λz hz=>e2 z hz,e5⟩;unfold YD;simp only;rw[if_neg (by omega),D6 hj (by rw[hx,List.length_map])];rw[List.append_nil]at e;rw[e];rfl
end
structure Tb where
 n:Int
 t1:List (List V)
 t2:List (List V)
 t3:List (List V)
 t4:List (List V)
noncomputable def Tb.part(T:Tb):Nat->List (List V)
|1=>T.t1|2=>T.t2|3=>T.t3|_=>T.t4
structure OkTb(T:Tb):Prop where
 n0:1<=T.n
 n1:T.n<=50
 part:∀j,j=1\/j=2\/j=3\/j=4->Rh j T.n T.t1 (T.part j)
noncomputable def prs(xs:List V)(t:List (List V)):PR:=some (xs,t.map some)
structure RwDict(k:Kv)(t:List (List V))(xs:List V):Prop where
 at_:∀(m:Nat)y x,t[m]?=some y->xs[m]?=some x->valV k (.inr (nameOf y))=some x
 no:∀z,z∉t.map nameOf->valV k (.inr z)=none
structure TbDict(T:Tb)(x2 x3 x4:List V)(k:Ks):Prop where
 p:PlDict k.1 T.t1
 r:RwDict k.2.1 T.t2 x2
 w:RwDict k.2.2.1 T.t3 x3
 g:RwDict k.2.2.2 T.t4 x4
theorem TY{T:Tb}(o:OkTb T){x1 x2 x3 x4:List V}(l1:x1.length=T.t1.length)(l2:x2.length=T.t2.length)(l3:x3.length=T.t3.length)(l4:x4.length=T.t4.length):∃k,U5 (.int T.n) (prs x1 T.t1) (prs x2 T.t2) (prs x3 T.t3) (prs x4 T.t4)=.inr k/\TbDict T x2 x3 x4 k:=by obtain⟨k1,e1,d,_⟩:=X0 (j:=1) (k1:=[]) (n:=T.n) (t1:=T.t1) (.inl rfl) (λh=>absurd rfl h) (o.part 1 (.inl rfl)) l1;have hd:=d rfl;obtain⟨k2,e2,_,n2,d2⟩:=X0 (j:=2) (k1:=k1) (n:=T.n) (t1:=T.t1) (.inr (.inl rfl)) (λ_=>hd.has) (o.part 2 (.inr (.inl rfl))) l2;obtain⟨k3,e3,_,n3,d3⟩:=X0 (j:=3) (k1:=k1) (n:=T.n) (t1:=T.t1) (.inr (.inr (.inl rfl))) (λ_=>hd.has) (o.part 3 (.inr (.inr (.inl rfl)))) l3;obtain⟨k4,e4,_,n4,d4⟩:=X0 (j:=4) (k1:=k1) (n:=T.n) (t1:=T.t1) (.inr (.inr (.inr rfl))) (λ_=>hd.has) (o.part 4 (.inr (.inr (.inr rfl)))) l4;refine⟨(k1,k2,k3,k4),?_,hd,⟨d2 (by decide),n2⟩,⟨d3 (by decide),n3⟩,⟨d4 (by decide),n4⟩⟩;unfold U5;simp only[show(decide (1<=T.n)&&decide (T.n<=50))=true from by simp[o.n0,o.n1],if_true];rw[show YD 14 goP (prs x1 T.t1)=.inr k1 from e1];simp only[named];rw[show YD 80 (goR k1 T.n) (prs x2 T.t2)=.inr k2 from e2];simp only[named];rw[show YD 40 (goW k1) (prs x3 T.t3)=.inr k3 from e3];simp only[named];rw[show YD 300 (goG k1 T.n) (prs x4 T.t4)=.inr k4 from e4]
noncomputable def dF:V->PyData
|.int i=>.int i
|.str z=>.str z
|.bl c=>.bool c
|_=>.none
end WD
namespace L2
open PySem PySem.Spec PyProof.Rows
theorem PY{P:Program}{w:World}{H:Hp}{h:Heap}{a:Addr}(ok:HOk P w H h)(e:H a=some (.dK [])):Reads h (.ref a) (.dict []) [a]/\a≠sysModules:=by obtain⟨_,ns,vs,kv,o,es,ep,ho,ex,hd,hk,hp,_⟩:=LK ok e;refine⟨?_,λq=>by simp[q]at ns⟩;cases kv;generalize hl:es.toList=l at hp;cases hp;have:=Reads.dict (h:=h) (a:=a) (o:=o) (es:=es) (n:=ep) (kvs:=[]) (as:=[]) (bs:=[]) ho ex.1 hd (by rw[hl];exact .nil) (by rw[hl];exact .nil);exact this
inductive IsX(H:Hp):V->PyData->Prop
|of {x:V}{d:PyData} (h:Is H x d):IsX H x d
|dk {a:Addr} (e:H a=some (.dK [])):IsX H (.ref a) (.dict [])
noncomputable def Dl:List V->Hp->VK->Prop:=λxs H Q=>∃x d,xs=[x]/\IsX H x d/\d.showable=true/\d.depth<=64/\d.shown.length<=sizeLine/\Q (.str d.shown) H
theorem Y1{X:Cx}{k:Nat}(hr:Room k X.A):YK X (.builtin "repr") Dl:=by
 intro pins s σ H xs us Q I r h;obtain⟨x,d,rfl,hd,hs,hdp,hz,q⟩:=h;cases hd with
|of h=>exact Mt hr pins s σ H _ us Q I r ⟨x,d,rfl,h,hs,hdp,hz,q⟩
|@dk a e=>obtain⟨u,rfl,rx⟩:=vals1 r;cases rx;obtain⟨rd,ns⟩:=PY I.hok e;exact repr_of_reads' rd hs (λ_ hm=>by simp at hm;exact ns hm.symm) hr.gd (by have:=hr.un;omega) (λ_ _ e=>e) (λh' u tk hk=>⟨.str _,H,I.kept hk,⟨u,rfl⟩,q⟩) hz
end L2
namespace WD
open PySem L2 PySem.Spec PyProof.Rows TB
def GS(z:Str):Prop:=z.length<=12/\∀c∈z.cps.toList,c<0x110000
noncomputable instance (z:Str):Decidable (GS z):=by unfold GS;infer_instance
inductive Atm:V->Prop
|non:Atm .non
|int {i:Int} (h:i.natAbs<=1000):Atm (.int i)
|str {z:Str} (h:GS z):Atm (.str z)
theorem Atm.is{H:Hp}{v:V}(h:Atm v):Is H v (dF v):=by
 cases h with
|non=>exact .non
|int h=>exact .int _
|str h=>exact .str _
theorem JT{H:Hp}:∀{ys:List V},(∀y∈ys,Atm y)->IsAll H ys (ys.map dF)
|[],_=>.nil
|y::ys,h=>.cons (h y List.mem_cons_self).is (JT λz hz=>h z (List.mem_cons_of_mem _ hz))
def RowG(ys:List V):Prop:=ys.length<=6/\∀y∈ys,Atm y
noncomputable def rowD(ys:List V):PyData:=.tuple (ys.map dF)
noncomputable def tabD(n:Int)(t1 t2 t3 t4:List (List V)):PyData:=.tuple [.int n,.tuple (t1.map rowD),.tuple (t2.map rowD),.tuple (t3.map rowD),.tuple (t4.map rowD)]
structure Sm(d:PyData)(k m:Nat):Prop where
 sh:d.showable=true
 lv:d.leavesShort 13=true
 dp:d.depth<=k
 wt:d.weight<=m
theorem lgk{i:Nat}(h:i<=1000):i.log2<=11:=by
 by_cases e:i=0
 ·subst e;decide
 ·exact Nat.lt_succ_iff.mp ((Nat.log2_lt e).mpr (by omega))
theorem shown_int{i:Int}(h:i.natAbs<=1000):((PyData.int i).shown).length<=13:=by
 have key:∀n:Nat,n<=1000->((PyData.int n).shown).length<=13/\((PyData.int (-(n:Int))).shown).length<=13:=by intro n hn;have:=(by decide +kernel:∀k∈List.range 1001,((PyData.int (k:Nat)).shown).length<=13/\((PyData.int (-((k:Nat):Int))).shown).length<=13);exact this n (List.mem_range.mpr (by omega))
 rcases Int.natAbs_eq i with e|e
 ·rw[e];exact(key _ h).1
 ·rw[e];exact(key _ h).2
theorem Atm.sm{v:V}(h:Atm v):Sm (dF v) 0 12:=by
 cases h with
|non=>exact⟨rfl,rfl,Nat.le_refl _,Nat.zero_le _⟩
|int h=>
  have:=lgk h;refine⟨?_,?_,Nat.le_refl _,?_⟩
  ·simp only[dF,PyData.showable,decide_eq_true_eq];omega
  ·simp only[dF,PyData.leavesShort,decide_eq_true_eq];exact shown_int h
  ·simp only[dF,PyData.weight];split<;>omega
|str h=>refine⟨by simp only[dF,PyData.showable],?_,Nat.le_refl _,h.1⟩;simp only[dF,PyData.leavesShort,List.all_eq_true,decide_eq_true_eq];exact λc hc=>Nat.lt_of_lt_of_le (h.2 c hc) (by decide)
structure SmAll(ds:List PyData)(k m:Nat):Prop where
 sh:PyData.showableAll ds=true
 lv:PyData.leavesShortAll 13 ds=true
 dp:PyData.depthAll ds<=k
 wt:PyData.weightAll ds<=ds.length*(m+1)
theorem SmAll.of{k m:Nat}:∀{ds:List PyData},(∀d∈ds,Sm d k m)->SmAll ds k m
|[],_=>⟨rfl,rfl,Nat.zero_le _,Nat.zero_le _⟩
|d::ds,h=>by
  have h1:=h d List.mem_cons_self;have h2:=SmAll.of (ds:=ds) λx hx=>h x (List.mem_cons_of_mem _ hx);refine⟨?_,?_,?_,?_⟩
  ·simp only[PyData.showableAll,h1.sh,h2.sh,Bool.and_self]
  ·simp only[PyData.leavesShortAll,h1.lv,h2.lv,Bool.and_self]
  ·simp only[PyData.depthAll];have:=h1.dp;have:=h2.dp;omega
  ·simp only[PyData.weightAll,List.length_cons,Nat.succ_mul];have:=h1.wt;have:=h2.wt;omega
theorem SmAll.tup{ds:List PyData}{k m n:Nat}(h:SmAll ds k m)(hl:ds.length<=n):Sm (.tuple ds) (k+1) (n*(m+1)):=by
 refine⟨?_,?_,?_,?_⟩
 ·simp only[PyData.showable,h.sh]
 ·simp only[PyData.leavesShort,h.lv]
 ·simp only[PyData.depth];have:=h.dp;omega
 ·simp only[PyData.weight];exact Nat.le_trans h.wt (Nat.mul_le_mul_right _ hl)
theorem Sm.mono{d:PyData}{k m k' m':Nat}(h:Sm d k m)(hk:k<=k')(hm:m<=m'):Sm d k' m':=⟨h.sh,h.lv,Nat.le_trans h.dp hk,Nat.le_trans h.wt hm⟩
theorem Wn{ys:List V}(h:RowG ys):Sm (rowD ys) 1 78:=(SmAll.of (ds:=ys.map dF) (k:=0) (m:=12) λd hd=>by obtain⟨y,hy,rfl⟩:=List.mem_map.mp hd;exact(h.2 y hy).sm).tup (n:=6) (by rw[List.length_map];exact h.1)
theorem Gn{t:List (List V)}(hl:t.length<=300)(h:∀ys∈t,RowG ys):Sm (.tuple (t.map rowD)) 2 23700:=(SmAll.of (ds:=t.map rowD) (k:=1) (m:=78) λd hd=>by obtain⟨y,hy,rfl⟩:=List.mem_map.mp hd;exact Wn (h y hy)).tup (n:=300) (by rw[List.length_map];exact hl)
theorem Sm.shown{d:PyData}{k:Nat}(h:Sm d k 200000):d.shown.length<=sizeLine:=by
 have h2:=PyData.shown_le 13 (by decide) d h.lv;have:=h.wt;exact Nat.le_trans h2 (by
  have:(15:Nat)*200000+13<=sizeLine:=by decide
  omega)
structure TabG(n:Int)(t1 t2 t3 t4:List (List V)):Prop where
 n0:1<=n/\n<=50
 l1:t1.length<=14
 l2:t2.length<=80
 l3:t3.length<=40
 l4:t4.length<=300
 g1:∀ys∈t1,RowG ys
 g2:∀ys∈t2,RowG ys
 g3:∀ys∈t3,RowG ys
 g4:∀ys∈t4,RowG ys
theorem TabG.sm{n:Int}{t1 t2 t3 t4:List (List V)}(h:TabG n t1 t2 t3 t4):Sm (tabD n t1 t2 t3 t4) 3 200000:=by
 refine(SmAll.tup (ds:=[.int n,.tuple (t1.map rowD),.tuple (t2.map rowD),.tuple (t3.map rowD),.tuple (t4.map rowD)]) (n:=5) (SmAll.of (k:=2) (m:=23700) λd hd=>?_) (Nat.le_refl 5)).mono (by decide) (by decide);simp only[List.mem_cons,List.not_mem_nil,or_false]at hd;rcases hd with rfl|rfl|rfl|rfl|rfl
 ·exact(Atm.int (i:=n) (by have:=h.n0;omega)).sm.mono (by decide) (by decide)
 ·exact Gn (by have:=h.l1;omega) h.g1
 ·exact Gn (by have:=h.l2;omega) h.g2
 ·exact Gn (by have:=h.l3;omega) h.g3
 ·exact Gn h.l4 h.g4
theorem Vw{H:Hp}:∀{xs:List V}{t:List (List V)},Yq H xs (t.map some)->(∀ys∈t,RowG ys)->IsAll H xs (t.map rowD)
|[],[],_,_=>.nil
|[],_::_,h,_=>by cases h.1
|_::_,[],h,_=>by cases h.1
|x::xs,ys::t,h,g=>by obtain⟨p,rfl,hp,_⟩:=h.2 0 x (some ys) rfl rfl;exact .cons (.tup hp (JT (g ys List.mem_cons_self).2)) (Vw (xs:=xs) (t:=t) ⟨by simpa using h.1,λi x r h1 h2=>h.2 (i+1) x r (by simpa using h1) (by simpa using h2)⟩ λz hz=>g z (List.mem_cons_of_mem _ hz))
theorem TX{H:Hp}{q l1 l2 l3 l4:Addr}{n:Int}{x1 x2 x3 x4:List V}{t1 t2 t3 t4:List (List V)}(g:TabG n t1 t2 t3 t4)(h1:H l1=some (.tup x1))(h2:H l2=some (.tup x2))(h3:H l3=some (.tup x3))(h4:H l4=some (.tup x4))(r1:Yq H x1 (t1.map some))(r2:Yq H x2 (t2.map some))(r3:Yq H x3 (t3.map some))(r4:Yq H x4 (t4.map some))(hq:H q=some (.tup [.int n,.ref l1,.ref l2,.ref l3,.ref l4])):Is H (.ref q) (tabD n t1 t2 t3 t4):=.tup hq (.cons (.int n) (.cons (.tup h1 (Vw r1 g.g1)) (.cons (.tup h2 (Vw r2 g.g2)) (.cons (.tup h3 (Vw r3 g.g3)) (.cons (.tup h4 (Vw r4 g.g4)) .nil)))))
theorem Atm.lay{v:V}(h:Atm v):(dF v).canLay0=true:=by
 cases h with
|non=>rfl
|int h=>rfl
|str h=>show(Array.all _ _)=true;rw[Array.all_eq_true'];intro c hc;exact decide_eq_true (h.2 c (Array.mem_toList_iff.mpr hc))
structure Shw(d:PyData):Prop where
 sh:d.showable=true
 dp:d.depth<=64
 len:d.shown.length<=sizeLine
theorem Sm.shw{d:PyData}{k m:Nat}(h:Sm d k m)(hk:k<=64)(hm:m<=200000):Shw d:=⟨h.sh,Nat.le_trans h.dp hk,(h.mono (Nat.le_refl k) hm).shown⟩
end WD
namespace TB
open PySem L2 PySem.Spec PyProof.Rows WD
theorem YT.same{H H':Hp}(sm:Same H H'){v:V}{r:PR}(h:YT H v r):YT H' v r:=by
 cases r with
|none=>obtain⟨T,th,a⟩:=h;exact⟨T,th.same sm,a⟩
|some q=>
  obtain⟨xs,rs⟩:=q;obtain⟨⟨p,rfl,hp⟩,h1,h2⟩:=h;refine⟨⟨p,rfl,?_⟩,h1,λi y r e1 e2=>?_⟩
  ·rcases hp with hp|hp
   ·exact .inl (sm _ _ hp)
   ·exact .inr (sm _ _ hp)
  ·have:=h2 i y r e1 e2;cases r with
  |none=>obtain⟨T,th,a⟩:=this;exact⟨T,th.same sm,a⟩
  |some ys=>obtain⟨p,rfl,a,b⟩:=this;exact⟨p,rfl,sm _ _ a,λy hy=>let ⟨T,th⟩:=b y hy;⟨T,th.same sm⟩⟩
def Sk(C Cb:Addr)(vT:V)(r1 r2 r3 r4:PR)(H:Hp)(Q:VK)(E:XK):Prop:=match U5 vT r1 r2 r3 r4 with
|.inl (z,a,y)=>∀H1,Same H H1->Bad Cb z a y H1 E
|.inr k=>∀H' x fs n,Same H H'->H x=none->vT=.int n->TabOf H' C x fs n r1 r2 r3 r4 k->Q (.ref x) H'
theorem WN{C Cb:Addr}{H:Hp}{Q:VK}{E:XK}{vT v1 v2 v3 v4:V}{T:String}{r1 r2 r3 r4:PR}(thT:Th H vT T)(p1:YT H v1 r1)(p2:YT H v2 r2)(p3:YT H v3 r3)(p4:YT H v4 r4)(k:Sk C Cb vT r1 r2 r3 r4 H Q E):∀x dx,H x=none->H dx=none->dx≠x->Nk C Cb [.ref x,vT,v1,v2,v3,v4] (upd (upd H dx (.own x)) x (.ins C dx [])) (λv H'=>v=.non/\Q (.ref x) H') E:=λx dx hx hdx hne=>by
 have sm:Same H (upd (upd H dx (.own x)) x (.ins C dx [])):=λc u e=>by rw[Zj (λz=>by rw[z,hx]at e;cases e),Zj (λz=>by rw[z,hdx]at e;cases e)];exact e
 refine⟨x,dx,vT,T,v1,v2,v3,v4,r1,r2,r3,r4,rfl,Ze,thT.same sm,p1.same sm,p2.same sm,p3.same sm,p4.same sm,?_⟩;unfold Sk at k;generalize U5 vT r1 r2 r3 r4=res at k ⊢;cases res with
|inl q=>exact λH1 s1=>k H1 (U7 hx hdx s1)
|inr q=>exact λH' fs n s1 e t=>⟨rfl,k H' x fs n (U7 hx hdx s1) hx e t⟩
structure TabP(H:Hp)(C t:Addr)(fs:List (Str×V))(n:Int)(r1 r2 r3 r4:PR)(k:Ks):Prop where
 tab:TabOf H C t fs n r1 r2 r3 r4 k
 rows:∀r,r=r1\/r=r2\/r=r3\/r=r4->∀xs rs,r=some (xs,rs)->Yq H xs rs
theorem Row.same{H H':Hp}(s:Same H H'){v:V}{r:Option (List V)}(h:Row H v r):Row H' v r:=by
 cases r with
|none=>obtain⟨T,t,n⟩:=h;exact⟨T,t.same s,n⟩
|some ys=>obtain⟨p,e,a,t⟩:=h;exact⟨p,e,s _ _ a,λy hy=>let ⟨T,u⟩:=t y hy;⟨T,u.same s⟩⟩
theorem Yq.same{H H':Hp}(s:Same H H'){xs:List V}{rs:List (Option (List V))}(h:Yq H xs rs):Yq H' xs rs:=⟨h.1,λi x r e1 e2=>(h.2 i x r e1 e2).same s⟩
theorem Z0.same{H H':Hp}(s:Same H H'){fs:List (Str×V)}{f g:Str}{r:PR}{k:List (Key×V)}(h:Z0 H fs f g r k):Z0 H' fs f g r k:=by obtain⟨l,d,xs,rs,a1,a2,a3,a4,a5⟩:=h;exact⟨l,d,xs,rs,a1,a2,a3,s _ _ a4,s _ _ a5⟩
theorem TabP.same{H H':Hp}{C t:Addr}{fs:List (Str×V)}{n:Int}{r1 r2 r3 r4:PR}{k:Ks}(s:Same H H')(h:TabP H C t fs n r1 r2 r3 r4 k):TabP H' C t fs n r1 r2 r3 r4 k:=⟨⟨⟨let ⟨dx,e⟩:=h.tab.tab.at_;⟨dx,s _ _ e⟩,h.tab.tab.only⟩,h.tab.turns,h.tab.p.same s,h.tab.r.same s,h.tab.w.same s,h.tab.g.same s⟩,λr hr xs rs e=>(h.rows r hr xs rs e).same s⟩
end TB
namespace L2
open PySem PySem.Spec PyProof.Rows
theorem WG{P:Program}{w:World}{X:Cx}:Passes (CX1 P w) X E0:=λ_ _ _ _ _ _ _ h=>by obtain⟨x,c,dd,B,H',_,_,_,_,_,_,_,hE⟩:=h;exact hE.elim
end L2
namespace WD
open PySem L2 PySem.Spec PyProof.Rows TB
def isJ(j:Nat):Prop:=j=1\/j=2\/j=3\/j=4
theorem W5{H:Hp}{y:V}(h:Flat y):∃T,Th H y T:=by
 rcases h with rfl|⟨i,rfl⟩|⟨z,rfl,hz⟩
 ·exact⟨_,.non⟩
 ·exact⟨_,.int i⟩
 ·exact⟨_,.str z hz⟩
structure TbAt(b:Addr)(H:Hp)(p:Addr)(T:Tb)(l1 l2 l3 l4:Addr):Prop where
 ne:p≠b
 at_:H p=some (.lst [.int T.n,.ref l1,.ref l2,.ref l3,.ref l4])
 pl:RowsAt b H l1 T.t1
 rd:RowsAt b H l2 T.t2
 wy:RowsAt b H l3 T.t3
 gr:RowsAt b H l4 T.t4
theorem TbAt.same{b:Addr}{H H':Hp}{p:Addr}{T:Tb}{l1 l2 l3 l4:Addr}(s:Zh b H H')(h:TbAt b H p T l1 l2 l3 l4):TbAt b H' p T l1 l2 l3 l4:=⟨h.ne,s _ _ h.at_ h.ne,h.pl.same s,h.rd.same s,h.wy.same s,h.gr.same s⟩
theorem RowsAt.part{b:Addr}{H:Hp}{l:Addr}{rows:List (List V)}(h:RowsAt b H l rows)(hf:∀ys∈rows,∀y∈ys,Flat y):∃xs:List V,xs.length=rows.length/\H l=some (.lst xs)/\(∀x∈xs,∃a,x=.ref a/\a≠b)/\Yq H xs (rows.map some):=by
 obtain⟨n,as,e,hl,r⟩:=h;refine⟨as.map V.ref,by rw[List.length_map,hl],e,λx hx=>?_,by simp[hl],λi x r' e1 e2=>?_⟩
 ·obtain⟨a,ha,rfl⟩:=List.mem_map.mp hx;obtain⟨i,hi⟩:=List.mem_iff_getElem?.mp ha;have h1:i<rows.length:=by rw[<-hl];exact(List.getElem?_eq_some_iff.mp hi).1
  exact⟨a,rfl,(r i a _ hi (List.getElem?_eq_getElem h1)).1⟩
 ·rw[List.getElem?_map]at e1 e2;obtain⟨a,ha,rfl⟩:=Option.map_eq_some_iff.mp e1;obtain⟨q,hq,rfl⟩:=Option.map_eq_some_iff.mp e2;exact⟨a,rfl,(r i a q ha hq).2,λy hy=>W5 (hf q (List.mem_of_getElem? hq) y hy)⟩
theorem OkTb.flat{T:Tb}(o:OkTb T){j:Nat}(hj:isJ j):∀ys∈T.part j,∀y∈ys,Flat y:=λys h=>((o.part j hj).2.row ys h).flat
def Tel(H:Hp)(C t:Addr)(T:Tb):Prop:=∃fs x1 x2 x3 x4 k,TabP H C t fs T.n (prs x1 T.t1) (prs x2 T.t2) (prs x3 T.t3) (prs x4 T.t4) k/\TbDict T x2 x3 x4 k
theorem Tel.same{H H':Hp}{C t:Addr}{T:Tb}(s:Same H H')(h:Tel H C t T):Tel H' C t T:=by obtain⟨fs,x1,x2,x3,x4,k,tp,d⟩:=h;exact⟨fs,x1,x2,x3,x4,k,tp.same s,d⟩
theorem WQ{C Cb:Addr}{H:Hp}{Q:VK}{E:XK}{T:Tb}(o:OkTb T){x1 x2 x3 x4:List V}(r1:Yq H x1 (T.t1.map some))(r2:Yq H x2 (T.t2.map some))(r3:Yq H x3 (T.t3.map some))(r4:Yq H x4 (T.t4.map some))(k:∀H' x,Same H H'->H x=none->Tel H' C x T->Q (.ref x) H'):Sk C Cb (.int T.n) (prs x1 T.t1) (prs x2 T.t2) (prs x3 T.t3) (prs x4 T.t4) H Q E:=by
 obtain⟨kk,e,d⟩:=TY o (by rw[r1.1,List.length_map]) (by rw[r2.1,List.length_map]) (by rw[r3.1,List.length_map]) (by rw[r4.1,List.length_map]);unfold Sk;rw[e];refine λH' x fs n s hx en tb=>k H' x s hx ⟨fs,x1,x2,x3,x4,kk,⟨?_,λr hr xs rs er=>?_⟩,d⟩
 ·injection en with en;rw[en];exact tb
 ·rcases hr with rfl|rfl|rfl|rfl
  ·cases er;exact r1.same s
  ·cases er;exact r2.same s
  ·cases er;exact r3.same s
  ·cases er;exact r4.same s
theorem Wo{k1:Kv}{n:Int}{s l g a m:V}(h:U8 k1 n s l g a m=.non):YI k1 s g=.non/\∃i,l=.int i/\K1.Zu (.int i) 0 (n-1)=true/\K1.Zu a (i+1) n=true/\K1.Zu m 0 1000=true:=by
 unfold U8 at h;by_cases e:YI k1 s g=.non
 ·rw[if_neg (λz=>z e)]at h;refine⟨e,?_⟩;cases l with
 |int i=>dsimp only at h;refine⟨i,rfl,?_⟩;cases h1:K1.Zu (.int i) 0 (n-1)<;>cases h2:K1.Zu a (i+1) n<;>cases h3:K1.Zu m 0 1000<;>simp_all
 |_=>cases h
 ·rw[if_pos e]at h;exact absurd h e
theorem Rk{k1:Kv}{s g l m:V}(h:wayV k1 s g l m=.non):YI k1 s g=.non/\K1.Zu l 1 50=true/\K1.Zu m 0 1000=true:=by
 unfold wayV at h;by_cases e:YI k1 s g=.non
 ·rw[if_neg (λz=>z e)]at h;refine⟨e,?_⟩;cases h1:K1.Zu l 1 50<;>cases h2:K1.Zu m 0 1000<;>simp_all
 ·rw[if_pos e]at h;exact absurd h e
theorem SY{k1:Kv}{n pp:Int}{p t m:V}(h:YZ k1 n pp p t m=.non):ZN p k1=true/\K1.Zu t 0 n=true:=by unfold YZ at h;cases h1:ZN p k1<;>cases h2:K1.Zu t 0 n<;>simp_all
theorem VR{k1:Kv}{s g:V}(h:YI k1 s g=.non):ZN s k1=true/\ZN g k1=true/\Gb s k1=false:=by unfold YI at h;cases h1:ZN s k1<;>cases h2:ZN g k1<;>cases h3:Gb s k1<;>simp_all
theorem NN{g:Bool}{z:Str}(h:Z5 g (.str z)=true):z.length<=1000:=by
 have h12:K1.lenB 12 (codes z)=true\/K1.lenB 8 (codes z)=true:=by
  cases g
  ·right;have h':K1.X6 8 (K1.codes K1.tNAME) (codes z)=true:=h;unfold K1.X6 K1.YC at h';exact(Bool.and_eq_true_iff.mp (Bool.and_eq_true_iff.mp h').1).1
  ·left;have h':K1.X6 12 (K1.codes K1.tGROUP) (codes z)=true:=h;unfold K1.X6 K1.YC at h';exact(Bool.and_eq_true_iff.mp (Bool.and_eq_true_iff.mp h').1).1
 unfold K1.lenB at h12;rw[ZK]at h12;simp only[Bool.and_eq_true,decide_eq_true_eq]at h12;omega
theorem PQ{ps:Pl}{s g:Str}(h:Ends ps s g){k1:Kv}(hk:Mw k1 (ps.map ZV)):YI k1 (.str s) (.str g)=.non:=by obtain⟨⟨i,hi⟩,⟨r,hr⟩,ne⟩:=h;have e1:valV k1 (.inr s)=some (.int i):=hk _ (List.mem_map.mpr ⟨_,hi,rfl⟩);have e2:valV k1 (.inr g)=some (YU r):=hk _ (List.mem_map.mpr ⟨_,hr,rfl⟩);unfold YI ZN Gb;simp only[e1,e2,Option.isSome_some,Bool.not_true,Bool.or_false,Bool.false_eq_true,if_false];rw[if_neg (by simp),if_neg (by intro z;injection z with z;exact ne z.symm)]
theorem Y8(i:Int):Flat (.int i):=.inr (.inl ⟨i,rfl⟩)
theorem YS{z:Str}(h:z.length<=1000):Flat (.str z):=.inr (.inr ⟨z,rfl,h⟩)
section
variable {n:Int}{ps:Pl}
theorem EE{p:Str×Option Int}{t1:List (List V)}(hn:Z5 false (.str p.1)=true)(hr:∀i,p.2=some i->0<=i/\i<=1000):RowOk 1 n t1 (ZV p):=by
 refine⟨rfl,hn,λk1 _ pp _=>?_,λz=>(by cases z),λy hy=>?_⟩
 ·show Z8 (YU p.2)=.non;unfold Z8;rw[if_pos];cases e:p.2 with
 |none=>rfl
 |some i=>have:=hr i e;simp[YU,K1.Zu,this.1,this.2]
 ·simp only[ZV,List.mem_cons,List.not_mem_nil,or_false]at hy;rcases hy with rfl|rfl
  ·exact YS (NN hn)
  ·cases p.2 with
  |none=>exact .inl rfl
  |some i=>exact Y8 i
theorem EA(gp:∀p∈ps,p.1.length<=1000){r:Rd}(g:GoodRd n ps r)(hn:Z5 false (.str r.nm)=true):RowOk 2 n (ps.map ZV) (JC r):=by
 refine⟨rfl,hn,λk1 hk pp _=>?_,λz=>(by cases z),λy hy=>?_⟩
 ·show U8 k1 n (.str r.st) (.int r.lv) (.str r.gl) (.int r.cm) (.int r.se)=.non;unfold U8;rw[PQ g.ends (hk (by decide)),if_neg (λz=>z rfl)];dsimp only;rw[YV g.lv0 g.lv1,YV g.cm0 g.cm1,YV g.se0 g.se1];rfl
 ·obtain⟨⟨i,hi⟩,⟨x,hx⟩,_⟩:=g.ends;simp only[JC,List.mem_cons,List.not_mem_nil,or_false]at hy;rcases hy with rfl|rfl|rfl|rfl|rfl|rfl
  ·exact YS (NN hn)
  ·exact YS (gp _ hi)
  ·exact Y8 _
  ·exact YS (gp _ hx)
  ·exact Y8 _
  ·exact Y8 _
theorem Ef(gp:∀p∈ps,p.1.length<=1000){r:Wy}(g:GoodWy ps r)(hn:Z5 false (.str r.nm)=true):RowOk 3 n (ps.map ZV) (Vo r):=by
 refine⟨rfl,hn,λk1 hk pp _=>?_,λz=>(by cases z),λy hy=>?_⟩
 ·show wayV k1 (.str r.st) (.str r.gl) (.int r.lo) (.int r.wi)=.non;unfold wayV;rw[PQ g.ends (hk (by decide)),if_neg (λz=>z rfl),YV g.lo0 g.lo1,YV g.wi0 g.wi1];rfl
 ·obtain⟨⟨i,hi⟩,⟨x,hx⟩,_⟩:=g.ends;simp only[Vo,List.mem_cons,List.not_mem_nil,or_false]at hy;rcases hy with rfl|rfl|rfl|rfl|rfl
  ·exact YS (NN hn)
  ·exact YS (gp _ hi)
  ·exact YS (gp _ hx)
  ·exact Y8 _
  ·exact Y8 _
theorem ET{t1:List (List V)}{r:Gr}{v:V}(hp:∃p∈t1,nameOf p=r.pl)(pl:r.pl.length<=1000)(t0:0<=r.tu)(t1':r.tu<=n)(m0:0<=r.ma)(m1:r.ma<=300)(hn:Z5 true (.str r.nm)=true):RowOk 4 n t1 (grRow r):=by
 refine⟨rfl,hn,λk1 hk pp hpp=>?_,λ_=>m0,λy hy=>?_⟩
 ·show YZ k1 n pp (.str r.pl) (.int r.tu) (.int r.ma)=.non;obtain⟨p,hp,e⟩:=hp;have e1:=hk (by decide) p hp;rw[e]at e1;unfold YZ;rw[show ZN (.str r.pl) k1=true from by show(valV k1 (.inr r.pl)).isSome=true;rw[e1];rfl,YV t0 t1'];dsimp only;rw[YV m0 m1];have:=hpp rfl;have em:Ym (grRow r)=r.ma:=rfl;rw[em]at this;simp only[Bool.not_true,Bool.false_eq_true,if_false];rw[if_neg (by omega)]
 ·simp only[grRow,List.mem_cons,List.not_mem_nil,or_false]at hy;rcases hy with rfl|rfl|rfl|rfl
  ·exact YS (NN hn)
  ·exact YS pl
  ·exact Y8 _
  ·exact Y8 _
end
theorem SW{n:Int}{ps:Pl}{gs:List Gr}{bs:List Str}(sh:∀p∈ps,p.1.length<=1000)(nd:bs.Nodup)(nm:∀t∈bs,Nm t)(lb:bs.length<=12)(len:gs.length=bs.length)(g:∀(i:Nat)b r,bs[i]?=some b->gs[i]?=some r->GoodGr n ps b r):Rh 4 n (ps.map ZV) (gs.map grRow)/\((gs.map grRow).map Ym).sum<=60/\∀z∈(gs.map grRow).map nameOf,∃b∈bs,∃s∈sufs,z=b++s:=by
 have grAt:∀r∈gs,∃b,b∈bs/\GoodGr n ps b r:=λr hr=>by
  obtain⟨i,hi⟩:=List.mem_iff_getElem?.mp hr;have:i<bs.length:=by rw[<-len];exact(List.getElem?_eq_some_iff.mp hi).1
  exact⟨bs[i],List.getElem_mem this,g i _ r (List.getElem?_eq_getElem this) hi⟩
 have e4:(gs.map grRow).map nameOf=gs.map (·.nm):=by rw[List.map_map];rfl
 have sle:∀rs:List Gr,(∀r∈rs,r.ma<=5)->((rs.map grRow).map Ym).sum<=5*rs.length:=λrs h=>by
  induction rs with
 |nil=>simp
 |cons r rs ih=>have h1:=h r List.mem_cons_self;have h2:=ih λq hq=>h q (List.mem_cons_of_mem _ hq);have em:Ym (grRow r)=r.ma:=rfl;rw[List.map_cons,List.map_cons,List.sum_cons,em,List.length_cons];omega
 have sm:((gs.map grRow).map Ym).sum<=60:=by
  have:=sle gs λr hr=>let ⟨b,_,q⟩:=grAt r hr;q.ma1
  omega
 refine⟨⟨by rw[List.length_map];show gs.length<=300;omega,?_,λys hy=>?_,λ_=>by omega⟩,sm,λz hz=>?_⟩
 ·rw[e4];have:∀(i:Nat)r b,gs[i]?=some r->bs[i]?=some b->(codes r.nm).takeWhile (λc=>decide (c∈LET))=codes b:=λi r b h1 h2=>by obtain⟨s,hs,e⟩:=(g i b r h2 h1).nm;rw[e];exact Su (nm b (List.mem_of_getElem? h2)) hs
  rw[List.nodup_iff_pairwise_ne,List.pairwise_iff_getElem];intro i j hi hj hij e;simp only[List.length_map]at hi hj;simp only[List.getElem_map]at e;have b1:=this i _ _ (List.getElem?_eq_getElem hi) (List.getElem?_eq_getElem (by rw[<-len];exact hi));have b2:=this j _ _ (List.getElem?_eq_getElem hj) (List.getElem?_eq_getElem (by rw[<-len];exact hj));rw[e]at b1;have:=Ti (b1.symm.trans b2);exact absurd ((List.getElem_inj nd).mp this) (Nat.ne_of_lt hij)
 ·obtain⟨r,hr,rfl⟩:=List.mem_map.mp hy;obtain⟨b,hb,q⟩:=grAt r hr;obtain⟨s,hs,e⟩:=q.nm;obtain⟨x,hx⟩:=q.pl;exact ET (v:=.non) ⟨_,List.mem_map.mpr ⟨_,hx,rfl⟩,rfl⟩ (sh _ hx) q.tu0 q.tu1 q.ma0 (by have:=q.ma1;omega) (by rw[e];exact D7 (nm b hb) hs)
 ·rw[e4]at hz;obtain⟨r,hr,rfl⟩:=List.mem_map.mp hz;obtain⟨b,hb,q⟩:=grAt r hr;obtain⟨s,hs,e⟩:=q.nm;exact⟨b,hb,s,hs,e⟩
structure LInv(T:Tb)(ps:Pl)(s:Str):Prop where
 ok:OkTb T
 t1:T.t1=ps.map ZV
 pl:GoodPl ps
 len:T.t2.length<=79
 nm:Nm s
 s:s∉T.t2.map nameOf
noncomputable def tbOf(W:Wd):Tb:=⟨W.n,W.ps.map ZV,W.rs.map JC,W.ws.map Vo,W.gs.map grRow⟩
theorem WorldAt.tb{b:Addr}{H:Hp}{p:Addr}{W:Wd}{l1 l2 l3 l4:Addr}(h:WorldAt b H p W l1 l2 l3 l4):TbAt b H p (tbOf W) l1 l2 l3 l4:=⟨h.ne,h.at_,h.pl,h.rd,h.wy,h.gr⟩
theorem Nm.short{t:Str}(h:Nm t):t.length<=1000:=by have:=h.2.1;rw[ZK]at this;omega
theorem drawn{W:Wd}{bs:List Str}{s0 s1 s2 s3:Str}(g:GoodW W bs)(st:Strange W bs s0 s1 s2 s3):LInv (tbOf W) W.ps s1:=by
 have sh:∀p∈W.ps,p.1.length<=1000:=λp hp=>(g.pl.nm p hp).short;have c1:=g.pl.hi;have c2:=st.r.len;have c3:=st.w.len;rw[List.length_map]at c2 c3;have e2:(W.rs.map JC).map nameOf=W.rs.map (·.nm):=by rw[List.map_map];rfl
 have e3:(W.ws.map Vo).map nameOf=W.ws.map (·.nm):=by rw[List.map_map];rfl
 have e1:(W.ps.map ZV).map nameOf=W.ps.map (·.1):=by rw[List.map_map];rfl
 refine⟨⟨g.n0,g.n1,λj hj=>?_⟩,rfl,g.pl,by show(W.rs.map JC).length<=79;rw[List.length_map];omega,st.r.snm,by show _∉(W.rs.map JC).map nameOf;rw[e2];exact st.r.s⟩;rcases hj with rfl|rfl|rfl|rfl
 ·refine⟨by show(W.ps.map ZV).length<=14;rw[List.length_map];omega,by show((W.ps.map ZV).map nameOf).Nodup;rw[e1];exact g.pl.nd,λys hy=>?_,λz=>by cases z⟩;obtain⟨p,hp,rfl⟩:=List.mem_map.mp hy;exact EE (WM (g.pl.nm p hp)) (g.pl.room p hp)
 ·refine⟨by show(W.rs.map JC).length<=80;rw[List.length_map];omega,by show((W.rs.map JC).map nameOf).Nodup;rw[e2];exact st.r.nd,λys hy=>?_,λz=>by cases z⟩;obtain⟨r,hr,rfl⟩:=List.mem_map.mp hy;exact EA sh (g.rd r hr) (WM (st.r.nm _ (List.mem_map.mpr ⟨r,hr,rfl⟩)))
 ·refine⟨by show(W.ws.map Vo).length<=40;rw[List.length_map];omega,by show((W.ws.map Vo).map nameOf).Nodup;rw[e3];exact st.w.nd,λys hy=>?_,λz=>by cases z⟩;obtain⟨r,hr,rfl⟩:=List.mem_map.mp hy;exact Ef sh (g.wy r hr) (WM (st.w.nm _ (List.mem_map.mpr ⟨r,hr,rfl⟩)))
 ·exact(SW sh st.g.nd st.g.nm st.g.len g.len g.gr).1
theorem Gv{T:Tb}(o:OkTb T):∃k1,PlDict k1 T.t1:=by obtain⟨k1,_,d,_⟩:=X0 (j:=1) (k1:=[]) (n:=T.n) (t1:=T.t1) (.inl rfl) (λh=>absurd rfl h) (o.part 1 (.inl rfl)) (xs:=T.t1.map λ_=>V.non) (by rw[List.length_map];rfl);exact⟨k1,d rfl⟩
theorem GR:(∀c∈K1.codes K1.tNAME,c<0x110000)/\∀c∈K1.codes K1.tGROUP,c<0x110000:=by decide +kernel
theorem K9{g:Bool}{z:Str}(h:Z5 g (.str z)=true):GS z:=by
 cases g
 ·have h':K1.X6 8 (K1.codes K1.tNAME) (codes z)=true:=h;unfold K1.X6 K1.YC K1.lenB at h';simp only[Bool.and_eq_true,decide_eq_true_eq,List.all_eq_true]at h';exact⟨by rw[<-ZK];omega,λc hc=>GR.1 c (h'.1.2 c hc)⟩
 ·have h':K1.X6 12 (K1.codes K1.tGROUP) (codes z)=true:=h;unfold K1.X6 K1.YC K1.lenB at h';simp only[Bool.and_eq_true,decide_eq_true_eq,List.all_eq_true]at h';exact⟨by rw[<-ZK];omega,λc hc=>GR.2 c (h'.1.2 c hc)⟩
theorem within_int{v:V}{lo hi:Int}(h:K1.Zu v lo hi=true):∃i,v=.int i/\lo<=i/\i<=hi:=by
 cases v with
|int i=>have h':(decide (lo<=i)&&decide (i<=hi))=true:=h;simp only[Bool.and_eq_true,decide_eq_true_eq]at h';exact⟨i,rfl,h'.1,h'.2⟩
|_=>cases h
theorem J6{v:V}{lo hi:Int}(h:K1.Zu v lo hi=true)(h0:0<=lo)(h1:hi<=1000):Atm v:=by obtain⟨i,rfl,a,b⟩:=within_int h;exact .int (by omega)
theorem Ge{k1:Kv}{n pp:Int}{p t m:V}(h:YZ k1 n pp p t m=.non):ZN p k1=true/\K1.Zu t 0 n=true/\∃i,m=.int i/\0<=i/\i<=300:=by
 obtain⟨h1,h2⟩:=SY h;refine⟨h1,h2,?_⟩;unfold YZ at h;rw[h1,h2]at h;cases m with
|int i=>
  cases hw:K1.Zu (.int i) 0 300 with
 |true=>exact within_int hw
 |false=>dsimp only at h;rw[hw]at h;cases h
|_=>cases h
theorem QJ{k1:Kv}{t1:List (List V)}(hk:PlDict k1 t1){x:V}(h:ZN x k1=true):∃p∈t1,x=.str (nameOf p):=by
 obtain⟨z,v,rfl,hv⟩:=Z7 h;by_cases hz:z∈t1.map nameOf
 ·obtain⟨p,hp,e⟩:=List.mem_map.mp hz;exact⟨p,hp,by rw[e]⟩
 ·rw[hk.no z hz]at hv;cases hv
section
variable {T:Tb}(o:OkTb T)
include o
theorem UI{j:Nat}(hj:isJ j){ys:List V}(h:ys∈T.part j):RowOk j T.n T.t1 ys:=(o.part j hj).2.row ys h
theorem X5{j:Nat}(hj:isJ j){ys:List V}(h:ys∈T.part j):at_ ys 0=.str (nameOf ys)/\GS (nameOf ys):=by have r:=UI o hj h;refine⟨r.name,?_⟩;have:=r.nm;rw[show at_ ys 0=.str (nameOf ys)from r.name]at this;exact K9 this
theorem JR{k1:Kv}(hk:PlDict k1 T.t1){x:V}(h:ZN x k1=true):Atm x:=by obtain⟨p,hp,rfl⟩:=QJ hk h;exact .str (X5 o (j:=1) (.inl rfl) hp).2
theorem Jh{ys:List V}(h:ys∈T.t1):∃p:Str×Option Int,ys=ZV p/\GS p.1/\∀i,p.2=some i->0<=i/\i<=1000:=by
 have r:=UI o (j:=1) (.inl rfl) h;obtain⟨e0,g⟩:=X5 o (j:=1) (.inl rfl) h;have hw:Z8 (at_ ys 1)=.non:=r.why [] (λz=>absurd rfl z) 0 (λz=>by cases z);obtain⟨a,c,rfl⟩:=len2 r.len;have ea:a=.str (nameOf [a,c]):=e0;have hw:Z8 c=.non:=hw;unfold Z8 at hw;by_cases e:c=.non
 ·exact⟨(nameOf [a,c],none),by rw[e];rw[e]at ea;rw[<-ea.symm];rfl,g,λi q=>by cases q⟩
 ·have hb:K1.Zu c 0 1000=true:=by
   cases hb:K1.Zu c 0 1000 with
  |true=>rfl
  |false=>rw[hb,decide_eq_false e,Bool.or_false,if_neg (by decide)]at hw;cases hw
  obtain⟨i,rfl,h0,h1⟩:=within_int hb;exact⟨(nameOf [a,.int i],some i),by rw[<-ea.symm];rfl,g,λj q=>by cases q;exact⟨h0,h1⟩⟩
theorem MR{ys:List V}(h:ys∈T.t2){k1:Kv}(hk:Mw k1 T.t1):∃z s lv g cm se,ys=[.str z,s,.int lv,g,.int cm,.int se]/\nameOf ys=z/\YI k1 s g=.non/\0<=lv/\lv<=T.n-1/\lv+1<=cm/\cm<=T.n/\0<=se/\se<=1000:=by have r:=UI o (j:=2) (.inr (.inl rfl)) h;have hw:JB k1 T.n ys=.non:=r.why k1 (λ_=>hk) 0 (λz=>by cases z);obtain⟨a,b,c,d,e,f,rfl⟩:=len6 r.len;have ea:a=.str (nameOf [a,b,c,d,e,f]):=r.name;have hw:U8 k1 T.n b c d e f=.non:=hw;obtain⟨he,i,rfl,h1,h2,h3⟩:=Wo hw;obtain⟨i',q,a1,a2⟩:=within_int h1;cases q;obtain⟨cm,rfl,b1,b2⟩:=within_int h2;obtain⟨se,rfl,c1,c2⟩:=within_int h3;exact⟨_,b,i,d,cm,se,congrArg (λq=>q::[b,.int i,d,.int cm,.int se]) ea,rfl,he,a1,a2,b1,b2,c1,c2⟩
theorem VS{k1:Kv}(hk:PlDict k1 T.t1){s g:V}(h:YI k1 s g=.non):Atm s/\Atm g:=⟨JR o hk (VR h).1,JR o hk (VR h).2.1⟩
theorem Vy{j:Nat}(hj:isJ j){ys:List V}(h:ys∈T.part j):RowG ys:=by
 obtain⟨k1,hk⟩:=Gv o;have n1:=o.n1;have r:=UI o hj h;obtain⟨e0,g⟩:=X5 o hj h;have at0:Atm (at_ ys 0):=by rw[e0];exact .str g
 have hw:=r.why k1 (λ_=>hk.has);rcases hj with rfl|rfl|rfl|rfl
 ·obtain⟨p,rfl,g,rm⟩:=Jh o h;refine⟨by show 2<=6;decide,λy hy=>?_⟩;simp only[ZV,List.mem_cons,List.not_mem_nil,or_false]at hy;rcases hy with rfl|rfl
  ·exact .str g
  ·cases e:p.2 with
  |none=>exact .non
  |some i=>have:=rm i e;exact .int (by omega)
 ·obtain⟨z,s,lv,g',cm,se,rfl,_,he,a1,a2,b1,b2,c1,c2⟩:=MR o h hk.has;obtain⟨q1,q2⟩:=VS o hk he;refine⟨by show 6<=6;decide,λy hy=>?_⟩;simp only[List.mem_cons,List.not_mem_nil,or_false]at hy;rcases hy with rfl|rfl|rfl|rfl|rfl|rfl
  ·exact at0
  ·exact q1
  ·exact .int (by omega)
  ·exact q2
  ·exact .int (by omega)
  ·exact .int (by omega)
 ·obtain⟨a,b,c,d,e,rfl⟩:=len5 r.len;have hw':wayV k1 b c d e=.non:=hw 0 (λz=>by cases z);obtain⟨he,h1,h2⟩:=Rk hw';obtain⟨q1,q2⟩:=VS o hk he;refine⟨by show 5<=6;decide,λy hy=>?_⟩;simp only[List.mem_cons,List.not_mem_nil,or_false]at hy;rcases hy with rfl|rfl|rfl|rfl|rfl
  ·exact at0
  ·exact q1
  ·exact q2
  ·exact J6 h1 (by decide) (by decide)
  ·exact J6 h2 (by decide) (by decide)
 ·obtain⟨a,b,c,d,rfl⟩:=len4 r.len;obtain⟨h1,h2,i,rfl,h0,h3⟩:=Ge (hw (300-Ym [a,b,c,d]) (λ_=>by omega):YZ k1 T.n _ b c d=.non);refine⟨by show 4<=6;decide,λy hy=>?_⟩;simp only[List.mem_cons,List.not_mem_nil,or_false]at hy;rcases hy with rfl|rfl|rfl|rfl
  ·exact at0
  ·exact JR o hk h1
  ·exact J6 h2 (by decide) (by omega)
  ·exact .int (by omega)
theorem NL:TabG T.n T.t1 T.t2 T.t3 T.t4:=⟨⟨o.n0,o.n1⟩,(o.part 1 (.inl rfl)).1,(o.part 2 (.inr (.inl rfl))).1,(o.part 3 (.inr (.inr (.inl rfl)))).1,(o.part 4 (.inr (.inr (.inr rfl)))).1,λ_ h=>Vy o (.inl rfl) h,λ_ h=>Vy o (.inr (.inl rfl)) h,λ_ h=>Vy o (.inr (.inr (.inl rfl))) h,λ_ h=>Vy o (.inr (.inr (.inr rfl))) h⟩
end
end WD
namespace TB
open PySem L2 PySem.Spec PyProof.Rows WD
section
variable {P:Program}{w:World}{K:PySem.W.Frag}{mg:Str->Option Value}{base:Heap}{C Cn:Addr}
theorem Qx:FnScope ["self","thing"] ["self","thing"] (Zf T.m_Table_is_ride):=⟨rfl,rfl,rfl,by decide +kernel,rfl,by decide +kernel,by decide +kernel⟩
theorem Qc(Z:TCl K C)(D:DfM K C "is_ride" "Table.is_ride" T.m_Table_is_ride ["self","thing"])(CK:Can P w K mg base 1 "is_known" ["thing","names"] Vt):CanM P w K mg base CX0 2 C "is_ride" ["self","thing"] (Xh C "ride_by_name"):=by
 refine D.can Qx (λvs H Q E h=>?_) λf cdv A outer s H vs Q E hr h=>?_
 ·obtain⟨t,x,T',fs,d,kvs,rfl,_⟩:=h;rfl
 ·obtain⟨t,x,T',fs,d,kvs,rfl,⟨⟨dx,ht⟩,_⟩,hl,hd,th,k⟩:=h;refine⟨_,Zi (Zo (ZT CK hr rfl (Zg (pv 1) (Zg (ZL (pv 0) rfl) Zb)))),?_⟩;exact⟨_,rfl,_,rfl,t,C,dx,fs,_,rfl,ht,Z.cl,Z.na _ (by simp[fields]),hl,x,T',d,kvs,rfl,th,hd,k⟩
theorem Sy:FnScope ["self","thing"] ["self","thing"] (Zf T.m_Table_is_way):=⟨rfl,rfl,rfl,by decide +kernel,rfl,by decide +kernel,by decide +kernel⟩
theorem Q6(Z:TCl K C)(D:DfM K C "is_way" "Table.is_way" T.m_Table_is_way ["self","thing"])(CK:Can P w K mg base 1 "is_known" ["thing","names"] Vt):CanM P w K mg base CX0 2 C "is_way" ["self","thing"] (Xh C "way_by_name"):=by
 refine D.can Sy (λvs H Q E h=>?_) λf cdv A outer s H vs Q E hr h=>?_
 ·obtain⟨t,x,T',fs,d,kvs,rfl,_⟩:=h;rfl
 ·obtain⟨t,x,T',fs,d,kvs,rfl,⟨⟨dx,ht⟩,_⟩,hl,hd,th,k⟩:=h;refine⟨_,Zi (Zo (ZT CK hr rfl (Zg (pv 1) (Zg (ZL (pv 0) rfl) Zb)))),?_⟩;exact⟨_,rfl,_,rfl,t,C,dx,fs,_,rfl,ht,Z.cl,Z.na _ (by simp[fields]),hl,x,T',d,kvs,rfl,th,hd,k⟩
theorem Pj:FnScope ["self","thing"] ["self","thing"] (Zf T.m_Table_is_group):=⟨rfl,rfl,rfl,by decide +kernel,rfl,by decide +kernel,by decide +kernel⟩
theorem NV(Z:TCl K C)(D:DfM K C "is_group" "Table.is_group" T.m_Table_is_group ["self","thing"])(CK:Can P w K mg base 1 "is_known" ["thing","names"] Vt):CanM P w K mg base CX0 2 C "is_group" ["self","thing"] (Xh C "group_by_name"):=by
 refine D.can Pj (λvs H Q E h=>?_) λf cdv A outer s H vs Q E hr h=>?_
 ·obtain⟨t,x,T',fs,d,kvs,rfl,_⟩:=h;rfl
 ·obtain⟨t,x,T',fs,d,kvs,rfl,⟨⟨dx,ht⟩,_⟩,hl,hd,th,k⟩:=h;refine⟨_,Zi (Zo (ZT CK hr rfl (Zg (pv 1) (Zg (ZL (pv 0) rfl) Zb)))),?_⟩;exact⟨_,rfl,_,rfl,t,C,dx,fs,_,rfl,ht,Z.cl,Z.na _ (by simp[fields]),hl,x,T',d,kvs,rfl,th,hd,k⟩
end
end TB
namespace L2
open PySem PySem.Spec PyProof.Rows
structure BaseM(K:PySem.W.Frag)(C:Addr)(m:Str)(f:Addr):Prop where
 ga:PySem.W.specialIn K (.ref C) "__getattribute__"=some (some (.builtin "type.__getattribute__"))
 rd:∃mc,PySem.W.readsIn K C mc=true/\PySem.W.findCls K (.ref C) mc m=some (.val (.ref f))
 kp:PySem.W.keepIn K (.ref f)=true
theorem Gu{X:Cx}{CX:CXT}{k:Nat}{f C:Addr}{fd:FuncData}{ps:List Str}{ds:List Value}{dvs:List V}{sp:Sp}{E:XK}{m:Str}{pos apos:Pos}{e o:Expr}{es:List Expr}{t:TA}{pl:Sem Bool}(he:PE X o (tC (.ref C)))(hm:BaseM X.K C m f)(F:FnOk X.prog X.w X.K X.mg X.base CX k f fd ps sp)(hr:Room k X.A)(hb:Binds X.K fd ps ds)(hd:Vals dvs ds)(hx:Passes CX X E)(ha:PA X (e::es) t)
  (hst:starEach (e::es) X.env=(false,eval e X.env)::starEach es X.env:=by rfl) (hpl:(backTo pos (starEach es X.env)).any (·.1)=false:=by rfl)
  (ht:eval (.Call (.Attribute o m apos) (e::es) [] pos) X.env=(do
   let ov <-eval o X.env
   standAt apos.atName
   let (f,first) <-holding [ov] (getMethod ov m pl)
   callWith pos f first (backTo pos (starEach (e::es) X.env)) (backToKw pos (keywordEach [] X.env))):=by rfl):
  PE X (.Call (.Attribute o m apos) (e::es) [] pos) (MN sp dvs E t):=by
 intro pins s σ H Q I h
 obtain⟨mc,h1,h2⟩:=hm.rd
 refine PySem.W.methodCall_KW (pl:=pl) (he pins s σ H (λv H1=>v=.ref C/\H1=H) I ⟨rfl,rfl⟩ |> λq=>thn q λu s1⟨x,H1,I1,rx,ex,eH⟩=>?_) ht
 subst ex
 subst eH
 obtain rfl:u=Value.ref C:=rx
 refine PySem.W.method_cls I1.kIn hm.ga (PySem.W.cls_value I1.kIn h1 h2 rfl ?_)
 refine PySem.W.callWith_K (first:=[]) (h₀:=X.base) I.ok.mod.kin hm.kp (thn (ha pos pins _ σ H1 _ (I1.tok _) h) λus s2⟨vs,H2,I2,r,q2⟩=>⟨I2.kIn,?_⟩) hst hpl
 exact ND F hr hb hd hx I2 r q2
section
variable {X:Cx}
def tCut(t:TS):TS:=λD σ H=>∃M:L2.St->Hp->Prop,t {D with nx:=M} σ H/\∀σ' H',M σ' H'->D.nx σ' H'
theorem Ws{st:Stmt}{t:TS}(h:PS X st t):PS X st (tCut t):=by
 intro pins s σ H D I ⟨M,q,k⟩;refine thn (h pins s σ H _ I q) λfl s' z=>?_;cases fl with
|next=>obtain⟨σ',H',I',m⟩:=z;exact⟨σ',H',I',k _ _ m⟩
|brk=>exact z
|cont=>exact z
|ret u=>exact z
end
end L2
namespace SX
open PySem L2 PySem.Spec PyProof.Rows TB WD
noncomputable def sA(ys:List V)(j:Nat):Str:=match at_ ys j with|.str z=>z|_=>""
noncomputable def iA(ys:List V)(j:Nat):Int:=match at_ ys j with|.int i=>i|_=>0
structure Sx where
 key:List Key
 tail:PyData
 head:PyData
 room:V
 price:Int
noncomputable def outS(y:List V)(i:Int):Sx:=⟨[.inr "out",.inr (nameOf y),.inl i],.str (nameOf y),.tuple [.str (sA y 1),.int i],.non,0⟩
noncomputable def XX(y:List V):Sx:=⟨[.inr "ride",.inr (nameOf y)],.tuple [.str (sA y 1),.int (iA y 2)],.tuple [.str (sA y 3),.int (iA y 4)],.int (iA y 5),iA y 4-iA y 2⟩
noncomputable def GD(y:List V)(i:Int):Sx:=⟨[.inr "walk",.inr (nameOf y),.inl i],.tuple [.str (sA y 1),.int i],.tuple [.str (sA y 2),.int (i+iA y 3)],.int (iA y 4),iA y 3⟩
noncomputable def GF(y:List V)(i:Int):Sx:=⟨[.inr "wait",.inr (nameOf y),.inl i],.tuple [.str (nameOf y),.int i],.tuple [.str (nameOf y),.int (i+1)],at_ y 1,1⟩
def ZU(T:Tb)(vs:List V)(j:Nat)(S:Sx):Prop:=(∃y∈T.t4,∃i,vs=[.str "out",.str (nameOf y),.int i]/\iA y 2<=i/\i<=T.n/\j=0/\S=outS y i) \/(∃y∈T.t2,vs=[.str "ride",.str (nameOf y)]/\j=1/\S=XX y) \/(∃y∈T.t3,∃i,vs=[.str "walk",.str (nameOf y),.int i]/\0<=i/\i<=T.n-iA y 3/\j=2/\S=GD y i) \/∃y∈T.t1,∃i,vs=[.str "wait",.str (nameOf y),.int i]/\at_ y 1≠.non/\0<=i/\i<=T.n-1/\j=3/\S=GF y i
theorem ZU.key{T:Tb}{vs:List V}{j:Nat}{S:Sx}(h:ZU T vs j S):vs=S.key.map kV/\j<4:=by rcases h with⟨y,_,i,e,_,_,rfl,rfl⟩|⟨y,_,e,rfl,rfl⟩|⟨y,_,i,e,_,_,rfl,rfl⟩|⟨y,_,i,e,_,_,_,rfl,rfl⟩<;>exact⟨e,by decide⟩
theorem YY{t:List (List V)}(h:(t.map nameOf).Nodup){y z:List V}(hy:y∈t)(hz:z∈t)(e:nameOf y=nameOf z):y=z:=by
 induction t with
|nil=>cases hy
|cons a t ih=>
  rw[List.map_cons,List.nodup_cons]at h;rcases List.mem_cons.mp hy with rfl|hy'<;>rcases List.mem_cons.mp hz with rfl|hz'
  ·rfl
  ·exact absurd (e▸List.mem_map.mpr ⟨z,hz',rfl⟩) h.1
  ·exact absurd (e▸List.mem_map.mpr ⟨y,hy',rfl⟩) h.1
  ·exact ih h.2 hy' hz'
theorem G6{T:Tb}(o:OkTb T){j:Nat}(hj:isJ j):((T.part j).map nameOf).Nodup:=(o.part j hj).2.nd
theorem Vp:("out":Str)≠"walk"/\("out":Str)≠"wait"/\("walk":Str)≠"wait"/\("out":Str)≠"ride"/\("walk":Str)≠"ride"/\("wait":Str)≠"ride":=by decide +kernel
theorem ZU.uniq{T:Tb}(o:OkTb T){vs:List V}{j j':Nat}{S S':Sx}(h:ZU T vs j S)(h':ZU T vs j' S'):j=j'/\S=S':=by
 obtain⟨w1,w2,w3,w4,w5,w6⟩:=Vp;rcases h with⟨y,hy,i,e,_,_,rfl,rfl⟩|⟨y,hy,e,rfl,rfl⟩|⟨y,hy,i,e,_,_,rfl,rfl⟩|⟨y,hy,i,e,_,_,_,rfl,rfl⟩ <;>rcases h' with⟨z,hz,i',e',_,_,rfl,rfl⟩|⟨z,hz,e',rfl,rfl⟩|⟨z,hz,i',e',_,_,rfl,rfl⟩|⟨z,hz,i',e',_,_,_,rfl,rfl⟩<;>rw[e]at e'<;>simp only[List.cons.injEq,V.str.injEq,V.int.injEq,reduceCtorEq,and_true,and_false]at e'
 ·rw[YY (G6 o (j:=4) (.inr (.inr (.inr rfl)))) hy hz e'.2.1,e'.2.2];exact⟨rfl,rfl⟩
 ·exact absurd e'.1 w1
 ·exact absurd e'.1 w2
 ·rw[YY (G6 o (j:=2) (.inr (.inl rfl))) hy hz e'.2];exact⟨rfl,rfl⟩
 ·exact absurd e'.1.symm w1
 ·rw[YY (G6 o (j:=3) (.inr (.inr (.inl rfl)))) hy hz e'.2.1,e'.2.2];exact⟨rfl,rfl⟩
 ·exact absurd e'.1 w3
 ·exact absurd e'.1.symm w2
 ·exact absurd e'.1.symm w3
 ·rw[YY (G6 o (j:=1) (.inl rfl)) hy hz e'.2.1,e'.2.2];exact⟨rfl,rfl⟩
noncomputable def flds(vk vt vh vr vp:V):List (Str×V):=[("its_key",vk),("its_tail",vt),("its_head",vh),("its_room",vr),("its_price",vp)]
def N4(H:Hp)(Cs:Nat->Addr)(x:Addr)(j:Nat)(S:Sx):Prop:=∃dx k vt vh,H x=some (.ins (Cs j) dx (flds (.ref k) vt vh S.room (.int S.price)))/\H k=some (.tup (S.key.map kV))/\Is H vt S.tail/\Is H vh S.head
noncomputable def fnames:List Str:=["its_key","its_tail","its_head","its_room","its_price"]
structure SCl(K:PySem.W.Frag)(C:Addr):Prop where
 cl:Cls K C
 na:∀f∈fnames,ZZ K C f
def Rz(K:PySem.W.Frag):Sp:=λvs H Q _=>∃(x C dx:Addr)(vk vt vh vr vp:V),vs=[.ref x,vk,vt,vh,vr,vp]/\SCl K C/\H x=some (.ins C dx [])/\Q .non (upd H x (.ins C dx (flds vk vt vh vr vp)))
structure CanB(P:Program)(w:World)(K:PySem.W.Frag)(mg:Str->Option Value)(base:Heap)(Cb:Addr):Prop where
 at_:∃f fd,FnOk P w K mg base CX0 1 f fd ["self","key","tail","head","room","price"] (Rz K)/\BaseM K Cb "__init__" f/\Binds K fd ["self","key","tail","head","room","price"] []
 mg:mg "Step"=some (.ref Cb)
structure SMk(P:Program)(w:World)(K:PySem.W.Frag)(mg:Str->Option Value)(base:Heap)(x:Str)(C:Addr)(ps:List Str)(sp:Sp):Prop where
 made:∃f fd,Mk K C f/\FnOk P w K mg base CX0 2 f fd ps sp/\Binds K fd ps []
 mg:mg x=some (.ref C)
def spMk(K:PySem.W.Frag)(Cs:Nat->Addr)(j:Nat)(rd:List V->List V->Sx->Prop):Sp:=λvs H Q _=>∃(x dx r:Addr)(y:List V)(us:List V)(S:Sx),vs=.ref x::.ref r::us/\SCl K (Cs j)/\H x=some (.ins (Cs j) dx [])/\H r=some (.tup y)/\rd y us S /\∀H',Zh x H H'->N4 H' Cs x j S->Q .non H'
def Wq(y us:List V)(S:Sx):Prop:=∃a b c d i,y=[.str a,.str b,c,d]/\us=[.int i]/\S=outS y i
def QA(y us:List V)(S:Sx):Prop:=∃a b c d e f,y=[.str a,.str b,.int c,.str d,.int e,.int f]/\us=[]/\S=XX y
def Qy(y us:List V)(S:Sx):Prop:=∃a b c d e i,y=[.str a,.str b,.str c,.int d,.int e]/\us=[.int i]/\S=GD y i
def Qz(y us:List V)(S:Sx):Prop:=∃a b i,y=[.str a,b]/\us=[.int i]/\S=GF y i
theorem nof{K:PySem.W.Frag}{C:Addr}(Z:SCl K C){f:Str}(h:f∈fnames):ZZ K C f:=Z.na f h
mutual
theorem NP{H:Hp}{x:Addr}{o:HO}(hx:∀xs,H x≠some (.lst xs)/\H x≠some (.tup xs)):∀{v:V}{d:PyData},Is H v d->Is (upd H x o) v d
|_,_,.non=>.non
|_,_,.bl b=>.bl b
|_,_,.int i=>.int i
|_,_,.str z=>.str z
|_,_,.lst e r=>.lst (by rw[Zj (λz=>(hx _).1 (z▸e))];exact e) (UR hx r)
|_,_,.tup e r=>.tup (by rw[Zj (λz=>(hx _).2 (z▸e))];exact e) (UR hx r)
theorem UR{H:Hp}{x:Addr}{o:HO}(hx:∀xs,H x≠some (.lst xs)/\H x≠some (.tup xs)):∀{v:List V}{d:List PyData},IsAll H v d->IsAll (upd H x o) v d
|_,_,.nil=>.nil
|_,_,.cons h r=>.cons (NP hx h) (UR hx r)
end
theorem step_of{H:Hp}{Cs:Nat->Addr}{x dx k:Addr}{j:Nat}{S:Sx}{vt vh:V}{fs:List (Str×V)}(hx:H x=some (.ins (Cs j) dx fs))(hk:H k=some (.tup (S.key.map kV)))(ht:Is H vt S.tail)(hh:Is H vh S.head):N4 (upd H x (.ins (Cs j) dx (flds (.ref k) vt vh S.room (.int S.price)))) Cs x j S:=by have kp:∀{v:V}{d:PyData},Is H v d->Is (upd H x (.ins (Cs j) dx (flds (.ref k) vt vh S.room (.int S.price)))) v d:=λh=>NP (λxs=>⟨(λz=>by rw[hx]at z;cases z),(λz=>by rw[hx]at z;cases z)⟩) h;exact⟨dx,k,vt,vh,Ze,by rw[Zj (ne_of hk hx (by intro z;cases z))];exact hk,kp ht,kp hh⟩
theorem pfl{f:Str}{v:V}{fs:List (Str×V)}{n:Nat}(h:fs.length<n):(putF f v fs).length<n+1:=by have:=Z6 f v fs;omega
theorem small{n:Nat}(h:n<10):n<1000:=by omega
section
variable {P:Program}{w:World}{K:PySem.W.Frag}{mg:Str->Option Value}{base:Heap}{Cb:Addr}{Cs:Nat->Addr}
theorem UG:FnScope ["self","key","tail","head","room","price"] ["self","key","tail","head","room","price"] (Zf T.m_Step___init__):=scO (by decide +kernel)
theorem WK{f:Addr}{fd:FuncData}(F:Fun K "__init__" "Step.__init__" T.m_Step___init__ f fd):FnOk P w K mg base CX0 1 f fd ["self","key","tail","head","room","price"] (Rz K):=by
 refine F.ok UG (λvs H Q E h=>?_) (λcdv A outer s H vs Q E hr h=>?_)
 ·obtain⟨x,C,dx,vk,vt,vh,vr,vp,rfl,_⟩:=h;rfl
 ·obtain⟨x,C,dx,vk,vt,vh,vr,vp,rfl,Z,hx,k⟩:=h;refine⟨_,(Zd (YQ (pv 0) (pv 1) rfl) (Zd (YQ (pv 0) (pv 2) rfl) (Zd (YQ (pv 0) (pv 3) rfl) (Zd (YQ (pv 0) (pv 4) rfl) (Zi (YQ (pv 0) (pv 5) rfl)))))),?_⟩;refine⟨_,rfl,_,rfl,x,C,dx,_,rfl,hx,Z.cl,nof Z (by decide +kernel),by decide,?_⟩;refine⟨_,rfl,_,rfl,x,C,dx,_,rfl,Ze,Z.cl,nof Z (by decide +kernel),small (n:=_) (pfl (Nat.zero_lt_succ 8)),?_⟩;refine⟨_,rfl,_,rfl,x,C,dx,_,rfl,Ze,Z.cl,nof Z (by decide +kernel),small (n:=_) (pfl (pfl (Nat.zero_lt_succ 7))),?_⟩;refine⟨_,rfl,_,rfl,x,C,dx,_,rfl,Ze,Z.cl,nof Z (by decide +kernel),small (n:=_) (pfl (pfl (pfl (Nat.zero_lt_succ 6)))),?_⟩;refine⟨_,rfl,_,rfl,x,C,dx,_,rfl,Ze,Z.cl,nof Z (by decide +kernel),small (n:=_) (pfl (pfl (pfl (pfl (Nat.zero_lt_succ 5))))),?_⟩;simp only[Rn];exact k
theorem Vc:FnScope ["self","row","turn"] ["self","row","turn"] (Zf T.m_SetOut___init__):=scO (by decide +kernel)
theorem Dz{f:Addr}{fd:FuncData}(CB:CanB P w K mg base Cb)(F:Fun K "__init__" "SetOut.__init__" T.m_SetOut___init__ f fd):FnOk P w K mg base CX0 2 f fd ["self","row","turn"] (spMk K Cs 0 Wq):=by
 obtain⟨f1,fd1,F1,b1,bd1⟩:=CB.at_;refine F.ok Vc (λvs H Q E h=>?_) (λcdv A outer s H vs Q E hr h=>?_)
 ·obtain⟨x,dx,r,y,us,S,rfl,_,_,_,⟨a,b,c,d,i,_,rfl,_⟩,_⟩:=h;rfl
 ·obtain⟨x,dx,r,y,us,S,rfl,Z,hx,hy,⟨a,b,c,d,i,rfl,rfl,rfl⟩,k⟩:=h;refine' ⟨_,(@Zi _ _ _ ?h6),?rd⟩;case' h6=>refine' (Yz (Gu (ZO (v:=.ref Cb) rfl CB.mg rfl) b1 F1 (hr.mono (by decide)) bd1 .nil Z1 (@Za _ _ _ _ _ (pv 0) (@Za _ _ _ _ _ ?h5 (@Za _ _ _ _ _ ?h3 (@Za _ _ _ _ _ ?h2 (@Za _ _ _ _ _ ZI (@Za _ _ _ _ _ Zc Zb (by rfl)) (by rfl)) (by rfl)) (by rfl)) (by rfl)) (by rfl))))
  case' h5=>refine' (@Zy _ _ _ _ _ (@Za _ _ _ _ _ Zr (@Za _ _ _ _ _ ?h4 (@Za _ _ _ _ _ (pv 2) Zb (by rfl)) (by rfl)) (by rfl)))
  case' h4=>refine' (@it _ _ _ _ _ _ K (pv 1) Zc (by rfl) (by exact λ_ _=>rfl))
  case' h3=>refine' (@it _ _ _ _ _ _ K (pv 1) Zc (by rfl) (by exact λ_ _=>rfl))
  case' h2=>refine' (@Zy _ _ _ _ _ (@Za _ _ _ _ _ ?h1 (@Za _ _ _ _ _ (pv 2) Zb (by rfl)) (by rfl)))
  case' h1=>refine' (@it _ _ _ _ _ _ K (pv 1) Zc (by rfl) (by exact λ_ _=>rfl))
  have at0:atI [V.str a,.str b,c,d] 0=some (.str a):=Zn (j:=0) rfl;have at1:atI [V.str a,.str b,c,d] 1=some (.str b):=Zn (j:=1) rfl;refine⟨_,rfl,_,rfl,r,_,0,_,rfl,rfl,SqT.of hy,at0,_,rfl,zl,λq1 h1=>?_⟩;dsimp only[tNil];refine nl2 h1 λH1 S1 e1=>?_;refine⟨_,rfl,r,_,0,_,rfl,rfl,SqT.of (S1 _ _ hy),at0,_,rfl,r,_,1,_,rfl,rfl,SqT.of (S1 _ _ hy),at1,_,rfl,zl,λq2 h2=>?_⟩;dsimp only[tNil];refine nl2 h2 λH2 S2 e2=>?_;have S12:=S1.trans S2;refine⟨x,Cs 0,dx,_,_,_,_,_,rfl,Z,S12 _ _ hx,k _ ?_ ?_⟩
  ·exact λc o e hc=>by rw[Zj hc];exact S12 _ _ e
  ·exact step_of (S:=outS [.str a,.str b,c,d] i) (S12 _ _ hx) (S2 _ _ e1) (.str _) (.tup e2 (.cons (.str _) (.cons (.int _) .nil)))
theorem YW:FnScope ["self","row","leave","come"] ["self","row"] (Zf T.m_Ride___init__):=scO (by decide +kernel)
theorem K5{f:Addr}{fd:FuncData}(CB:CanB P w K mg base Cb)(F:Fun K "__init__" "Ride.__init__" T.m_Ride___init__ f fd):FnOk P w K mg base CX0 2 f fd ["self","row"] (spMk K Cs 1 QA):=by
 obtain⟨f1,fd1,F1,b1,bd1⟩:=CB.at_;refine F.ok YW (λvs H Q E h=>?_) (λcdv A outer s H vs Q E hr h=>?_)
 ·obtain⟨x,dx,r,y,us,S,rfl,_,_,_,⟨_,_,_,_,_,_,_,rfl,_⟩,_⟩:=h;rfl
 ·obtain⟨x,dx,r,y,us,S,rfl,Z,hx,hy,⟨a,b,c,d,e,g,rfl,rfl,rfl⟩,k⟩:=h;refine' ⟨_,(@Zd _ _ _ _ _ ?h10 (@Zd _ _ _ _ _ ?h11 (@Zi _ _ _ ?h12))),?rd⟩;case' h12=>refine' (Yz (Gu (ZO (v:=.ref Cb) rfl CB.mg rfl) b1 F1 (hr.mono (by decide)) bd1 .nil Z1 (@Za _ _ _ _ _ (pv 0) (@Za _ _ _ _ _ ?h9 (@Za _ _ _ _ _ ?h7 (@Za _ _ _ _ _ ?h5 (@Za _ _ _ _ _ ?h3 (@Za _ _ _ _ _ (Zx Jk (pv 3) (pv 2)) Zb (by rfl)) (by rfl)) (by rfl)) (by rfl)) (by rfl)) (by rfl))))
  case' h11=>refine' (@st _ _ _ _ 3 _ _ YW.nd ?h2 (by rfl) (by exact Or.inl rfl) (by rfl) (by exact .inl rfl))
  case' h10=>refine' (@st _ _ _ _ 2 _ _ YW.nd ?h1 (by rfl) (by exact Or.inl rfl) (by rfl) (by exact .inl rfl))
  case' h9=>refine' (@Zy _ _ _ _ _ (@Za _ _ _ _ _ Zr (@Za _ _ _ _ _ ?h8 Zb (by rfl)) (by rfl)))
  case' h8=>refine' (@it _ _ _ _ _ _ K (pv 1) Zc (by rfl) (by exact λ_ _=>rfl))
  case' h7=>refine' (@Zy _ _ _ _ _ (@Za _ _ _ _ _ ?h6 (@Za _ _ _ _ _ (pv 2) Zb (by rfl)) (by rfl)))
  case' h6=>refine' (@it _ _ _ _ _ _ K (pv 1) Zc (by rfl) (by exact λ_ _=>rfl))
  case' h5=>refine' (@Zy _ _ _ _ _ (@Za _ _ _ _ _ ?h4 (@Za _ _ _ _ _ (pv 3) Zb (by rfl)) (by rfl)))
  case' h4=>refine' (@it _ _ _ _ _ _ K (pv 1) Zc (by rfl) (by exact λ_ _=>rfl))
  case' h3=>refine' (@it _ _ _ _ _ _ K (pv 1) Zc (by rfl) (by exact λ_ _=>rfl))
  case' h2=>refine' (@it _ _ _ _ _ _ K (pv 1) Zc (by rfl) (by exact λ_ _=>rfl))
  case' h1=>refine' (@it _ _ _ _ _ _ K (pv 1) Zc (by rfl) (by exact λ_ _=>rfl))
  have at0:atI [V.str a,.str b,.int c,.str d,.int e,.int g] 0=some (.str a):=Zn (j:=0) rfl;have at1:atI [V.str a,.str b,.int c,.str d,.int e,.int g] 1=some (.str b):=Zn (j:=1) rfl;have at2:atI [V.str a,.str b,.int c,.str d,.int e,.int g] 2=some (.int c):=Zn (j:=2) rfl;have at3:atI [V.str a,.str b,.int c,.str d,.int e,.int g] 3=some (.str d):=Zn (j:=3) rfl;have at4:atI [V.str a,.str b,.int c,.str d,.int e,.int g] 4=some (.int e):=Zn (j:=4) rfl;have at5:atI [V.str a,.str b,.int c,.str d,.int e,.int g] 5=some (.int g):=Zn (j:=5) rfl;refine⟨_,rfl,r,_,2,_,rfl,rfl,SqT.of hy,at2,?_⟩;refine⟨_,rfl,r,_,4,_,rfl,rfl,SqT.of hy,at4,?_⟩;refine⟨_,rfl,_,rfl,r,_,0,_,rfl,rfl,SqT.of hy,at0,zl,λq1 h1=>?_⟩;dsimp only[tNil];refine nl2 h1 λH1 S1 e1=>?_;refine⟨_,rfl,r,_,1,_,rfl,rfl,SqT.of (S1 _ _ hy),at1,_,rfl,zl,λq2 h2=>?_⟩;dsimp only[tNil];refine nl2 h2 λH2 S2 e2=>?_;have S12:=S1.trans S2;refine⟨_,rfl,r,_,3,_,rfl,rfl,SqT.of (S12 _ _ hy),at3,_,rfl,zl,λq3 h3=>?_⟩;dsimp only[tNil];refine nl2 h3 λH3 S3 e3=>?_;have S13:=S12.trans S3;refine⟨_,rfl,r,_,5,_,rfl,rfl,SqT.of (S13 _ _ hy),at5,_,rfl,_,rfl,_,_,rfl,rfl,?_⟩;refine⟨x,Cs 1,dx,_,_,_,_,_,rfl,Z,S13 _ _ hx,k _ ?_ ?_⟩
  ·exact λc o e hc=>by rw[Zj hc];exact S13 _ _ e
  ·exact step_of (S:=XX [.str a,.str b,.int c,.str d,.int e,.int g]) (S13 _ _ hx) (S3 _ _ (S2 _ _ e1)) (.tup (S3 _ _ e2) (.cons (.str _) (.cons (.int _) .nil))) (.tup e3 (.cons (.str _) (.cons (.int _) .nil)))
theorem XW:FnScope ["self","row","turn","long"] ["self","row","turn"] (Zf T.m_Walk___init__):=scO (by decide +kernel)
theorem K3{f:Addr}{fd:FuncData}(CB:CanB P w K mg base Cb)(F:Fun K "__init__" "Walk.__init__" T.m_Walk___init__ f fd):FnOk P w K mg base CX0 2 f fd ["self","row","turn"] (spMk K Cs 2 Qy):=by
 obtain⟨f1,fd1,F1,b1,bd1⟩:=CB.at_;refine F.ok XW (λvs H Q E h=>?_) (λcdv A outer s H vs Q E hr h=>?_)
 ·obtain⟨x,dx,r,y,us,S,rfl,_,_,_,⟨_,_,_,_,_,_,_,rfl,_⟩,_⟩:=h;rfl
 ·obtain⟨x,dx,r,y,us,S,rfl,Z,hx,hy,⟨a,b,c,d,e,i,rfl,rfl,rfl⟩,k⟩:=h;refine' ⟨_,(@Zd _ _ _ _ _ ?h9 (@Zi _ _ _ ?h10)),?rd⟩;case' h10=>refine' (Yz (Gu (ZO (v:=.ref Cb) rfl CB.mg rfl) b1 F1 (hr.mono (by decide)) bd1 .nil Z1 (@Za _ _ _ _ _ (pv 0) (@Za _ _ _ _ _ ?h8 (@Za _ _ _ _ _ ?h6 (@Za _ _ _ _ _ ?h4 (@Za _ _ _ _ _ ?h2 (@Za _ _ _ _ _ (pv 3) Zb (by rfl)) (by rfl)) (by rfl)) (by rfl)) (by rfl)) (by rfl))))
  case' h9=>refine' (@st _ _ _ _ 3 _ _ XW.nd ?h1 (by rfl) (by exact Or.inl rfl) (by rfl) (by exact .inl rfl))
  case' h8=>refine' (@Zy _ _ _ _ _ (@Za _ _ _ _ _ Zr (@Za _ _ _ _ _ ?h7 (@Za _ _ _ _ _ (pv 2) Zb (by rfl)) (by rfl)) (by rfl)))
  case' h7=>refine' (@it _ _ _ _ _ _ K (pv 1) Zc (by rfl) (by exact λ_ _=>rfl))
  case' h6=>refine' (@Zy _ _ _ _ _ (@Za _ _ _ _ _ ?h5 (@Za _ _ _ _ _ (pv 2) Zb (by rfl)) (by rfl)))
  case' h5=>refine' (@it _ _ _ _ _ _ K (pv 1) Zc (by rfl) (by exact λ_ _=>rfl))
  case' h4=>refine' (@Zy _ _ _ _ _ (@Za _ _ _ _ _ ?h3 (@Za _ _ _ _ _ (Zx Z3 (pv 2) (pv 3)) Zb (by rfl)) (by rfl)))
  case' h3=>refine' (@it _ _ _ _ _ _ K (pv 1) Zc (by rfl) (by exact λ_ _=>rfl))
  case' h2=>refine' (@it _ _ _ _ _ _ K (pv 1) Zc (by rfl) (by exact λ_ _=>rfl))
  case' h1=>refine' (@it _ _ _ _ _ _ K (pv 1) Zc (by rfl) (by exact λ_ _=>rfl))
  have at0:atI [V.str a,.str b,.str c,.int d,.int e] 0=some (.str a):=Zn (j:=0) rfl;have at1:atI [V.str a,.str b,.str c,.int d,.int e] 1=some (.str b):=Zn (j:=1) rfl;have at2:atI [V.str a,.str b,.str c,.int d,.int e] 2=some (.str c):=Zn (j:=2) rfl;have at3:atI [V.str a,.str b,.str c,.int d,.int e] 3=some (.int d):=Zn (j:=3) rfl;have at4:atI [V.str a,.str b,.str c,.int d,.int e] 4=some (.int e):=Zn (j:=4) rfl;refine⟨_,rfl,r,_,3,_,rfl,rfl,SqT.of hy,at3,?_⟩;refine⟨_,rfl,_,rfl,r,_,0,_,rfl,rfl,SqT.of hy,at0,_,rfl,zl,λq1 h1=>?_⟩;dsimp only[tNil];refine nl2 h1 λH1 S1 e1=>?_;refine⟨_,rfl,r,_,1,_,rfl,rfl,SqT.of (S1 _ _ hy),at1,_,rfl,zl,λq2 h2=>?_⟩;dsimp only[tNil];refine nl2 h2 λH2 S2 e2=>?_;have S12:=S1.trans S2;refine⟨_,rfl,r,_,2,_,rfl,rfl,SqT.of (S12 _ _ hy),at2,_,rfl,_,rfl,_,_,rfl,rfl,zl,λq3 h3=>?_⟩;dsimp only[tNil];refine nl2 h3 λH3 S3 e3=>?_;have S13:=S12.trans S3;refine⟨_,rfl,r,_,4,_,rfl,rfl,SqT.of (S13 _ _ hy),at4,_,rfl,?_⟩;refine⟨x,Cs 2,dx,_,_,_,_,_,rfl,Z,S13 _ _ hx,k _ ?_ ?_⟩
  ·exact λc o e hc=>by rw[Zj hc];exact S13 _ _ e
  ·exact step_of (S:=GD [.str a,.str b,.str c,.int d,.int e] i) (S13 _ _ hx) (S3 _ _ (S2 _ _ e1)) (.tup (S3 _ _ e2) (.cons (.str _) (.cons (.int _) .nil))) (.tup e3 (.cons (.str _) (.cons (.int _) .nil)))
theorem UC:FnScope ["self","row","turn"] ["self","row","turn"] (Zf T.m_Wait___init__):=scO (by decide +kernel)
theorem K4{f:Addr}{fd:FuncData}(CB:CanB P w K mg base Cb)(F:Fun K "__init__" "Wait.__init__" T.m_Wait___init__ f fd):FnOk P w K mg base CX0 2 f fd ["self","row","turn"] (spMk K Cs 3 Qz):=by
 obtain⟨f1,fd1,F1,b1,bd1⟩:=CB.at_;refine F.ok UC (λvs H Q E h=>?_) (λcdv A outer s H vs Q E hr h=>?_)
 ·obtain⟨x,dx,r,y,us,S,rfl,_,_,_,⟨_,_,_,_,rfl,_⟩,_⟩:=h;rfl
 ·obtain⟨x,dx,r,y,us,S,rfl,Z,hx,hy,⟨a,b,i,rfl,rfl,rfl⟩,k⟩:=h;refine' ⟨_,(@Zi _ _ _ ?h8),?rd⟩;case' h8=>refine' (Yz (Gu (ZO (v:=.ref Cb) rfl CB.mg rfl) b1 F1 (hr.mono (by decide)) bd1 .nil Z1 (@Za _ _ _ _ _ (pv 0) (@Za _ _ _ _ _ ?h7 (@Za _ _ _ _ _ ?h5 (@Za _ _ _ _ _ ?h3 (@Za _ _ _ _ _ ?h1 (@Za _ _ _ _ _ Zc Zb (by rfl)) (by rfl)) (by rfl)) (by rfl)) (by rfl)) (by rfl))))
  case' h7=>refine' (@Zy _ _ _ _ _ (@Za _ _ _ _ _ Zr (@Za _ _ _ _ _ ?h6 (@Za _ _ _ _ _ (pv 2) Zb (by rfl)) (by rfl)) (by rfl)))
  case' h6=>refine' (@it _ _ _ _ _ _ K (pv 1) Zc (by rfl) (by exact λ_ _=>rfl))
  case' h5=>refine' (@Zy _ _ _ _ _ (@Za _ _ _ _ _ ?h4 (@Za _ _ _ _ _ (pv 2) Zb (by rfl)) (by rfl)))
  case' h4=>refine' (@it _ _ _ _ _ _ K (pv 1) Zc (by rfl) (by exact λ_ _=>rfl))
  case' h3=>refine' (@Zy _ _ _ _ _ (@Za _ _ _ _ _ ?h2 (@Za _ _ _ _ _ (Zx Z3 (pv 2) Zc) Zb (by rfl)) (by rfl)))
  case' h2=>refine' (@it _ _ _ _ _ _ K (pv 1) Zc (by rfl) (by exact λ_ _=>rfl))
  case' h1=>refine' (@it _ _ _ _ _ _ K (pv 1) Zc (by rfl) (by exact λ_ _=>rfl))
  have at0:atI [V.str a,b] 0=some (.str a):=Zn (j:=0) rfl;have at1:atI [V.str a,b] 1=some b:=Zn (j:=1) rfl;refine⟨_,rfl,_,rfl,r,_,0,_,rfl,rfl,SqT.of hy,at0,_,rfl,zl,λq1 h1=>?_⟩;dsimp only[tNil];refine nl2 h1 λH1 S1 e1=>?_;refine⟨_,rfl,r,_,0,_,rfl,rfl,SqT.of (S1 _ _ hy),at0,_,rfl,zl,λq2 h2=>?_⟩;dsimp only[tNil];refine nl2 h2 λH2 S2 e2=>?_;have S12:=S1.trans S2;refine⟨_,rfl,r,_,0,_,rfl,rfl,SqT.of (S12 _ _ hy),at0,_,rfl,_,_,rfl,rfl,zl,λq3 h3=>?_⟩;dsimp only[tNil];refine nl2 h3 λH3 S3 e3=>?_;have S13:=S12.trans S3;refine⟨_,rfl,r,_,1,_,rfl,rfl,SqT.of (S13 _ _ hy),at1,?_⟩;refine⟨x,Cs 3,dx,_,_,_,_,_,rfl,Z,S13 _ _ hx,k _ ?_ ?_⟩
  ·exact λc o e hc=>by rw[Zj hc];exact S13 _ _ e
  ·exact step_of (S:=GF [.str a,b] i) (S13 _ _ hx) (S3 _ _ (S2 _ _ e1)) (.tup (S3 _ _ e2) (.cons (.str _) (.cons (.int _) .nil))) (.tup e3 (.cons (.str _) (.cons (.int _) .nil)))
end
def J2(K:PySem.W.Frag)(f:Str):Sp:=λvs H Q _=>∃(x C dx:Addr)(fs:List (Str×V))(v:V),vs=[.ref x]/\SCl K C/\H x=some (.ins C dx fs)/\fs.lookup f=some v/\Q v H
def Jz(C:Addr)(fld:Str):Sp:=λvs H Q _=>∃t z T fs d kvs v,vs=[.ref t,.str z]/\Tab H C t fs/\fs.lookup fld=some (.ref d)/\H d=some (.dK kvs)/\Th H (.str z) T/\valV kvs (.inr z)=some v/\Q v H
theorem JF{z:Str}{kvs:List (Key×V)}{v:V}(h:valV kvs (.inr z)=some v):ZN (.str z) kvs=true:=by show(valV kvs (.inr z)).isSome=true;rw[h];rfl
section
variable {P:Program}{w:World}{K:PySem.W.Frag}{mg:Str->Option Value}{base:Heap}{C:Addr}
theorem Pk:FnScope ["self"] ["self"] (Zf T.m_Step_key):=scO (by decide +kernel)
theorem Ke(D:DfM K C "key" "Step.key" T.m_Step_key ["self"]):CanM P w K mg base CX0 1 C "key" ["self"] (J2 K "its_key"):=by
 refine D.can Pk (λvs H Q E h=>?_) λf cdv A outer s H vs Q E hr h=>?_
 ·obtain⟨x,C,dx,fs,v,rfl,_⟩:=h;rfl
 ·obtain⟨x,C,dx,fs,v,rfl,Z,hx,hl,k⟩:=h;refine⟨_,(Zi (Zo (ZL (pv 0) rfl))),?_⟩;exact⟨_,rfl,x,C,dx,fs,_,rfl,hx,Z.cl,nof Z (by decide +kernel),hl,k⟩
theorem Nv:FnScope ["self"] ["self"] (Zf T.m_Step_tail):=scO (by decide +kernel)
theorem Tu(D:DfM K C "tail" "Step.tail" T.m_Step_tail ["self"]):CanM P w K mg base CX0 1 C "tail" ["self"] (J2 K "its_tail"):=by
 refine D.can Nv (λvs H Q E h=>?_) λf cdv A outer s H vs Q E hr h=>?_
 ·obtain⟨x,C,dx,fs,v,rfl,_⟩:=h;rfl
 ·obtain⟨x,C,dx,fs,v,rfl,Z,hx,hl,k⟩:=h;refine⟨_,(Zi (Zo (ZL (pv 0) rfl))),?_⟩;exact⟨_,rfl,x,C,dx,fs,_,rfl,hx,Z.cl,nof Z (by decide +kernel),hl,k⟩
theorem Ny:FnScope ["self"] ["self"] (Zf T.m_Step_head):=scO (by decide +kernel)
theorem Tx(D:DfM K C "head" "Step.head" T.m_Step_head ["self"]):CanM P w K mg base CX0 1 C "head" ["self"] (J2 K "its_head"):=by
 refine D.can Ny (λvs H Q E h=>?_) λf cdv A outer s H vs Q E hr h=>?_
 ·obtain⟨x,C,dx,fs,v,rfl,_⟩:=h;rfl
 ·obtain⟨x,C,dx,fs,v,rfl,Z,hx,hl,k⟩:=h;refine⟨_,(Zi (Zo (ZL (pv 0) rfl))),?_⟩;exact⟨_,rfl,x,C,dx,fs,_,rfl,hx,Z.cl,nof Z (by decide +kernel),hl,k⟩
theorem Nx:FnScope ["self"] ["self"] (Zf T.m_Step_room):=scO (by decide +kernel)
theorem Tv(D:DfM K C "room" "Step.room" T.m_Step_room ["self"]):CanM P w K mg base CX0 1 C "room" ["self"] (J2 K "its_room"):=by
 refine D.can Nx (λvs H Q E h=>?_) λf cdv A outer s H vs Q E hr h=>?_
 ·obtain⟨x,C,dx,fs,v,rfl,_⟩:=h;rfl
 ·obtain⟨x,C,dx,fs,v,rfl,Z,hx,hl,k⟩:=h;refine⟨_,(Zi (Zo (ZL (pv 0) rfl))),?_⟩;exact⟨_,rfl,x,C,dx,fs,_,rfl,hx,Z.cl,nof Z (by decide +kernel),hl,k⟩
theorem MA:FnScope ["self"] ["self"] (Zf T.m_Step_price):=scO (by decide +kernel)
theorem QZ(D:DfM K C "price" "Step.price" T.m_Step_price ["self"]):CanM P w K mg base CX0 1 C "price" ["self"] (J2 K "its_price"):=by
 refine D.can MA (λvs H Q E h=>?_) λf cdv A outer s H vs Q E hr h=>?_
 ·obtain⟨x,C,dx,fs,v,rfl,_⟩:=h;rfl
 ·obtain⟨x,C,dx,fs,v,rfl,Z,hx,hl,k⟩:=h;refine⟨_,(Zi (Zo (ZL (pv 0) rfl))),?_⟩;exact⟨_,rfl,x,C,dx,fs,_,rfl,hx,Z.cl,nof Z (by decide +kernel),hl,k⟩
theorem Vv:FnScope ["self","name"] ["self","name"] (Zf T.m_Table_ride_row):=scO (by decide +kernel)
theorem MC(Z:TCl K C)(CP:CanM P w K mg base CX0 2 C "is_ride" ["self","thing"] (Xh C "ride_by_name"))(D:DfM K C "ride_row" "Table.ride_row" T.m_Table_ride_row ["self","name"]):CanM P w K mg base CX0 3 C "ride_row" ["self","name"] (Jz C "ride_by_name"):=by
 refine D.can Vv (λvs H Q E h=>?_) λf cdv A outer s H vs Q E hr h=>?_
 ·obtain⟨t,z,T',fs,d,kvs,v,rfl,_⟩:=h;rfl
 ·obtain⟨t,z,T',fs,d,kvs,v,rfl,tb,hl,hd,th,hv,k⟩:=h;obtain⟨dx,ht⟩:=id tb.at_;refine⟨_,(Zd (ZH (ZQ (ZD (ZW CP Z.cl Z1 (hr.mono (by decide)) (pv 0) (Za (pv 1) Zb)))) (Zi VD) Zv) (Zi (Zo (JO (Y7 hr) (ZL (pv 0) rfl) (pv 1) (λ_ _=>rfl))))),?_⟩;refine⟨_,rfl,t,dx,fs,rfl,ht,tb.only _ (by decide +kernel),_,rfl,t,_,T',fs,d,kvs,rfl,tb,hl,hd,th,_,rfl,?_⟩;rw[JF hv];refine iteF ?_;exact⟨_,rfl,t,C,dx,fs,_,rfl,ht,Z.cl,Z.na _ (by simp[fields]),hl,_,rfl,d,v,rfl,(by rw[<-hv];exact DGet.k (k:=Sum.inr z) hd),k⟩
theorem UD:FnScope ["self","name"] ["self","name"] (Zf T.m_Table_way_row):=scO (by decide +kernel)
theorem NT(Z:TCl K C)(CP:CanM P w K mg base CX0 2 C "is_way" ["self","thing"] (Xh C "way_by_name"))(D:DfM K C "way_row" "Table.way_row" T.m_Table_way_row ["self","name"]):CanM P w K mg base CX0 3 C "way_row" ["self","name"] (Jz C "way_by_name"):=by
 refine D.can UD (λvs H Q E h=>?_) λf cdv A outer s H vs Q E hr h=>?_
 ·obtain⟨t,z,T',fs,d,kvs,v,rfl,_⟩:=h;rfl
 ·obtain⟨t,z,T',fs,d,kvs,v,rfl,tb,hl,hd,th,hv,k⟩:=h;obtain⟨dx,ht⟩:=id tb.at_;refine⟨_,(Zd (ZH (ZQ (ZD (ZW CP Z.cl Z1 (hr.mono (by decide)) (pv 0) (Za (pv 1) Zb)))) (Zi VD) Zv) (Zi (Zo (JO (Y7 hr) (ZL (pv 0) rfl) (pv 1) (λ_ _=>rfl))))),?_⟩;refine⟨_,rfl,t,dx,fs,rfl,ht,tb.only _ (by decide +kernel),_,rfl,t,_,T',fs,d,kvs,rfl,tb,hl,hd,th,_,rfl,?_⟩;rw[JF hv];refine iteF ?_;exact⟨_,rfl,t,C,dx,fs,_,rfl,ht,Z.cl,Z.na _ (by simp[fields]),hl,_,rfl,d,v,rfl,(by rw[<-hv];exact DGet.k (k:=Sum.inr z) hd),k⟩
theorem Vb:FnScope ["self","name"] ["self","name"] (Zf T.m_Table_group_row):=scO (by decide +kernel)
theorem Mq(Z:TCl K C)(CP:CanM P w K mg base CX0 2 C "is_group" ["self","thing"] (Xh C "group_by_name"))(D:DfM K C "group_row" "Table.group_row" T.m_Table_group_row ["self","name"]):CanM P w K mg base CX0 3 C "group_row" ["self","name"] (Jz C "group_by_name"):=by
 refine D.can Vb (λvs H Q E h=>?_) λf cdv A outer s H vs Q E hr h=>?_
 ·obtain⟨t,z,T',fs,d,kvs,v,rfl,_⟩:=h;rfl
 ·obtain⟨t,z,T',fs,d,kvs,v,rfl,tb,hl,hd,th,hv,k⟩:=h;obtain⟨dx,ht⟩:=id tb.at_;refine⟨_,(Zd (ZH (ZQ (ZD (ZW CP Z.cl Z1 (hr.mono (by decide)) (pv 0) (Za (pv 1) Zb)))) (Zi VD) Zv) (Zi (Zo (JO (Y7 hr) (ZL (pv 0) rfl) (pv 1) (λ_ _=>rfl))))),?_⟩;refine⟨_,rfl,t,dx,fs,rfl,ht,tb.only _ (by decide +kernel),_,rfl,t,_,T',fs,d,kvs,rfl,tb,hl,hd,th,_,rfl,?_⟩;rw[JF hv];refine iteF ?_;exact⟨_,rfl,t,C,dx,fs,_,rfl,ht,Z.cl,Z.na _ (by simp[fields]),hl,_,rfl,d,v,rfl,(by rw[<-hv];exact DGet.k (k:=Sum.inr z) hd),k⟩
theorem UE:FnScope ["self","name"] ["self","name"] (Zf T.m_Table_room_of):=scO (by decide +kernel)
theorem NU(Z:TCl K C)(CP:CanM P w K mg base CX0 2 C "is_place" ["self","thing"] (Xh C "room_by_place"))(D:DfM K C "room_of" "Table.room_of" T.m_Table_room_of ["self","name"]):CanM P w K mg base CX0 3 C "room_of" ["self","name"] (Jz C "room_by_place"):=by
 refine D.can UE (λvs H Q E h=>?_) λf cdv A outer s H vs Q E hr h=>?_
 ·obtain⟨t,z,T',fs,d,kvs,v,rfl,_⟩:=h;rfl
 ·obtain⟨t,z,T',fs,d,kvs,v,rfl,tb,hl,hd,th,hv,k⟩:=h;obtain⟨dx,ht⟩:=id tb.at_;refine⟨_,(Zd (ZH (ZQ (ZD (ZW CP Z.cl Z1 (hr.mono (by decide)) (pv 0) (Za (pv 1) Zb)))) (Zi VD) Zv) (Zi (Zo (JO (Y7 hr) (ZL (pv 0) rfl) (pv 1) (λ_ _=>rfl))))),?_⟩;refine⟨_,rfl,t,dx,fs,rfl,ht,tb.only _ (by decide +kernel),_,rfl,t,_,T',fs,d,kvs,rfl,tb,hl,hd,th,_,rfl,?_⟩;rw[JF hv];refine iteF ?_;exact⟨_,rfl,t,C,dx,fs,_,rfl,ht,Z.cl,Z.na _ (by simp[fields]),hl,_,rfl,d,v,rfl,(by rw[<-hv];exact DGet.k (k:=Sum.inr z) hd),k⟩
end
structure Ask(H:Hp)(fs:List (Str×V))(fld:Str)(t:List (List V))(d:Addr)(kvs:Kv):Prop where
 fld:fs.lookup fld=some (.ref d)
 at_:H d=some (.dK kvs)
 yes:∀y∈t,∃a,valV kvs (.inr (nameOf y))=some (.ref a)/\H a=some (.tup y)
 no:∀z,z∉t.map nameOf->valV kvs (.inr z)=none
theorem Rf{H:Hp}{fs:List (Str×V)}{f g:Str}{t:List (List V)}{xs:List V}{k:Kv}(h:Z0 H fs f g (prs xs t) k)(r:Yq H xs (t.map some))(D:RwDict k t xs):∃d,Ask H fs g t d k:=by
 obtain⟨l,d,ys,rs,a1,a2,a3,a4,a5⟩:=h;refine⟨d,a2,a5,λy hy=>?_,D.no⟩;obtain⟨i,hi⟩:=List.mem_iff_getElem?.mp hy;have hlt:i<t.length:=(List.getElem?_eq_some_iff.mp hi).1;have hx:i<xs.length:=by rw[r.1,List.length_map];exact hlt
 have e1:xs[i]?=some xs[i]:=List.getElem?_eq_getElem hx;obtain⟨a,ea,ha,_⟩:=r.2 i _ _ e1 (show(t.map some)[i]?=some (some y) by rw[List.getElem?_map,hi];rfl);exact⟨a,by rw[<-ea];exact D.at_ i y _ hi e1,ha⟩
structure Asks(H:Hp)(C t:Addr)(T:Tb)(fs:List (Str×V)):Prop where
 tab:Tab H C t fs
 turns:fs.lookup ("turns":Str)=some (.int T.n)
 r:∃d k,Ask H fs "ride_by_name" T.t2 d k
 w:∃d k,Ask H fs "way_by_name" T.t3 d k
 g:∃d k,Ask H fs "group_by_name" T.t4 d k
 p:∃d k,fs.lookup ("room_by_place":Str)=some (.ref d)/\H d=some (.dK k)/\PlDict k T.t1
theorem Vs{H:Hp}{C t:Addr}{T:Tb}(h:Tel H C t T):∃fs,Asks H C t T fs:=by
 obtain⟨fs,x1,x2,x3,x4,k,tp,d⟩:=h;refine⟨fs,tp.tab.tab,tp.tab.turns,?_,?_,?_,?_⟩
 ·obtain⟨dd,a⟩:=Rf tp.tab.r (tp.rows _ (.inr (.inl rfl)) _ _ rfl) d.r;exact⟨dd,_,a⟩
 ·obtain⟨dd,a⟩:=Rf tp.tab.w (tp.rows _ (.inr (.inr (.inl rfl))) _ _ rfl) d.w;exact⟨dd,_,a⟩
 ·obtain⟨dd,a⟩:=Rf tp.tab.g (tp.rows _ (.inr (.inr (.inr rfl))) _ _ rfl) d.g;exact⟨dd,_,a⟩
 ·obtain⟨l,dd,ys,rs,a1,a2,a3,a4,a5⟩:=tp.tab.p;exact⟨dd,_,a2,a5,d.p⟩
theorem U3{z:Str}(h:Atm (.str z)):GS z:=by cases h with|str h=>exact h
section
variable {T:Tb}(o:OkTb T)
include o
theorem NF{y:List V}(h:y∈T.t2):∃(a b d:Str)(c e f:Int),y=[.str a,.str b,.int c,.str d,.int e,.int f]/\GS a/\GS b/\GS d/\0<=c/\c+1<=e/\e<=T.n/\0<=f/\f<=1000:=by obtain⟨k1,hk⟩:=Gv o;obtain⟨e0,gs⟩:=X5 o (j:=2) (.inr (.inl rfl)) h;obtain⟨z,s,lv,g',cm,se,rfl,en,he,a1,a2,b1,b2,c1,c2⟩:=MR o h hk.has;obtain⟨q1,q2⟩:=VS o hk he;obtain⟨k1',k2',_⟩:=VR he;obtain⟨x,v,rfl,_⟩:=Z7 k1';obtain⟨x',v',rfl,_⟩:=Z7 k2';rw[en]at gs;exact⟨z,x,x',lv,cm,se,rfl,gs,U3 q1,U3 q2,a1,b1,b2,c1,c2⟩
theorem RF{y:List V}(h:y∈T.t3):∃(a b c:Str)(d e:Int),y=[.str a,.str b,.str c,.int d,.int e]/\GS a/\GS b/\GS c/\1<=d/\d<=50/\0<=e/\e<=1000:=by obtain⟨k1,hk⟩:=Gv o;obtain⟨e0,gs⟩:=X5 o (j:=3) (.inr (.inr (.inl rfl))) h;have r:=UI o (j:=3) (.inr (.inr (.inl rfl))) h;have hw:=r.why k1 (λ_=>hk.has);obtain⟨a,b,c,d,e,rfl⟩:=len5 r.len;obtain⟨he,h1,h2⟩:=Rk (hw 0 (λz=>by cases z):wayV k1 b c d e=.non);obtain⟨q1,q2⟩:=VS o hk he;obtain⟨k1',k2',_⟩:=VR he;obtain⟨x,v,rfl,_⟩:=Z7 k1';obtain⟨x',v',rfl,_⟩:=Z7 k2';obtain⟨i,rfl,i0,i1⟩:=within_int h1;obtain⟨j,rfl,j0,j1⟩:=within_int h2;have ea:a=.str (nameOf [a,.str x,.str x',.int i,.int j]):=e0;exact⟨_,x,x',i,j,congrArg (λq=>[q,.str x,.str x',.int i,.int j]) ea,gs,U3 q1,U3 q2,i0,i1,j0,j1⟩
theorem Gp{y:List V}(h:y∈T.t4):∃(a b:Str)(c d:Int),y=[.str a,.str b,.int c,.int d]/\GS a/\GS b/\0<=c/\c<=T.n/\0<=d/\d<=300:=by obtain⟨k1,hk⟩:=Gv o;obtain⟨e0,gs⟩:=X5 o (j:=4) (.inr (.inr (.inr rfl))) h;have r:=UI o (j:=4) (.inr (.inr (.inr rfl))) h;have hw:=r.why k1 (λ_=>hk.has);obtain⟨a,b,c,d,rfl⟩:=len4 r.len;obtain⟨h1,h2,i,rfl,i0,i1⟩:=Ge (hw (300-Ym [a,b,c,d]) (λ_=>by omega):YZ k1 T.n _ b c d=.non);have q1:=JR o hk h1;obtain⟨x,v,rfl,_⟩:=Z7 h1;obtain⟨t,rfl,t0,t1⟩:=within_int h2;have ea:a=.str (nameOf [a,.str x,.int t,.int i]):=e0;exact⟨_,x,t,i,congrArg (λq=>[q,.str x,.int t,.int i]) ea,gs,U3 q1,t0,t1,i0,i1⟩
end
theorem Pr{T:Tb}{x v:V}{j:Nat}{S:Sx}(h:ZU T [.str "out",x,v] j S):∃y∈T.t4,∃i,x=.str (nameOf y)/\v=.int i/\iA y 2<=i/\i<=T.n:=by
 obtain⟨w1,w2,w3,w4,w5,w6⟩:=Vp;rcases h with⟨y,hy,i,e,h1,h2,_⟩|⟨y,hy,e,_⟩|⟨y,hy,i,e,_⟩|⟨y,hy,i,e,_⟩<;>simp only[List.cons.injEq,V.str.injEq,reduceCtorEq,and_true,and_false]at e
 ·exact⟨y,hy,i,e.2.1,e.2.2,h1,h2⟩
 ·exact absurd e.1 w1
 ·exact absurd e.1 w2
theorem MH{T:Tb}{x v:V}{j:Nat}{S:Sx}(h:ZU T [.str "walk",x,v] j S):∃y∈T.t3,∃i,x=.str (nameOf y)/\v=.int i/\0<=i/\i<=T.n-iA y 3:=by
 obtain⟨w1,w2,w3,w4,w5,w6⟩:=Vp;rcases h with⟨y,hy,i,e,h1,h2,_⟩|⟨y,hy,e,_⟩|⟨y,hy,i,e,h1,h2,_⟩|⟨y,hy,i,e,_⟩<;>simp only[List.cons.injEq,V.str.injEq,reduceCtorEq,and_true,and_false]at e
 ·exact absurd e.1.symm w1
 ·exact⟨y,hy,i,e.2.1,e.2.2,h1,h2⟩
 ·exact absurd e.1 w3
theorem Uw{T:Tb}{x v:V}{j:Nat}{S:Sx}(h:ZU T [.str "wait",x,v] j S):∃y∈T.t1,∃i,x=.str (nameOf y)/\v=.int i/\at_ y 1≠.non/\0<=i/\i<=T.n-1:=by
 obtain⟨w1,w2,w3,w4,w5,w6⟩:=Vp;rcases h with⟨y,hy,i,e,h1,h2,_⟩|⟨y,hy,e,_⟩|⟨y,hy,i,e,h1,h2,_⟩|⟨y,hy,i,e,h0,h1,h2,_⟩<;>simp only[List.cons.injEq,V.str.injEq,reduceCtorEq,and_true,and_false]at e
 ·exact absurd e.1.symm w2
 ·exact absurd e.1.symm w3
 ·exact⟨y,hy,i,e.2.1,e.2.2,h0,h1,h2⟩
def Found(T:Tb)(vs:List V)(Cs:Nat->Addr)(H:Hp)(Q:VK):Prop:=(∀j S,ZU T vs j S->∀H' q,Same H H'->N4 H' Cs q j S->Q (.ref q) H')/\((∀j S,¬ZU T vs j S)->∀H',Same H H'->Q .non H')
def spOf(C:Addr)(Cs:Nat->Addr)(z:Str):Sp:=λvs H Q _=>∃(t:Addr)(x v:V)(T:Tb)(T1 T2:String),vs=[.ref t,x,v]/\Tel H C t T/\OkTb T/\Th H x T1/\Th H v T2/\Found T [.str z,x,v] Cs H Q
theorem JN{H H':Hp}{x dx C:Addr}(hx:H x=none)(hd:H dx=none)(s:Zh x (upd (upd H dx (.own x)) x (.ins C dx [])) H'):Same H H':=λc o e=>by have n1:c≠x:=Zk e hx;have n2:c≠dx:=Zk e hd;exact s c o (by rw[Zj n1,Zj n2];exact e) n1
theorem Vr{H:Hp}{x dx C a:Addr}{ys:List V}(hx:H x=none)(hd:H dx=none)(e:H a=some (.tup ys)):upd (upd H dx (.own x)) x (.ins C dx []) a=some (.tup ys):=by rw[Zj (Zk e hx),Zj (Zk e hd)];exact e
theorem NM{kvs:Kv}{t:List (List V)}{x:V}(hk:∀y∈t,∃a,valV kvs (.inr (nameOf y))=some a)(e:ZN x kvs=false):∀y∈t,x≠.str (nameOf y):=λy hy z=>by obtain⟨a,ha⟩:=hk y hy;rw[z,JF ha]at e;cases e
theorem in_of{kvs:Kv}{t:List (List V)}(no:∀z,z∉t.map nameOf->valV kvs (.inr z)=none){z:Str}{v:V}(h:valV kvs (.inr z)=some v):∃y∈t,nameOf y=z:=by
 by_cases hz:z∈t.map nameOf
 ·obtain⟨y,hy,e⟩:=List.mem_map.mp hz;exact⟨y,hy,e⟩
 ·rw[no z hz]at h;cases h
section
variable {P:Program}{w:World}{K:PySem.W.Frag}{mg:Str->Option Value}{base:Heap}{C:Addr}{Cs:Nat->Addr}
theorem J3:FnScope ["table","name","turn","row"] ["table","name","turn"] (Zf T.f_set_out_of):=scO (by decide +kernel)
theorem Q0(Z:TCl K C)(ZS:∀j,j<4->SCl K (Cs j))(M:SMk P w K mg base "SetOut" (Cs 0) ["self","row","turn"] (spMk K Cs 0 Wq))(CG:CanM P w K mg base CX0 2 C "is_group" ["self","thing"] (Xh C "group_by_name"))(CR:CanM P w K mg base CX0 3 C "group_row" ["self","name"] (Jz C "group_by_name"))(CI:Can P w K mg base 2 "is_within" ["thing","low","high"] K1.YM)(D:Df K mg "set_out_of" T.f_set_out_of ["table","name","turn"]):Can P w K mg base 4 "set_out_of" ["table","name","turn"] (spOf C Cs "out"):=by
 obtain⟨fm,fdm,hM,FM,bM⟩:=M.made;refine D.can J3 (λvs H Q E h=>?_) (λf cdv A outer s H vs Q E hr h=>?_)
 ·obtain⟨t,x,v,T,T1,T2,rfl,_⟩:=h;rfl
 ·obtain⟨t,x,v,T,T1,T2,rfl,tel,ok,th1,th2,k1,k2⟩:=h;obtain⟨fs,ak⟩:=Vs tel;obtain⟨d,kvs,ag⟩:=ak.g;obtain⟨dx,ht⟩:=ak.tab.at_;refine⟨_,(Zd (ZH (ZQ (ZD (ZW CG Z.cl Z1 (hr.mono (by decide)) (pv 0) (Za (pv 1) Zb)))) (Zi (Zo ZI)) Zv) (Zd (st 3 J3.nd (ZW CR Z.cl Z1 (hr.mono (by decide)) (pv 0) (Za (pv 1) Zb))) (Zi (Zo (VH (ZD (cn CI hr (Za (pv 2) (Za (it K (pv 3) Zc) (Za (ZL (pv 0) rfl) Zb))))) (VG hM FM (hr.mono (by decide)) rfl M.mg bM .nil Z1 (Za (pv 3) (Za (pv 2) Zb))) ZI))))),?_⟩;refine⟨_,rfl,t,dx,fs,rfl,ht,ak.tab.only _ (by decide +kernel),_,rfl,t,x,T1,fs,d,kvs,rfl,ak.tab,ag.fld,ag.at_,th1,_,rfl,?_⟩;cases e:ZN x kvs with
 |false=>refine iteT ?_;refine k2 (λj S h=>?_) H (Same.refl H);obtain⟨y,hy,i,hx,_⟩:=Pr h;exact NM (λy hy=>let ⟨a,h,_⟩:=ag.yes y hy;⟨_,h⟩) e y hy hx
 |true=>
   refine iteF ?_;obtain⟨z,v0,rfl,hv⟩:=Z7 e;obtain⟨y,hy,rfl⟩:=in_of ag.no hv;obtain⟨a,ha,hy'⟩:=ag.yes y hy;refine⟨_,rfl,t,dx,fs,rfl,ht,ak.tab.only _ (by decide +kernel),_,rfl,t,_,T1,fs,d,kvs,_,rfl,ak.tab,ag.fld,ag.at_,th1,ha,?_⟩;obtain⟨a1,b1,c1,d1,rfl,_⟩:=Gp ok hy;refine⟨_,rfl,_,rfl,a,_,2,_,rfl,rfl,SqT.of hy',Zn (j:=2) rfl,_,rfl,t,C,dx,fs,_,rfl,ht,Z.cl,Z.na _ (by simp[fields]),ak.turns,v,T2,c1,T.n,rfl,th2,_,rfl,?_⟩;refine XG (λe2=>?_) (λe2=>?_)
   ·obtain⟨i,rfl,i0,i1⟩:=within_int e2;refine⟨_,rfl,_,rfl,λx' dx' hx' hdx' _=>⟨x',dx',a,_,_,outS _ i,rfl,ZS 0 (by decide),Ze,Vr hx' hdx' hy',⟨a1,b1,_,_,i,rfl,rfl,rfl⟩,λH' s st=>⟨rfl,?_⟩⟩⟩;exact k1 0 _ (.inl ⟨_,hy,i,rfl,i0,i1,rfl,rfl⟩) H' x' (JN hx' hdx' s) st
   ·refine k2 (λj S h=>?_) H (Same.refl H);obtain⟨y',hy2,i,hx,rfl,i0,i1⟩:=Pr h;injection hx with hx;obtain rfl:=YY (G6 ok (j:=4) (.inr (.inr (.inr rfl)))) hy hy2 hx;have:K1.Zu (.int i) c1 T.n=true:=by show(decide (c1<=i)&&decide (i<=T.n))=true;rw[decide_eq_true (show c1<=i from i0),decide_eq_true i1];rfl
    rw[this]at e2;cases e2
theorem ME{i lo hi:Int}(h0:lo<=i)(h1:i<=hi):K1.Zu (.int i) lo hi=true:=by show(decide (lo<=i)&&decide (i<=hi))=true;rw[decide_eq_true h0,decide_eq_true h1];rfl
theorem GU:FnScope ["table","name","turn","row"] ["table","name","turn"] (Zf T.f_walk_of):=scO (by decide +kernel)
theorem Ka(Z:TCl K C)(ZS:∀j,j<4->SCl K (Cs j))(M:SMk P w K mg base "Walk" (Cs 2) ["self","row","turn"] (spMk K Cs 2 Qy))(CG:CanM P w K mg base CX0 2 C "is_way" ["self","thing"] (Xh C "way_by_name"))(CR:CanM P w K mg base CX0 3 C "way_row" ["self","name"] (Jz C "way_by_name"))(CI:Can P w K mg base 2 "is_within" ["thing","low","high"] K1.YM)(D:Df K mg "walk_of" T.f_walk_of ["table","name","turn"]):Can P w K mg base 4 "walk_of" ["table","name","turn"] (spOf C Cs "walk"):=by
 obtain⟨fm,fdm,hM,FM,bM⟩:=M.made;refine D.can GU (λvs H Q E h=>?_) (λf cdv A outer s H vs Q E hr h=>?_)
 ·obtain⟨t,x,v,T,T1,T2,rfl,_⟩:=h;rfl
 ·obtain⟨t,x,v,T,T1,T2,rfl,tel,ok,th1,th2,k1,k2⟩:=h;obtain⟨fs,ak⟩:=Vs tel;obtain⟨d,kvs,ag⟩:=ak.w;obtain⟨dx,ht⟩:=ak.tab.at_;refine⟨_,(Zd (ZH (ZQ (ZD (ZW CG Z.cl Z1 (hr.mono (by decide)) (pv 0) (Za (pv 1) Zb)))) (Zi (Zo ZI)) Zv) (Zd (st 3 GU.nd (ZW CR Z.cl Z1 (hr.mono (by decide)) (pv 0) (Za (pv 1) Zb))) (Zi (Zo (VH (ZD (cn CI hr (Za (pv 2) (Za Zc (Za (Zx Jk (ZL (pv 0) rfl) (it K (pv 3) Zc)) Zb))))) (VG hM FM (hr.mono (by decide)) rfl M.mg bM .nil Z1 (Za (pv 3) (Za (pv 2) Zb))) ZI))))),?_⟩;refine⟨_,rfl,t,dx,fs,rfl,ht,ak.tab.only _ (by decide +kernel),_,rfl,t,x,T1,fs,d,kvs,rfl,ak.tab,ag.fld,ag.at_,th1,_,rfl,?_⟩;cases e:ZN x kvs with
 |false=>refine iteT ?_;refine k2 (λj S h=>?_) H (Same.refl H);obtain⟨y,hy,i,hx,_⟩:=MH h;exact NM (λy hy=>let ⟨a,h,_⟩:=ag.yes y hy;⟨_,h⟩) e y hy hx
 |true=>
   refine iteF ?_;obtain⟨z,v0,rfl,hv⟩:=Z7 e;obtain⟨y,hy,rfl⟩:=in_of ag.no hv;obtain⟨a,ha,hy'⟩:=ag.yes y hy;refine⟨_,rfl,t,dx,fs,rfl,ht,ak.tab.only _ (by decide +kernel),_,rfl,t,_,T1,fs,d,kvs,_,rfl,ak.tab,ag.fld,ag.at_,th1,ha,?_⟩;obtain⟨a1,b1,c1,d1,e1,rfl,_⟩:=RF ok hy;refine⟨_,rfl,_,rfl,t,C,dx,fs,_,rfl,ht,Z.cl,Z.na _ (by simp[fields]),ak.turns,_,rfl,a,_,3,_,rfl,rfl,SqT.of hy',Zn (j:=3) rfl,_,_,rfl,rfl,v,T2,0,T.n-d1,rfl,th2,_,rfl,?_⟩;refine XG (λe2=>?_) (λe2=>?_)
   ·obtain⟨i,rfl,i0,i1⟩:=within_int e2;refine⟨_,rfl,_,rfl,λx' dx' hx' hdx' _=>⟨x',dx',a,_,_,GD _ i,rfl,ZS 2 (by decide),Ze,Vr hx' hdx' hy',⟨a1,b1,c1,d1,e1,i,rfl,rfl,rfl⟩,λH' s st=>⟨rfl,?_⟩⟩⟩;exact k1 2 _ (.inr (.inr (.inl ⟨_,hy,i,rfl,i0,i1,rfl,rfl⟩))) H' x' (JN hx' hdx' s) st
   ·refine k2 (λj S h=>?_) H (Same.refl H);obtain⟨y',hy2,i,hx,rfl,i0,i1⟩:=MH h;injection hx with hx;obtain rfl:=YY (G6 ok (j:=3) (.inr (.inr (.inl rfl)))) hy hy2 hx;rw[ME i0 (show i<=T.n-d1 from i1)]at e2;cases e2
theorem GV:FnScope ["table","name","turn","row"] ["table","name","turn"] (Zf T.f_wait_of):=scO (by decide +kernel)
theorem Kb(Z:TCl K C)(ZS:∀j,j<4->SCl K (Cs j))(M:SMk P w K mg base "Wait" (Cs 3) ["self","row","turn"] (spMk K Cs 3 Qz))(CP:CanM P w K mg base CX0 2 C "is_place" ["self","thing"] (Xh C "room_by_place"))(CH:CanM P w K mg base CX0 3 C "is_home" ["self","thing"] (GP C))(CR:CanM P w K mg base CX0 3 C "room_of" ["self","name"] (Jz C "room_by_place"))(CI:Can P w K mg base 2 "is_within" ["thing","low","high"] K1.YM)(D:Df K mg "wait_of" T.f_wait_of ["table","name","turn"]):Can P w K mg base 4 "wait_of" ["table","name","turn"] (spOf C Cs "wait"):=by
 obtain⟨fm,fdm,hM,FM,bM⟩:=M.made;refine D.can GV (λvs H Q E h=>?_) (λf cdv A outer s H vs Q E hr h=>?_)
 ·obtain⟨t,x,v,T,T1,T2,rfl,_⟩:=h;rfl
 ·obtain⟨t,x,v,T,T1,T2,rfl,tel,ok,th1,th2,k1,k2⟩:=h;obtain⟨fs,ak⟩:=Vs tel;obtain⟨d,kvs,hl,hd,pd⟩:=ak.p;obtain⟨dx,ht⟩:=ak.tab.at_;refine⟨_,(Zd (ZH (PW.pt (VA (ZQ (ZD (ZW CP Z.cl Z1 (hr.mono (by decide)) (pv 0) (Za (pv 1) Zb)))) (Jf (ZD (ZW CH Z.cl Z1 (hr.mono (by decide)) (pv 0) (Za (pv 1) Zb)))))) (Zi (Zo ZI)) Zv) (Zd (st 3 GV.nd (Zy (Za (pv 1) (Za (ZW CR Z.cl Z1 (hr.mono (by decide)) (pv 0) (Za (pv 1) Zb)) Zb)))) (Zi (Zo (VH (ZD (cn CI hr (Za (pv 2) (Za Zc (Za (Zx Jk (ZL (pv 0) rfl) Zc) Zb))))) (VG hM FM (hr.mono (by decide)) rfl M.mg bM .nil Z1 (Za (pv 3) (Za (pv 2) Zb))) ZI))))),?_⟩;refine⟨_,rfl,t,dx,fs,rfl,ht,ak.tab.only _ (by decide +kernel),_,rfl,t,x,T1,fs,d,kvs,rfl,ak.tab,hl,hd,th1,_,rfl,?_⟩;cases e:ZN x kvs with
 |false=>refine iteT ?_;refine iteT ?_;refine k2 (λj S h=>?_) H (Same.refl H);obtain⟨y,hy,i,hx,_⟩:=Uw h;exact NM (λy hy=>⟨_,pd.has y hy⟩) e y hy hx
 |true=>
   refine iteF ?_;obtain⟨z,v0,rfl,hv⟩:=Z7 e;obtain⟨y,hy,rfl⟩:=in_of pd.no hv;have ha:=pd.has y hy;refine⟨_,rfl,t,dx,fs,rfl,ht,ak.tab.only _ (by decide +kernel),_,rfl,t,_,T1,fs,d,kvs,rfl,ak.tab,hl,hd,th1,_,rfl,?_⟩;have eh:Gb (.str (nameOf y)) kvs=decide (at_ y 1=.non):=by show decide (valV kvs (.inr (nameOf y))=some .non)=_;rw[ha];simp
   rw[eh];refine XG (λe3=>?_) (λe3=>?_)
   ·refine k2 (λj S h=>?_) H (Same.refl H);obtain⟨y',hy2,i,hx,rfl,h0,_⟩:=Uw h;injection hx with hx;obtain rfl:=YY (G6 ok (j:=1) (.inl rfl)) hy hy2 hx;exact h0 (of_decide_eq_true e3)
   ·have h0:at_ y 1≠.non:=of_decide_eq_false e3;refine⟨_,rfl,_,rfl,t,dx,fs,rfl,ht,ak.tab.only _ (by decide +kernel),_,rfl,t,_,T1,fs,d,kvs,_,rfl,ak.tab,hl,hd,th1,ha,zl,λa hna=>?_⟩;dsimp only[tNil];refine nl2 hna λH1 S1 e1=>?_;obtain⟨p,rfl,gs,rm⟩:=Jh ok hy;refine⟨_,rfl,_,rfl,t,C,dx,fs,_,rfl,S1 _ _ ht,Z.cl,Z.na _ (by simp[fields]),ak.turns,_,_,rfl,rfl,v,T2,0,T.n-1,rfl,th2.same S1,_,rfl,?_⟩;refine XG (λe2=>?_) (λe2=>?_)
    ·obtain⟨i,rfl,i0,i1⟩:=within_int e2;refine⟨_,rfl,_,rfl,λx' dx' hx' hdx' _=>⟨x',dx',a,_,_,GF (ZV p) i,rfl,ZS 3 (by decide),Ze,Vr hx' hdx' e1,⟨_,_,i,rfl,rfl,rfl⟩,λH' s st=>⟨rfl,?_⟩⟩⟩;exact k1 3 _ (.inr (.inr (.inr ⟨_,hy,i,rfl,h0,i0,i1,rfl,rfl⟩))) H' x' (S1.trans (JN hx' hdx' s)) st
    ·refine k2 (λj S h=>?_) H1 S1;obtain⟨y',hy2,i,hx,rfl,_,i0,i1⟩:=Uw h;rw[ME i0 i1]at e2;cases e2
theorem Lj{d:PyData}{b:Str}(h:PyData.eqv d (.str b)=true):d=.str b:=by cases d<;>simp_all[PyData.eqv]
theorem NR(b:Str):PyData.eqv (.str b) (.str b)=true:=by simp[PyData.eqv]
def Itm(H:Hp)(v:V):Prop:=(∃T,Th H v T)/\∃d,Is H v d/\SeqAt.shaped d=true
theorem D3{H:Hp}{u:V}{z:Str}(h:Is H u (.str z)):u=.str z:=by cases h;rfl
theorem JL{H:Hp}{u:V}{d:PyData}(h:Is H u d)(z:Str):PyData.eqv d (.str z)=decide (u=.str z):=by
 by_cases e:u=.str z
 ·subst e;cases h;rw[NR,decide_eq_true rfl]
 ·rw[decide_eq_false e];cases q:PyData.eqv d (.str z)with
 |false=>rfl
 |true=>exact absurd (D3 (Lj q▸h)) e
theorem GK{T:Tb}{xs:List V}{j:Nat}{S:Sx}(h:ZU T xs j S):xs.length=2/\xs.getD 0 .non=.str "ride"\/xs.length=3/\(xs.getD 0 .non=.str "out"\/xs.getD 0 .non=.str "walk"\/xs.getD 0 .non=.str "wait"):=by
 rcases h with⟨y,_,i,rfl,_⟩|⟨y,_,rfl,_⟩|⟨y,_,i,rfl,_⟩|⟨y,_,i,rfl,_⟩
 ·exact .inr ⟨rfl,.inl rfl⟩
 ·exact .inl ⟨rfl,rfl⟩
 ·exact .inr ⟨rfl,.inr (.inl rfl)⟩
 ·exact .inr ⟨rfl,.inr (.inr rfl)⟩
theorem SD{T:Tb}{u v:V}{j:Nat}{S:Sx}(h:ZU T [u,v] j S):∃y∈T.t2,v=.str (nameOf y):=by rcases h with⟨y,_,i,e,_⟩|⟨y,hy,e,_⟩|⟨y,_,i,e,_⟩|⟨y,_,i,e,_⟩<;>simp only[List.cons.injEq,reduceCtorEq,and_true,and_false]at e;exact⟨y,hy,e.2⟩
def Ri(K:PySem.W.Frag)(H:Hp)(x:V):Prop:=∃ty,TyOf K H x ty/\PySem.W.kitOne K ty (.type "tuple")=some false
def spSN(K:PySem.W.Frag)(C:Addr)(Cs:Nat->Addr):Sp:=λvs H Q _=>∃(t:Addr)(x:V)(T:Tb),vs=[.ref t,x]/\Tel H C t T/\OkTb T /\((Ri K H x/\∀H',Same H H'->Q .non H')\/∃a xs,x=.ref a/\H a=some (.tup xs)/\xs.length<=1000/\(∀v∈xs,Itm H v)/\Found T xs Cs H Q)
theorem WT{K:PySem.W.Frag}:PySem.W.kitOne K (.type "tuple") (.type "tuple")=some true:=by kernel_rfl
theorem Gi:FnScope ["table","key"] ["table","key"] (Zf T.f_step_or_none):=scO (by decide +kernel)
theorem Tw(B:∀x∈Blts,mg x=none)(Z:TCl K C)(ZS:∀j,j<4->SCl K (Cs j))(M:SMk P w K mg base "Ride" (Cs 1) ["self","row"] (spMk K Cs 1 QA))(CG:CanM P w K mg base CX0 2 C "is_ride" ["self","thing"] (Xh C "ride_by_name"))(CR:CanM P w K mg base CX0 3 C "ride_row" ["self","name"] (Jz C "ride_by_name"))(C1:Can P w K mg base 4 "set_out_of" ["table","name","turn"] (spOf C Cs "out"))(C2:Can P w K mg base 4 "walk_of" ["table","name","turn"] (spOf C Cs "walk"))(C3:Can P w K mg base 4 "wait_of" ["table","name","turn"] (spOf C Cs "wait"))(D:Df K mg "step_or_none" T.f_step_or_none ["table","key"]):Can P w K mg base 5 "step_or_none" ["table","key"] (spSN K C Cs):=by
 obtain⟨fm,fdm,hM,FM,bM⟩:=M.made;refine D.can Gi (λvs H Q E h=>?_) (λf cdv A outer s H vs Q E hr h=>?_)
 ·obtain⟨t,x,T,rfl,_⟩:=h;rfl
 ·obtain⟨t,x,T,rfl,tel,ok,h⟩:=h;obtain⟨fs,ak⟩:=Vs tel;obtain⟨d,kvs,ag⟩:=ak.r;obtain⟨dx,ht⟩:=ak.tab.at_;refine' ⟨_,(@Zd _ _ _ _ _ ?h19 (@Zd _ _ _ _ _ ?h20 (@Zd _ _ _ _ _ ?h21 (@Zd _ _ _ _ _ ?h22 (@Zd _ _ _ _ _ ?h23 (@Zd _ _ _ _ _ ?h24 (@Zi _ _ _ ?h25))))))),?rd⟩;case' h25=>refine' (Zo ZI)
  case' h24=>refine' (@ZH _ _ _ _ _ _ _ _ (@ZF _ _ _ _ _ _ _ _ (NK hr.units) ?h15 Zr (ZE _)) (@Zi _ _ _ ?h18) Zv)
  case' h23=>refine' (@ZH _ _ _ _ _ _ _ _ (@ZF _ _ _ _ _ _ _ _ (NK hr.units) ?h11 Zr (ZE _)) (@Zi _ _ _ ?h14) Zv)
  case' h22=>refine' (@ZH _ _ _ _ _ _ _ _ (@ZF _ _ _ _ _ _ _ _ (NK hr.units) ?h7 Zr (ZE _)) (@Zi _ _ _ ?h10) Zv)
  case' h21=>refine' (@ZH _ _ _ _ _ _ _ _ (@ZF _ _ _ _ _ _ _ _ RM (ZC (r:=rLen K) Y2 rfl (B _ (by decide +kernel)) PySem.boot_len (@Za _ _ _ _ _ (pv 1) Zb (by rfl))) Zc (ZE _)) (@Zi _ _ _ ?h6) Zv)
  case' h20=>refine' (Ws (@ZH _ _ _ _ _ _ _ _ (PW.pt (UJ (@ZF _ _ _ _ _ _ _ _ X4 (ZC (r:=rLen K) Y2 rfl (B _ (by decide +kernel)) PySem.boot_len (@Za _ _ _ _ _ (pv 1) Zb (by rfl))) Zc (ZE _)) (UJ (@ZF _ _ _ _ _ _ _ _ (NK hr.units) ?h3 Zr (ZE _)) (VB (ZD (ZW CG Z.cl Z1 (hr.mono (by decide)) (pv 0) (@Za _ _ _ _ _ ?h2 Zb (by rfl)))))))) (@Zi _ _ _ ?h5) Zv))
  case' h19=>refine' (@ZH _ _ _ _ _ _ _ _ (ZQ (ZD (UM (c:="tuple") (pv 1) rfl (B _ (by decide +kernel)) rfl (B _ (by decide +kernel)) YF))) (@Zi _ _ _ ?h1) Zv)
  case' h18=>refine' (Zo (cn C3 hr (@Za _ _ _ _ _ (pv 0) (@Za _ _ _ _ _ ?h17 (@Za _ _ _ _ _ ?h16 Zb (by rfl)) (by rfl)) (by rfl))))
  case' h17=>refine' (@it _ _ _ _ _ _ K (pv 1) Zc (by rfl) (by exact λ_ _=>rfl))
  case' h16=>refine' (@it _ _ _ _ _ _ K (pv 1) Zc (by rfl) (by exact λ_ _=>rfl))
  case' h15=>refine' (@it _ _ _ _ _ _ K (pv 1) Zc (by rfl) (by exact λ_ _=>rfl))
  case' h14=>refine' (Zo (cn C2 hr (@Za _ _ _ _ _ (pv 0) (@Za _ _ _ _ _ ?h13 (@Za _ _ _ _ _ ?h12 Zb (by rfl)) (by rfl)) (by rfl))))
  case' h13=>refine' (@it _ _ _ _ _ _ K (pv 1) Zc (by rfl) (by exact λ_ _=>rfl))
  case' h12=>refine' (@it _ _ _ _ _ _ K (pv 1) Zc (by rfl) (by exact λ_ _=>rfl))
  case' h11=>refine' (@it _ _ _ _ _ _ K (pv 1) Zc (by rfl) (by exact λ_ _=>rfl))
  case' h10=>refine' (Zo (cn C1 hr (@Za _ _ _ _ _ (pv 0) (@Za _ _ _ _ _ ?h9 (@Za _ _ _ _ _ ?h8 Zb (by rfl)) (by rfl)) (by rfl))))
  case' h9=>refine' (@it _ _ _ _ _ _ K (pv 1) Zc (by rfl) (by exact λ_ _=>rfl))
  case' h8=>refine' (@it _ _ _ _ _ _ K (pv 1) Zc (by rfl) (by exact λ_ _=>rfl))
  case' h7=>refine' (@it _ _ _ _ _ _ K (pv 1) Zc (by rfl) (by exact λ_ _=>rfl))
  case' h6=>refine' (Zo ZI)
  case' h5=>refine' (Zo (VG hM FM (hr.mono (by decide)) rfl M.mg bM .nil Z1 (@Za _ _ _ _ _ (ZW CR Z.cl Z1 (hr.mono (by decide)) (pv 0) (@Za _ _ _ _ _ ?h4 Zb (by rfl))) Zb (by rfl))))
  case' h4=>refine' (@it _ _ _ _ _ _ K (pv 1) Zc (by rfl) (by exact λ_ _=>rfl))
  case' h3=>refine' (@it _ _ _ _ _ _ K (pv 1) Zc (by rfl) (by exact λ_ _=>rfl))
  case' h2=>refine' (@it _ _ _ _ _ _ K (pv 1) Zc (by rfl) (by exact λ_ _=>rfl))
  case' h1=>refine' (Zo ZI)
  rcases h with⟨⟨ty,hty,kt⟩,k⟩|⟨a,xs,rfl,ha,hlen,hit,k1,k2⟩
  ·refine⟨_,rfl,_,_,_,_,rfl,hty,kt,_,rfl,?_⟩;refine iteT ?_;exact k H (Same.refl H)
  refine⟨_,rfl,_,_,_,_,rfl,.tup ha,WT,_,rfl,?_⟩;refine iteF ?_;refine⟨λσ' H'=>σ'=[some (.ref t),some (.ref a)]/\H'=H/\(xs.length≠3->∀j S,¬ZU T xs j S),?_,?_⟩
  ·refine⟨_,rfl,a,_,rfl,.inr (SqT.of ha),rfl,_,rfl,?_⟩;refine XG (λe=>?_) (λe=>?_)
   ·have h2:xs.length=2:=by have:=of_decide_eq_true e;injection this with this;omega
    obtain⟨u,v,rfl⟩:=len2 h2;obtain⟨⟨T0,th0⟩,d0,is0,sh0⟩:=hit u (by simp);obtain⟨⟨T1,th1⟩,d1,is1,sh1⟩:=hit v (by simp);refine⟨_,rfl,a,_,0,_,rfl,rfl,SqT.of ha,Zn (j:=0) rfl,d0,.str "ride",is0,.str _,sh0,by decide +kernel,_,rfl,?_⟩;rw[JL is0];refine XG (λe1=>?_) (λe1=>?_)
    ·obtain rfl:=of_decide_eq_true e1;refine⟨_,rfl,t,dx,fs,rfl,ht,ak.tab.only _ (by decide +kernel),_,rfl,a,_,1,_,rfl,rfl,SqT.of ha,Zn (j:=1) rfl,t,v,T1,fs,d,kvs,rfl,ak.tab,ag.fld,ag.at_,th1,_,rfl,?_⟩;cases e2:ZN v kvs with
    |false=>refine iteF ?_;refine⟨rfl,rfl,λ_ j S h=>?_⟩;obtain⟨y,hy,hx⟩:=SD h;exact NM (λy hy=>let ⟨a,h,_⟩:=ag.yes y hy;⟨_,h⟩) e2 y hy hx
    |true=>refine iteT ?_;obtain⟨z,v0,rfl,hv⟩:=Z7 e2;obtain⟨y,hy,rfl⟩:=in_of ag.no hv;obtain⟨r,hr',hy'⟩:=ag.yes y hy;obtain⟨a1,b1,c1,d1,e1,f1,rfl,_⟩:=NF ok hy;refine⟨_,rfl,t,dx,fs,rfl,ht,ak.tab.only _ (by decide +kernel),_,rfl,a,_,1,_,rfl,rfl,SqT.of ha,Zn (j:=1) rfl,t,_,T1,fs,d,kvs,_,rfl,ak.tab,ag.fld,ag.at_,th1,hr',λx' dx' hx' hdx' _=>⟨x',dx',r,_,_,XX _,rfl,ZS 1 (by decide),Ze,Vr hx' hdx' hy',⟨_,_,_,_,_,_,rfl,rfl,rfl⟩,λH' s st=>⟨rfl,?_⟩⟩⟩;exact k1 1 _ (.inr (.inl ⟨_,hy,rfl,rfl,rfl⟩)) H' x' (JN hx' hdx' s) st
    ·refine iteF ?_;refine⟨rfl,rfl,λ_ j S h=>?_⟩;rcases GK h with⟨_,q⟩|⟨q,_⟩
     ·exact of_decide_eq_false e1 q
     ·cases q
   ·refine iteF ?_;refine⟨rfl,rfl,λn j S h=>?_⟩;rcases GK h with⟨q,_⟩|⟨q,_⟩
    ·rw[q]at e;cases e
    ·exact n q
  rintro σ' H' ⟨rfl,rfl,hn⟩;refine⟨_,rfl,a,_,rfl,.inr (SqT.of ha),rfl,_,rfl,?_⟩;refine XG (λe=>?_) (λe=>?_)
  ·exact k2 (hn λq=>by rw[q]at e;cases e) H' (Same.refl _)
  have h3:xs.length=3:=by have:=of_decide_eq_true (by simpa using e:decide (V.int (xs.length:Int)=V.int 3)=true);injection this with this;omega
  obtain⟨u,v,r,rfl⟩:=len3 h3;obtain⟨⟨T0,th0⟩,d0,is0,sh0⟩:=hit u (by simp);obtain⟨⟨T1,th1⟩,d1,is1,sh1⟩:=hit v (by simp);obtain⟨⟨T2,th2⟩,d2,is2,sh2⟩:=hit r (by simp);refine⟨_,rfl,a,_,0,_,rfl,rfl,SqT.of ha,Zn (j:=0) rfl,d0,.str "out",is0,.str _,sh0,by decide +kernel,_,rfl,?_⟩;rw[JL is0];refine XG (λe1=>?_) (λe1=>?_)
  ·obtain rfl:=of_decide_eq_true e1;exact⟨_,rfl,_,rfl,a,_,1,_,rfl,rfl,SqT.of ha,Zn (j:=1) rfl,_,rfl,a,_,2,_,rfl,rfl,SqT.of ha,Zn (j:=2) rfl,t,v,r,T,T1,T2,rfl,tel,ok,th1,th2,k1,k2⟩
  refine⟨_,rfl,a,_,0,_,rfl,rfl,SqT.of ha,Zn (j:=0) rfl,d0,.str "walk",is0,.str _,sh0,by decide +kernel,_,rfl,?_⟩;rw[JL is0];refine XG (λe2=>?_) (λe2=>?_)
  ·obtain rfl:=of_decide_eq_true e2;exact⟨_,rfl,_,rfl,a,_,1,_,rfl,rfl,SqT.of ha,Zn (j:=1) rfl,_,rfl,a,_,2,_,rfl,rfl,SqT.of ha,Zn (j:=2) rfl,t,v,r,T,T1,T2,rfl,tel,ok,th1,th2,k1,k2⟩
  refine⟨_,rfl,a,_,0,_,rfl,rfl,SqT.of ha,Zn (j:=0) rfl,d0,.str "wait",is0,.str _,sh0,by decide +kernel,_,rfl,?_⟩;rw[JL is0];refine XG (λe3=>?_) (λe3=>?_)
  ·obtain rfl:=of_decide_eq_true e3;exact⟨_,rfl,_,rfl,a,_,1,_,rfl,rfl,SqT.of ha,Zn (j:=1) rfl,_,rfl,a,_,2,_,rfl,rfl,SqT.of ha,Zn (j:=2) rfl,t,v,r,T,T1,T2,rfl,tel,ok,th1,th2,k1,k2⟩
  refine k2 (λj S h=>?_) H' (Same.refl _);rcases GK h with⟨q,_⟩|⟨_,q|q|q⟩
  ·cases q
  ·exact of_decide_eq_false e1 q
  ·exact of_decide_eq_false e2 q
  ·exact of_decide_eq_false e3 q
noncomputable def Yu(T:Tb)(y:List V):List Sx:=(List.range (T.n+1-iA y 2).toNat).map λ(m:Nat)=>outS y (iA y 2+m)
noncomputable def Yn(T:Tb)(y:List V):List Sx:=(List.range (T.n+1-iA y 3).toNat).map λ(m:Nat)=>GD y (0+m)
noncomputable def Yr(T:Tb)(y:List V):List Sx:=if at_ y 1=.non then[]else(List.range T.n.toNat).map λ(m:Nat)=>GF y (0+m)
noncomputable def allS(T:Tb):List Sx:=T.t4.flatMap (Yu T)++T.t2.map XX++T.t3.flatMap (Yn T)++T.t1.flatMap (Yr T)
noncomputable def J1(S:Sx):PyData:=.tuple [S.tail,S.head,dF S.room,.int S.price]
def Dc(H:Hp)(p:Addr)(L:List Sx):Prop:=∃kvs:List (List Key×V),H p=some (.dT kvs)/\kvs.length<=L.length/\(∀k v,valV kvs k=some v->∃S∈L,S.key=k/\Is H v (J1 S))/\∀S∈L,(valV kvs S.key).isSome=true
theorem Dc.same{H H':Hp}{p:Addr}{L:List Sx}(s:Same H H')(h:Dc H p L):Dc H' p L:=by obtain⟨kvs,e,l,a,b⟩:=h;refine⟨kvs,s _ _ e,l,λk v hk=>?_,b⟩;obtain⟨S,hS,e1,i⟩:=a k v hk;exact⟨S,hS,e1,i.same s⟩
theorem Dc.put{H:Hp}{p a:Addr}{kvs:List (List Key×V)}{L:List Sx}{S:Sx}(e:H p=some (.dT kvs))(l:kvs.length<=L.length)(h1:∀k v,valV kvs k=some v->∃S∈L,S.key=k/\Is H v (J1 S))(h2:∀S∈L,(valV kvs S.key).isSome=true)(hv:Is H (.ref a) (J1 S)):Dc (upd H p (.dT (putK kvs S.key (.ref a)))) p (L++[S]):=by
 have hn:∀xs,H p≠some (.lst xs)/\H p≠some (.tup xs):=λxs=>⟨(λz=>by rw[e]at z;cases z),(λz=>by rw[e]at z;cases z)⟩;refine⟨_,Ze,?_,λk v hk=>?_,λS' hS=>?_⟩
 ·have:=YA kvs S.key (.ref a);rw[List.length_append];show _<=L.length+1;omega
 ·rw[Jx]at hk;by_cases q:k=S.key
  ·rw[if_pos q]at hk;cases hk;exact⟨S,by simp,q.symm,NP hn hv⟩
  ·rw[if_neg q]at hk;obtain⟨S',hS,e1,i⟩:=h1 k v hk;exact⟨S',by simp[hS],e1,NP hn i⟩
 ·rw[Jx];by_cases q:S'.key=S.key
  ·rw[if_pos q];rfl
  ·rw[if_neg q];rcases List.mem_append.mp hS with hS|hS
   ·exact h2 S' hS
   ·rw[List.mem_singleton]at hS;exact absurd (hS▸rfl) q
theorem _root_.WD.RowsAt.keepB{b:Addr}{H H':Hp}{l p:Addr}{rows:List (List V)}(h:RowsAt b H l rows)(hp:H p=none)(s:Zh p H H'):RowsAt b H' l rows:=by obtain⟨n,as,e,hl,r⟩:=h;exact⟨n,as,s _ _ e (Zk e hp),hl,λi a q h1 h2=>⟨(r i a q h1 h2).1,s _ _ (r i a q h1 h2).2 (Zk (r i a q h1 h2).2 hp)⟩⟩
theorem US{f:List V->List Sx}{t:List (List V)}{i:Nat}(hi:i<t.length):(t.take (i+1)).flatMap f=(t.take i).flatMap f++f t[i]:=by rw[List.take_succ,List.getElem?_eq_getElem hi,List.flatMap_append];simp
theorem map_take{f:List V->Sx}{t:List (List V)}{i:Nat}(hi:i<t.length):(t.take (i+1)).map f=(t.take i).map f++[f t[i]]:=by rw[List.take_succ,List.getElem?_eq_getElem hi,List.map_append];rfl
theorem Vd{f:Nat->Sx}{n i:Nat}(hi:i<n):(((List.range n).map f).take (i+1))=((List.range n).map f).take i++[f i]:=by rw[List.take_succ,List.getElem?_map,List.getElem?_range hi];rfl
theorem VQ{f:List V->List Sx}{m:Nat}:∀{t:List (List V)},(∀y∈t,(f y).length<=m)->(t.flatMap f).length<=t.length*m
|[],_=>by simp
|y::t,h=>by
  rw[List.flatMap_cons,List.length_append,List.length_cons];have h1:=h y (by simp);have h2:=VQ (f:=f) (m:=m) (t:=t) λz hz=>h z (by simp[hz]);have:(t.length+1)*m=t.length*m+m:=by rw[Nat.add_mul,Nat.one_mul]
  omega
theorem Uu{T:Tb}(o:OkTb T){S:Sx}(h:S∈allS T):∃j,ZU T (S.key.map kV) j S:=by
 unfold allS at h;simp only[List.mem_append,List.mem_flatMap,List.mem_map]at h;rcases h with((⟨y,hy,h⟩|⟨y,hy,rfl⟩)|⟨y,hy,h⟩)|⟨y,hy,h⟩
 ·unfold Yu at h;obtain⟨m,hm,rfl⟩:=List.mem_map.mp h;rw[List.mem_range]at hm;exact⟨0,.inl ⟨y,hy,_,rfl,by omega,by omega,rfl,rfl⟩⟩
 ·exact⟨1,.inr (.inl ⟨y,hy,rfl,rfl,rfl⟩)⟩
 ·unfold Yn at h;obtain⟨m,hm,rfl⟩:=List.mem_map.mp h;rw[List.mem_range]at hm;exact⟨2,.inr (.inr (.inl ⟨y,hy,_,rfl,by omega,by omega,rfl,rfl⟩))⟩
 ·unfold Yr at h;split at h
  ·cases h
  rename_i hne;obtain⟨m,hm,rfl⟩:=List.mem_map.mp h;rw[List.mem_range]at hm;exact⟨3,.inr (.inr (.inr ⟨y,hy,_,rfl,hne,by omega,by omega,rfl,rfl⟩))⟩
theorem GL{T:Tb}(o:OkTb T){vs:List V}{j:Nat}{S:Sx}(h:ZU T vs j S):S∈allS T:=by
 unfold allS;simp only[List.mem_append,List.mem_flatMap,List.mem_map];rcases h with⟨y,hy,i,e,h1,h2,_,rfl⟩|⟨y,hy,e,_,rfl⟩|⟨y,hy,i,e,h1,h2,_,rfl⟩|⟨y,hy,i,e,h0,h1,h2,_,rfl⟩
 ·refine .inl (.inl (.inl ⟨y,hy,List.mem_map.mpr ⟨(i-iA y 2).toNat,List.mem_range.mpr (by omega),?_⟩⟩));rw[show iA y 2+(((i-iA y 2).toNat:Nat):Int)=i by omega]
 ·exact .inl (.inl (.inr ⟨y,hy,rfl⟩))
 ·refine .inl (.inr ⟨y,hy,List.mem_map.mpr ⟨i.toNat,List.mem_range.mpr (by omega),?_⟩⟩);rw[show(0:Int)+((i.toNat:Nat):Int)=i by omega]
 ·refine .inr ⟨y,hy,?_⟩;unfold Yr;rw[if_neg h0];refine List.mem_map.mpr ⟨i.toNat,List.mem_range.mpr (by omega),?_⟩;rw[show(0:Int)+((i.toNat:Nat):Int)=i by omega]
theorem Pq{T:Tb}(o:OkTb T){y:List V}(h:y∈T.t4):(Yu T y).length<=51:=by obtain⟨a,b,c,d,rfl,_,_,h0,_⟩:=Gp o h;have:=o.n1;unfold Yu;rw[List.length_map,List.length_range];show(T.n+1-c).toNat<=51;omega
theorem MG{T:Tb}(o:OkTb T){y:List V}(h:y∈T.t3):(Yn T y).length<=51:=by obtain⟨a,b,c,d,e,rfl,_,_,_,h0,_⟩:=RF o h;have:=o.n1;unfold Yn;rw[List.length_map,List.length_range];show(T.n+1-d).toNat<=51;omega
theorem MI{T:Tb}(o:OkTb T){y:List V}:(Yr T y).length<=51:=by
 have:=o.n1;unfold Yr;split
 ·exact Nat.zero_le _
 rw[List.length_map,List.length_range];omega
theorem VJ{T:Tb}(o:OkTb T):T.t1.length<=14/\T.t2.length<=80/\T.t3.length<=40/\T.t4.length<=300:=⟨(o.part 1 (.inl rfl)).1,(o.part 2 (.inr (.inl rfl))).1,(o.part 3 (.inr (.inr (.inl rfl)))).1,(o.part 4 (.inr (.inr (.inr rfl)))).1⟩
theorem RJ{T:Tb}(o:OkTb T):(T.t4.flatMap (Yu T)).length<=15300/\(T.t2.map XX).length<=80/\(T.t3.flatMap (Yn T)).length<=2040/\(T.t1.flatMap (Yr T)).length<=714:=by obtain⟨h1,h2,h3,h4⟩:=VJ o;have a:=VQ (f:=Yu T) (m:=51) (t:=T.t4) λy hy=>Pq o hy;have b:=VQ (f:=Yn T) (m:=51) (t:=T.t3) λy hy=>MG o hy;have c:=VQ (f:=Yr T) (m:=51) (t:=T.t1) λy hy=>MI o;refine⟨by omega,by rw[List.length_map];exact h2,by omega,by omega⟩
theorem GG{f:List V->List Sx}{t:List (List V)}(i:Nat):((t.take i).flatMap f).length<=(t.flatMap f).length:=by
 conv=>rhs;rw[<-List.take_append_drop i t,List.flatMap_append,List.length_append]
 exact Nat.le_add_right _ _
def Pg:Sp:=λvs H Q _=>∃(b pw l1 l2 l3 l4:Addr)(T:Tb),vs=[.ref pw]/\TbAt b H pw T l1 l2 l3 l4/\OkTb T/\∀H' p,Same H H'->H p=none->Dc H' p (allS T)->Q (.ref p) H'
theorem KU{H H1:Hp}{p a k:Addr}{L:List Sx}{S:Sx}{R:Hp->Prop}(hno:H p=none)(s:Zh p H H1)(dc:Dc H1 p L)(hl:L.length<=20000)(hv:Is H1 (.ref a) (J1 S))(hk:H1 k=some (.tup (S.key.map kV)))(r:∀H2,Zh p H H2->Dc H2 p (L++[S])->R H2):∃d H2,V.ref p=.ref d/\DPut H1 d (.ref k) (.ref a) H2/\R H2:=by obtain⟨kvs,e,l,h1,h2⟩:=dc;refine⟨p,_,rfl,DPut.t e hk (Nat.lt_of_le_of_lt (Nat.le_trans l hl) (by decide)),r _ ?_ (Dc.put e l h1 h2 hv)⟩;intro c o ec hc;rw[Zj hc];exact s c o ec hc
theorem Gq{H H1:Hp}{p a k:Addr}{ks:List V}(hk:H1 k=none){L:List Sx}{S:Sx}(e:ks=S.key.map kV){R:Hp->Prop}(hno:H p=none)(s:Zh p H H1)(dc:Dc H1 p L)(hl:L.length<=20000)(hv:Is H1 (.ref a) (J1 S))(r:∀H2,Zh p H H2->Dc H2 p (L++[S])->R H2):∃d H2,V.ref p=.ref d/\DPut (upd H1 k (.tup ks)) d (.ref k) (.ref a) H2/\R H2:=by subst e;have S1:=sameNew (o:=.tup (S.key.map kV)) (Same.refl H1) hk;exact KU hno (s.trans (Zh.of S1)) (dc.same S1) hl (hv.same S1) Ze r
theorem Zq:FnScope ["_law_world_here","_law_turns","_law_places_here","_law_rides","_law_ways","_law_groups","_law_steps_here","_law_name","_law_place","_law_turn","_law_many","_law_at","_law_start","_law_leave","_law_goal","_law_come","_law_seats","_law_long","_law_wide","_law_room"] ["_law_world_here"] (Zf T.f__law_steps):=scO (by decide +kernel)
theorem Q4(B:∀x∈Blts,mg x=none)(D:Df K mg "_law_steps" T.f__law_steps ["_law_world_here"]):Can P w K mg base 1 "_law_steps" ["_law_world_here"] Pg:=by
 refine D.can Zq (λvs H Q E h=>?_) (λf cdv A outer s H vs Q E hr h=>?_)
 ·obtain⟨b,pw,l1,l2,l3,l4,T,rfl,_⟩:=h;rfl
 ·obtain⟨b,pw,l1,l2,l3,l4,T,rfl,tb,ok,k⟩:=h;refine' ⟨_,(@Zd _ _ _ _ _ ?h24 (@Zd _ _ _ _ _ ?h25 (@Zd _ _ _ _ _ ?h26 (@Zd _ _ _ _ _ ?h27 (@Zd _ _ _ _ _ ?h28 (@Zd _ _ _ _ _ ?h29 (@Zi _ _ _ ?h30))))))),?rd⟩;case' h30=>refine' (Zo (pv 6))
  case' h29=>refine' (YO PassesOwn.never rfl (Yo (pv 2)) (Xj rfl (Zt (Zp (i:=8) Zq.nd rfl (Or.inl rfl)) (Zt (Zp (i:=19) Zq.nd rfl (Or.inl rfl)) Yt))) (@Zi _ _ _ ?h23))
  case' h28=>refine' (YO PassesOwn.never rfl (Yo (pv 4)) (Xj rfl (Zt (Zp (i:=7) Zq.nd rfl (Or.inl rfl)) (Zt (Zp (i:=12) Zq.nd rfl (Or.inl rfl)) (Zt (Zp (i:=14) Zq.nd rfl (Or.inl rfl)) (Zt (Zp (i:=17) Zq.nd rfl (Or.inl rfl)) (Zt (Zp (i:=18) Zq.nd rfl (Or.inl rfl)) Yt)))))) (@Zi _ _ _ ?h16))
  case' h27=>refine' (YO PassesOwn.never rfl (Yo (pv 3)) (Xj rfl (Zt (Zp (i:=7) Zq.nd rfl (Or.inl rfl)) (Zt (Zp (i:=12) Zq.nd rfl (Or.inl rfl)) (Zt (Zp (i:=13) Zq.nd rfl (Or.inl rfl)) (Zt (Zp (i:=14) Zq.nd rfl (Or.inl rfl)) (Zt (Zp (i:=15) Zq.nd rfl (Or.inl rfl)) (Zt (Zp (i:=16) Zq.nd rfl (Or.inl rfl)) Yt))))))) (@Zi _ _ _ ?h10))
  case' h26=>refine' (YO PassesOwn.never rfl (Yo (pv 5)) (Xj rfl (Zt (Zp (i:=7) Zq.nd rfl (Or.inl rfl)) (Zt (Zp (i:=8) Zq.nd rfl (Or.inl rfl)) (Zt (Zp (i:=9) Zq.nd rfl (Or.inl rfl)) (Zt (Zp (i:=10) Zq.nd rfl (Or.inl rfl)) Yt))))) (@Zi _ _ _ ?h5))
  case' h25=>refine' (@st _ _ _ _ 6 _ _ Zq.nd Wz (by rfl) (by exact Or.inl rfl) (by rfl) (by exact .inl rfl))
  case' h24=>refine' (UK (pv 0) (Ww rfl (Zt (Zp (i:=1) Zq.nd rfl (Or.inl rfl)) (Zt (Zp (i:=2) Zq.nd rfl (Or.inl rfl)) (Zt (Zp (i:=3) Zq.nd rfl (Or.inl rfl)) (Zt (Zp (i:=4) Zq.nd rfl (Or.inl rfl)) (Zt (Zp (i:=5) Zq.nd rfl (Or.inl rfl)) Yt)))))))
  case' h23=>refine' (@ZH _ _ _ _ _ _ _ _ (@ZF _ _ _ _ _ _ _ _ JQ (pv 19) ZI (ZE _)) (@Zi _ _ _ ?h22) Zv)
  case' h22=>refine' (YO PassesOwn.never rfl (Yy rfl (B _ (by decide +kernel)) (@Za _ _ _ _ _ (pv 1) Zb (by rfl))) (Zp (i:=11) Zq.nd rfl (Or.inl rfl)) (@Zi _ _ _ ?h21))
  case' h21=>refine' (XE (Y7 hr) (pv 6) ?h17 ?h20 rfl)
  case' h20=>refine' (@Zy _ _ _ _ _ (@Za _ _ _ _ _ ?h19 (@Za _ _ _ _ _ ?h18 (@Za _ _ _ _ _ (pv 19) (@Za _ _ _ _ _ Zc Zb (by rfl)) (by rfl)) (by rfl)) (by rfl)))
  case' h19=>refine' (@Zy _ _ _ _ _ (@Za _ _ _ _ _ (pv 8) (@Za _ _ _ _ _ (pv 11) Zb (by rfl)) (by rfl)))
  case' h18=>refine' (@Zy _ _ _ _ _ (@Za _ _ _ _ _ (pv 8) (@Za _ _ _ _ _ (Zx Z3 (pv 11) Zc) Zb (by rfl)) (by rfl)))
  case' h17=>refine' (@Zy _ _ _ _ _ (@Za _ _ _ _ _ Zr (@Za _ _ _ _ _ (pv 8) (@Za _ _ _ _ _ (pv 11) Zb (by rfl)) (by rfl)) (by rfl)))
  case' h16=>refine' (YO PassesOwn.never rfl (Yy rfl (B _ (by decide +kernel)) (@Za _ _ _ _ _ (Zx Jk (Zx Z3 (pv 1) Zc) (pv 17)) Zb (by rfl))) (Zp (i:=11) Zq.nd rfl (Or.inl rfl)) (@Zi _ _ _ ?h15))
  case' h15=>refine' (XE (Y7 hr) (pv 6) ?h11 ?h14 rfl)
  case' h14=>refine' (@Zy _ _ _ _ _ (@Za _ _ _ _ _ ?h13 (@Za _ _ _ _ _ ?h12 (@Za _ _ _ _ _ (pv 18) (@Za _ _ _ _ _ (pv 17) Zb (by rfl)) (by rfl)) (by rfl)) (by rfl)))
  case' h13=>refine' (@Zy _ _ _ _ _ (@Za _ _ _ _ _ (pv 12) (@Za _ _ _ _ _ (pv 11) Zb (by rfl)) (by rfl)))
  case' h12=>refine' (@Zy _ _ _ _ _ (@Za _ _ _ _ _ (pv 14) (@Za _ _ _ _ _ (Zx Z3 (pv 11) (pv 17)) Zb (by rfl)) (by rfl)))
  case' h11=>refine' (@Zy _ _ _ _ _ (@Za _ _ _ _ _ Zr (@Za _ _ _ _ _ (pv 7) (@Za _ _ _ _ _ (pv 11) Zb (by rfl)) (by rfl)) (by rfl)))
  case' h10=>refine' (XE (Y7 hr) (pv 6) ?h6 ?h9 rfl)
  case' h9=>refine' (@Zy _ _ _ _ _ (@Za _ _ _ _ _ ?h8 (@Za _ _ _ _ _ ?h7 (@Za _ _ _ _ _ (pv 16) (@Za _ _ _ _ _ (Zx Jk (pv 15) (pv 13)) Zb (by rfl)) (by rfl)) (by rfl)) (by rfl)))
  case' h8=>refine' (@Zy _ _ _ _ _ (@Za _ _ _ _ _ (pv 12) (@Za _ _ _ _ _ (pv 13) Zb (by rfl)) (by rfl)))
  case' h7=>refine' (@Zy _ _ _ _ _ (@Za _ _ _ _ _ (pv 14) (@Za _ _ _ _ _ (pv 15) Zb (by rfl)) (by rfl)))
  case' h6=>refine' (@Zy _ _ _ _ _ (@Za _ _ _ _ _ Zr (@Za _ _ _ _ _ (pv 7) Zb (by rfl)) (by rfl)))
  case' h5=>refine' (YO PassesOwn.never rfl (SI rfl (B _ (by decide +kernel)) (@Za _ _ _ _ _ (pv 9) (@Za _ _ _ _ _ (Zx Z3 (pv 1) Zc) Zb (by rfl)) (by rfl))) (Zp (i:=11) Zq.nd rfl (Or.inl rfl)) (@Zi _ _ _ ?h4))
  case' h4=>refine' (XE (Y7 hr) (pv 6) ?h1 ?h3 rfl)
  case' h3=>refine' (@Zy _ _ _ _ _ (@Za _ _ _ _ _ (pv 7) (@Za _ _ _ _ _ ?h2 (@Za _ _ _ _ _ ZI (@Za _ _ _ _ _ Zc Zb (by rfl)) (by rfl)) (by rfl)) (by rfl)))
  case' h2=>refine' (@Zy _ _ _ _ _ (@Za _ _ _ _ _ (pv 8) (@Za _ _ _ _ _ (pv 11) Zb (by rfl)) (by rfl)))
  case' h1=>refine' (@Zy _ _ _ _ _ (@Za _ _ _ _ _ Zr (@Za _ _ _ _ _ (pv 7) (@Za _ _ _ _ _ (pv 11) Zb (by rfl)) (by rfl)) (by rfl)))
  have n0:=ok.n0;have n1:=ok.n1;obtain⟨m1,m2,m3,m4⟩:=VJ ok;obtain⟨z1,z2,z3,z4⟩:=RJ ok;refine⟨_,rfl,pw,_,rfl,SqL.of tb.at_,rfl,_,_,rfl,_,_,rfl,_,_,rfl,_,_,rfl,_,_,rfl,rfl,λp hp=>?_⟩;have D0:Dc (upd H p (.dT [])) p []:=⟨[],Ze,Nat.le_refl _,(λk v h=>by cases h),(λS h=>by cases h)⟩;have S0:Zh p H (upd H p (.dT [])):=λc o e hc=>by rw[Zj hc];exact e
  generalize upd H p (.dT [])=H0 at D0 S0 ⊢;have nw:∀{c:Addr}{o:HO},H c=some o->c≠p:=λe=>Zk e hp;have rw4:∀{H':Hp},Zh p H H'->RowsAt b H' l4 T.t4:=λs=>tb.gr.keepB hp s;have rw3:∀{H':Hp},Zh p H H'->RowsAt b H' l3 T.t3:=λs=>tb.wy.keepB hp s;have rw2:∀{H':Hp},Zh p H H'->RowsAt b H' l2 T.t2:=λs=>tb.rd.keepB hp s;have rw1:∀{H':Hp},Zh p H H'->RowsAt b H' l1 T.t1:=λs=>tb.pl.keepB hp s;have DD:∀{H':Hp}{L:List Sx},Dc H' p L->Dc H' p (L++[]):=λh=>by rw[List.append_nil];exact h
  refine⟨_,rfl,l4,rfl,⟨_,SqL.of (rw4 S0).2.choose_spec.1⟩,?_⟩;refine JG (J:=Itl K l4) T.t4.length (λi σ H'=>Zh p H H'/\Dc H' p ((T.t4.take i).flatMap (Yu T))/\∃o7 o8 o9 o10 o11 o12 o13 o14 o15 o16 o17 o18 o19,σ=[some (.ref pw),some (.int T.n),some (.ref l1),some (.ref l2),some (.ref l3),some (.ref l4),some (.ref p),o7,o8,o9,o10,o11,o12,o13,o14,o15,o16,o17,o18,o19]) ⟨S0,D0,_,_,_,_,_,_,_,_,_,_,_,_,_,rfl⟩ (λi σ H' hi q=>(rw4 q.1).go hi) (λσ H' q=>(rw4 q.1).stop) (λi σ H' x H2 hi q yl=>?_) (λσ H1 q=>?_)
  ·obtain⟨s1,dc,o7,o8,o9,o10,o11,o12,o13,o14,o15,o16,o17,o18,o19,rfl⟩:=q;have e0:T.t4[i]?=some T.t4[i]:=List.getElem?_eq_getElem hi;obtain⟨rfl,a,rfl,na,ha⟩:=(rw4 s1).item e0 yl;have hy:T.t4[i]∈T.t4:=List.getElem_mem hi;have le1:=GG (f:=Yu T) (t:=T.t4) i;have le2:=Pq ok hy;rw[US hi];generalize T.t4[i]=y at ha hy le2;obtain⟨a1,b1,c1,d1,rfl,ga,gb,c0,c2,_,_⟩:=Gp ok hy;refine⟨a,_,rfl,SqT.of ha,rfl,_,_,rfl,_,_,rfl,_,_,rfl,_,_,rfl,rfl,?_⟩;refine⟨_,rfl,_,rfl,_,_,rfl,rfl,c1,T.n+1,rfl,⟨by omega,by omega,by omega,by omega⟩,?_⟩;refine JV (lo:=c1) (n:=(T.n+1-c1).toNat) (λm σ' H'=>Zh p H H'/\Dc H' p ((T.t4.take i).flatMap (Yu T)++(Yu T [.str a1,.str b1,.int c1,.int d1]).take m)/\∃o11 o12 o13 o14 o15 o16 o17 o18 o19,σ'=[some (.ref pw),some (.int T.n),some (.ref l1),some (.ref l2),some (.ref l3),some (.ref l4),some (.ref p),some (.str a1),some (.str b1),some (.int c1),some (.int d1),o11,o12,o13,o14,o15,o16,o17,o18,o19]) ⟨s1,DD dc,_,_,_,_,_,_,_,_,_,rfl⟩ (λm σ' H' hm q=>?_) (λσ' H' q=>?_)
   ·obtain⟨s2,dc2,o11,o12,o13,o14,o15,o16,o17,o18,o19,rfl⟩:=q;refine⟨_,rfl,_,rfl,_,rfl,zl,λq1 h1=>?_⟩;try dsimp only[tNil]
    refine nl2 h1 λH3 S3 e3=>?_;refine⟨zl,λq2 h2=>?_⟩;try dsimp only[tNil]
    refine nl2 h2 λH4 S4 e4=>?_;refine⟨_,rfl,_,rfl,_,rfl,zl,λq3 h3=>?_⟩;try dsimp only[tNil]
    have S35:=S3.trans S4;refine Gq h3 rfl (S:=outS [.str a1,.str b1,.int c1,.int d1] (c1+m)) hp (s2.trans (Zh.of S35)) (dc2.same S35) ?_ (.tup e4 (.cons (.str _) (.cons (.tup (S4 _ _ e3) (.cons (.str _) (.cons (.int _) .nil))) (.cons .non (.cons (.int _) .nil))))) λH6 s6 dc6=>⟨s6,?_,_,_,_,_,_,_,_,_,_,rfl⟩
    ·rw[List.length_append,List.length_take];omega
    ·rw[show Yu T [.str a1,.str b1,.int c1,.int d1]=(List.range (T.n+1-c1).toNat).map λ(m:Nat)=>outS [.str a1,.str b1,.int c1,.int d1] (c1+m)from rfl]at dc6 ⊢;rw[Vd hm,<-List.append_assoc];exact dc6
   ·obtain⟨s2,dc2,o11,o12,o13,o14,o15,o16,o17,o18,o19,rfl⟩:=q;refine⟨s2,?_,_,_,_,_,_,_,_,_,_,_,_,_,_,rfl⟩;rw[show(Yu T [.str a1,.str b1,.int c1,.int d1]).take (T.n+1-c1).toNat=Yu T [.str a1,.str b1,.int c1,.int d1]from List.take_of_length_le (by unfold Yu;rw[List.length_map,List.length_range];exact Nat.le_refl _)]at dc2;exact dc2
  obtain⟨s1,dc1,o7,o8,o9,o10,o11,o12,o13,o14,o15,o16,o17,o18,o19,rfl⟩:=q;rw[List.take_length]at dc1;refine⟨_,rfl,l2,rfl,⟨_,SqL.of (rw2 s1).2.choose_spec.1⟩,?_⟩;refine JG (J:=Itl K l2) T.t2.length (λi σ H'=>Zh p H H'/\Dc H' p (T.t4.flatMap (Yu T)++(T.t2.take i).map XX)/\∃o7 o8 o9 o10 o11 o12 o13 o14 o15 o16 o17 o18 o19,σ=[some (.ref pw),some (.int T.n),some (.ref l1),some (.ref l2),some (.ref l3),some (.ref l4),some (.ref p),o7,o8,o9,o10,o11,o12,o13,o14,o15,o16,o17,o18,o19]) ⟨s1,DD dc1,_,_,_,_,_,_,_,_,_,_,_,_,_,rfl⟩ (λi σ H' hi q=>(rw2 q.1).go hi) (λσ H' q=>(rw2 q.1).stop) (λi σ H' x H2 hi q yl=>?_) (λσ H1 q=>?_)
  ·obtain⟨s2,dc,o7,o8,o9,o10,o11,o12,o13,o14,o15,o16,o17,o18,o19,rfl⟩:=q;have e0:T.t2[i]?=some T.t2[i]:=List.getElem?_eq_getElem hi;obtain⟨rfl,a,rfl,na,ha⟩:=(rw2 s2).item e0 yl;have hy:T.t2[i]∈T.t2:=List.getElem_mem hi;have le1:((T.t2.take i).map XX).length<=80:=by rw[List.length_map,List.length_take];omega
   rw[map_take hi];generalize T.t2[i]=y at ha hy;obtain⟨a1,b1,d1,c1,e1,f1,rfl,_⟩:=NF ok hy;refine⟨a,_,rfl,SqT.of ha,rfl,_,_,rfl,_,_,rfl,_,_,rfl,_,_,rfl,_,_,rfl,_,_,rfl,rfl,?_⟩;refine⟨_,rfl,_,rfl,zl,λq1 h1=>?_⟩;try dsimp only[tNil]
   refine nl2 h1 λH3 S3 e3=>?_;refine⟨_,rfl,_,rfl,zl,λq2 h2=>?_⟩;try dsimp only[tNil]
   refine nl2 h2 λH4 S4 e4=>?_;refine⟨_,rfl,_,rfl,_,rfl,_,_,rfl,rfl,zl,λq3 h3=>?_⟩;try dsimp only[tNil]
   refine nl2 h3 λH5 S5 e5=>?_;refine⟨_,rfl,_,rfl,zl,λq4 h4=>?_⟩;try dsimp only[tNil]
   have S36:=(S3.trans S4).trans S5;refine Gq h4 rfl (S:=XX [.str a1,.str b1,.int c1,.str d1,.int e1,.int f1]) hp (s2.trans (Zh.of S36)) (dc.same S36) (by rw[List.length_append];omega) (.tup e5 (.cons (.tup (S5 _ _ (S4 _ _ e3)) (.cons (.str _) (.cons (.int _) .nil))) (.cons (.tup (S5 _ _ e4) (.cons (.str _) (.cons (.int _) .nil))) (.cons (.int _) (.cons (.int _) .nil))))) λH7 s7 dc7=>⟨s7,?_,_,_,_,_,_,_,_,_,_,_,_,_,_,rfl⟩;rw[<-List.append_assoc];exact dc7
  obtain⟨s2,dc2,o7,o8,o9,o10,o11,o12,o13,o14,o15,o16,o17,o18,o19,rfl⟩:=q;rw[List.take_length]at dc2;refine⟨_,rfl,l3,rfl,⟨_,SqL.of (rw3 s2).2.choose_spec.1⟩,?_⟩;refine JG (J:=Itl K l3) T.t3.length (λi σ H'=>Zh p H H'/\Dc H' p ((T.t4.flatMap (Yu T)++T.t2.map XX)++(T.t3.take i).flatMap (Yn T))/\∃o7 o8 o9 o10 o11 o12 o13 o14 o15 o16 o17 o18 o19,σ=[some (.ref pw),some (.int T.n),some (.ref l1),some (.ref l2),some (.ref l3),some (.ref l4),some (.ref p),o7,o8,o9,o10,o11,o12,o13,o14,o15,o16,o17,o18,o19]) ⟨s2,DD dc2,_,_,_,_,_,_,_,_,_,_,_,_,_,rfl⟩ (λi σ H' hi q=>(rw3 q.1).go hi) (λσ H' q=>(rw3 q.1).stop) (λi σ H' x H2 hi q yl=>?_) (λσ H1 q=>?_)
  ·obtain⟨s3,dc,o7,o8,o9,o10,o11,o12,o13,o14,o15,o16,o17,o18,o19,rfl⟩:=q;have e0:T.t3[i]?=some T.t3[i]:=List.getElem?_eq_getElem hi;obtain⟨rfl,a,rfl,na,ha⟩:=(rw3 s3).item e0 yl;have hy:T.t3[i]∈T.t3:=List.getElem_mem hi;have le1:=GG (f:=Yn T) (t:=T.t3) i;have le2:=MG ok hy;rw[US hi];generalize T.t3[i]=y at ha hy le2;obtain⟨a1,b1,c1,d1,e1,rfl,_,_,_,c0,c2,_⟩:=RF ok hy;refine⟨a,_,rfl,SqT.of ha,rfl,_,_,rfl,_,_,rfl,_,_,rfl,_,_,rfl,_,_,rfl,rfl,?_⟩;refine⟨_,rfl,_,_,rfl,rfl,_,rfl,_,_,rfl,rfl,T.n+1-d1,rfl,by omega,by omega,?_⟩;refine JV (lo:=0) (n:=(T.n+1-d1).toNat) (λm σ' H'=>Zh p H H'/\Dc H' p (((T.t4.flatMap (Yu T)++T.t2.map XX)++(T.t3.take i).flatMap (Yn T))++(Yn T [.str a1,.str b1,.str c1,.int d1,.int e1]).take m)/\∃o8 o9 o10 o11 o13 o15 o16 o19,σ'=[some (.ref pw),some (.int T.n),some (.ref l1),some (.ref l2),some (.ref l3),some (.ref l4),some (.ref p),some (.str a1),o8,o9,o10,o11,some (.str b1),o13,some (.str c1),o15,o16,some (.int d1),some (.int e1),o19]) ⟨s3,DD dc,_,_,_,_,_,_,_,_,rfl⟩ (λm σ' H' hm q=>?_) (λσ' H' q=>?_)
   ·obtain⟨s4,dc4,o8,o9,o10,o11,o13,o15,o16,o19,rfl⟩:=q;refine⟨_,rfl,_,rfl,zl,λq1 h1=>?_⟩;try dsimp only[tNil]
    refine nl2 h1 λH3 S3 e3=>?_;refine⟨_,rfl,_,rfl,_,rfl,_,_,rfl,rfl,zl,λq2 h2=>?_⟩;try dsimp only[tNil]
    refine nl2 h2 λH4 S4 e4=>?_;refine⟨_,rfl,_,rfl,zl,λq3 h3=>?_⟩;try dsimp only[tNil]
    refine nl2 h3 λH5 S5 e5=>?_;refine⟨_,rfl,_,rfl,_,rfl,zl,λq4 h4=>?_⟩;try dsimp only[tNil]
    have S36:=(S3.trans S4).trans S5;refine Gq h4 rfl (S:=GD [.str a1,.str b1,.str c1,.int d1,.int e1] (0+m)) hp (s4.trans (Zh.of S36)) (dc4.same S36) ?_ (.tup e5 (.cons (.tup (S5 _ _ (S4 _ _ e3)) (.cons (.str _) (.cons (.int _) .nil))) (.cons (.tup (S5 _ _ e4) (.cons (.str _) (.cons (.int _) .nil))) (.cons (.int _) (.cons (.int _) .nil))))) λH7 s7 dc7=>⟨s7,?_,_,_,_,_,_,_,_,_,rfl⟩
    ·simp only[List.length_append,List.length_take];omega
    ·rw[show Yn T [.str a1,.str b1,.str c1,.int d1,.int e1]=(List.range (T.n+1-d1).toNat).map λ(m:Nat)=>GD [.str a1,.str b1,.str c1,.int d1,.int e1] (0+m)from rfl]at dc7 ⊢;rw[Vd hm,<-List.append_assoc];exact dc7
   ·obtain⟨s4,dc4,o8,o9,o10,o11,o13,o15,o16,o19,rfl⟩:=q;refine⟨s4,?_,_,_,_,_,_,_,_,_,_,_,_,_,_,rfl⟩;rw[show(Yn T [.str a1,.str b1,.str c1,.int d1,.int e1]).take (T.n+1-d1).toNat=Yn T [.str a1,.str b1,.str c1,.int d1,.int e1]from List.take_of_length_le (by unfold Yn;rw[List.length_map,List.length_range];exact Nat.le_refl _)]at dc4;rw[<-List.append_assoc];exact dc4
  obtain⟨s3,dc3,o7,o8,o9,o10,o11,o12,o13,o14,o15,o16,o17,o18,o19,rfl⟩:=q;rw[List.take_length]at dc3;refine⟨_,rfl,l1,rfl,⟨_,SqL.of (rw1 s3).2.choose_spec.1⟩,?_⟩;refine JG (J:=Itl K l1) T.t1.length (λi σ H'=>Zh p H H'/\Dc H' p ((T.t4.flatMap (Yu T)++T.t2.map XX++T.t3.flatMap (Yn T))++(T.t1.take i).flatMap (Yr T))/\∃o7 o8 o9 o10 o11 o12 o13 o14 o15 o16 o17 o18 o19,σ=[some (.ref pw),some (.int T.n),some (.ref l1),some (.ref l2),some (.ref l3),some (.ref l4),some (.ref p),o7,o8,o9,o10,o11,o12,o13,o14,o15,o16,o17,o18,o19]) ⟨s3,DD dc3,_,_,_,_,_,_,_,_,_,_,_,_,_,rfl⟩ (λi σ H' hi q=>(rw1 q.1).go hi) (λσ H' q=>(rw1 q.1).stop) (λi σ H' x H2 hi q yl=>?_) (λσ H1 q=>?_)
  ·obtain⟨s4,dc,o7,o8,o9,o10,o11,o12,o13,o14,o15,o16,o17,o18,o19,rfl⟩:=q;have e0:T.t1[i]?=some T.t1[i]:=List.getElem?_eq_getElem hi;obtain⟨rfl,a,rfl,na,ha⟩:=(rw1 s4).item e0 yl;have hy:T.t1[i]∈T.t1:=List.getElem_mem hi;have le1:=GG (f:=Yr T) (t:=T.t1) i;have le2:=MI ok (y:=T.t1[i]);rw[US hi];generalize T.t1[i]=y at ha hy le2;obtain⟨⟨z1,rr⟩,rfl,_,_⟩:=Jh ok hy;refine⟨a,_,rfl,SqT.of ha,rfl,_,_,rfl,_,_,rfl,rfl,?_⟩;cases rr with
  |none=>refine⟨_,rfl,rfl,_,rfl,?_⟩;refine iteF ?_;refine⟨s4,?_,_,_,_,_,_,_,_,_,_,_,_,_,_,rfl⟩;rw[show Yr T (ZV (z1,none))=[]from if_pos rfl,List.append_nil];exact dc
  |some r1=>
    refine⟨_,rfl,rfl,_,rfl,?_⟩;refine iteT ?_;have ew:Yr T (ZV (z1,some r1))=(List.range T.n.toNat).map λ(m:Nat)=>GF (ZV (z1,some r1)) (0+m):=if_neg (λz=>by cases z);refine⟨_,rfl,T.n,rfl,by omega,by omega,?_⟩;refine JV (lo:=0) (n:=T.n.toNat) (λm σ' H'=>Zh p H H'/\Dc H' p (((T.t4.flatMap (Yu T)++T.t2.map XX++T.t3.flatMap (Yn T))++(T.t1.take i).flatMap (Yr T))++(Yr T (ZV (z1,some r1))).take m)/\∃o7 o9 o10 o11 o12 o13 o14 o15 o16 o17 o18,σ'=[some (.ref pw),some (.int T.n),some (.ref l1),some (.ref l2),some (.ref l3),some (.ref l4),some (.ref p),o7,some (.str z1),o9,o10,o11,o12,o13,o14,o15,o16,o17,o18,some (.int r1)]) ⟨s4,DD dc,_,_,_,_,_,_,_,_,_,_,_,rfl⟩ (λm σ' H' hm q=>?_) (λσ' H' q=>?_)
    ·obtain⟨s5,dc5,o7,o9,o10,o11,o12,o13,o14,o15,o16,o17,o18,rfl⟩:=q;refine⟨_,rfl,_,rfl,zl,λq1 h1=>?_⟩;try dsimp only[tNil]
     refine nl2 h1 λH3 S3 e3=>?_;refine⟨_,rfl,_,rfl,_,_,rfl,rfl,zl,λq2 h2=>?_⟩;try dsimp only[tNil]
     refine nl2 h2 λH4 S4 e4=>?_;refine⟨_,rfl,zl,λq3 h3=>?_⟩;try dsimp only[tNil]
     refine nl2 h3 λH5 S5 e5=>?_;refine⟨_,rfl,_,rfl,_,rfl,zl,λq4 h4=>?_⟩;try dsimp only[tNil]
     have S36:=(S3.trans S4).trans S5;refine Gq h4 rfl (S:=GF (ZV (z1,some r1)) (0+m)) hp (s5.trans (Zh.of S36)) (dc5.same S36) ?_ (.tup e5 (.cons (.tup (S5 _ _ (S4 _ _ e3)) (.cons (.str _) (.cons (.int _) .nil))) (.cons (.tup (S5 _ _ e4) (.cons (.str _) (.cons (.int _) .nil))) (.cons (.int _) (.cons (.int _) .nil))))) λH7 s7 dc7=>⟨s7,?_,_,_,_,_,_,_,_,_,_,_,_,rfl⟩
     ·simp only[List.length_append,List.length_take];omega
     ·rw[ew]at dc7 ⊢;rw[Vd hm,<-List.append_assoc];exact dc7
    ·obtain⟨s5,dc5,o7,o9,o10,o11,o12,o13,o14,o15,o16,o17,o18,rfl⟩:=q;refine⟨s5,?_,_,_,_,_,_,_,_,_,_,_,_,_,_,rfl⟩;rw[show(Yr T (ZV (z1,some r1))).take T.n.toNat=Yr T (ZV (z1,some r1))from List.take_of_length_le (by rw[ew,List.length_map,List.length_range];exact Nat.le_refl _)]at dc5;rw[<-List.append_assoc];exact dc5
  obtain⟨s4,dc4,o7,o8,o9,o10,o11,o12,o13,o14,o15,o16,o17,o18,o19,rfl⟩:=q;rw[List.take_length]at dc4;exact⟨_,rfl,k H1 p (λc o e=>s4 c o e (nw e)) hp dc4⟩
end
end SX
namespace L2
open PySem PySem.Spec PyProof.Rows
theorem Jc{X:Cx}:YK X (.builtin "isinstance") (λxs H Q=>∃x C t b,xs=[x,.ref C]/\TyOf X.K H x t/\PySem.W.kitOne X.K t (.ref C)=some b/\Q (.bl b) H):=by intro pins s σ H xs us Q I r h;obtain⟨x,c,t,b,rfl,ty,e,q⟩:=h;obtain⟨u,w',rfl,ru,rw'⟩:=vals2 r;cases rw';exact MU I ru ty e λtk=>⟨.bl b,H,I.tok tk,rfl,q⟩
end L2
namespace SX
open PySem L2 PySem.Spec PyProof.Rows TB WD
theorem X9:GS "out"/\GS "ride"/\GS "walk"/\GS "wait"/\GS "step":=by decide +kernel
theorem Yv{i:Int}(h0:-1000<=i)(h1:i<=1000):Atm (.int i):=.int (by omega)
structure Small(S:Sx):Prop where
 key:RowG (S.key.map kV)
 tell:Sm (J1 S) 2 200000
theorem J7{a b:V}(ha:Atm a)(hb:Atm b):Sm (.tuple [dF a,dF b]) 1 100:=by
 refine(SmAll.tup (ds:=[dF a,dF b]) (n:=2) (SmAll.of (k:=0) (m:=12) λd hd=>?_) (Nat.le_refl 2)).mono (by decide) (by decide);simp only[List.mem_cons,List.not_mem_nil,or_false]at hd;rcases hd with rfl|rfl
 ·exact ha.sm
 ·exact hb.sm
theorem Gx{a b c d:PyData}(ha:Sm a 1 100)(hb:Sm b 1 100)(hc:Sm c 0 12)(hd:Sm d 0 12):Sm (.tuple [a,b,c,d]) 2 200000:=by
 refine(SmAll.tup (ds:=[a,b,c,d]) (n:=4) (SmAll.of (k:=1) (m:=100) λe he=>?_) (Nat.le_refl 4)).mono (by decide) (by decide);simp only[List.mem_cons,List.not_mem_nil,or_false]at he;rcases he with rfl|rfl|rfl|rfl
 ·exact ha
 ·exact hb
 ·exact hc.mono (by decide) (by decide)
 ·exact hd.mono (by decide) (by decide)
theorem WV{ks:List Key}(hl:ks.length<=6)(h:∀k∈ks,Atm (kV k)):RowG (ks.map kV):=⟨by rw[List.length_map];exact hl,λy hy=>by obtain⟨k,hk,rfl⟩:=List.mem_map.mp hy;exact h k hk⟩
theorem UA{a b:Str}{i:Int}(ha:GS a)(hb:GS b)(hi:Atm (.int i)):RowG ([Sum.inr a,.inr b,.inl i].map kV):=WV (Nat.le_of_ble_eq_true rfl) λk hk=>by
 simp only[List.mem_cons,List.not_mem_nil,or_false]at hk;rcases hk with rfl|rfl|rfl
 ·exact .str ha
 ·exact .str hb
 ·exact hi
theorem ZU.small{T:Tb}(o:OkTb T){vs:List V}{j:Nat}{S:Sx}(h:ZU T vs j S):Small S:=by
 obtain⟨g1,g2,g3,g4,_⟩:=X9;have n0:=o.n0;have n1:=o.n1;rcases h with⟨y,hy,i,e,h1,h2,_,rfl⟩|⟨y,hy,e,_,rfl⟩|⟨y,hy,i,e,h1,h2,_,rfl⟩|⟨y,hy,i,e,h0,h1,h2,_,rfl⟩
 ·obtain⟨a,b,c,d,rfl,ga,gb,c0,c1,_⟩:=Gp o hy;have hi:Atm (.int i):=Yv (by have:c<=i:=h1;omega) (by omega);exact⟨UA g1 ga hi,Gx ((Atm.str ga).sm.mono (by decide) (by decide)) (J7 (.str gb) hi) Atm.non.sm (Yv (i:=0) (by decide) (by decide)).sm⟩
 ·obtain⟨a,b,d,c,e',f,rfl,ga,gb,gd,c0,c1,c2,f0,f1⟩:=NF o hy;refine⟨WV (Nat.le_of_ble_eq_true rfl) λk hk=>?_,Gx (J7 (.str gb) (Yv (i:=c) (by omega) (by omega))) (J7 (.str gd) (Yv (i:=e') (by omega) (by omega))) (Yv (i:=f) (by omega) (by omega)).sm (Yv (i:=e'-c) (by omega) (by omega)).sm⟩;have hk:k∈[(Sum.inr "ride":Key),.inr a]:=hk;simp only[List.mem_cons,List.not_mem_nil,or_false]at hk;rcases hk with rfl|rfl
  ·exact .str g2
  ·exact .str ga
 ·obtain⟨a,b,c,d,e',rfl,ga,gb,gc,d0,d1,e0,e1⟩:=RF o hy;have h2':i<=T.n-d:=h2;have hi:Atm (.int i):=Yv (by omega) (by omega);exact⟨UA g3 ga hi,Gx (J7 (.str gb) hi) (J7 (.str gc) (Yv (i:=i+d) (by omega) (by omega))) (Yv (i:=e') (by omega) (by omega)).sm (Yv (i:=d) (by omega) (by omega)).sm⟩
 ·obtain⟨⟨z,r⟩,rfl,gz,hr⟩:=Jh o hy;have hi:Atm (.int i):=Yv (by omega) (by omega);refine⟨UA g4 gz hi,Gx (J7 (.str gz) hi) (J7 (.str gz) (Yv (i:=i+1) (by omega) (by omega))) ?_ (Yv (i:=1) (by decide) (by decide)).sm⟩;cases r with
 |none=>exact Atm.non.sm
 |some r=>have:=hr r rfl;exact(Yv (i:=r) (by omega) (by omega)).sm
theorem Atm.lay{v:V}(h:Atm v):(dF v).canLay0=true:=by
 cases h with
|non=>rfl
|int h=>rfl
|str h=>show(Array.all _ _)=true;rw[Array.all_eq_true'];intro c hc;simpa using h.2 c (by simpa using hc)
theorem Lu{H:Hp}{v:V}(h:Atm v):Itm H v:=by
 refine⟨?_,dF v,h.is,?_⟩
 ·cases h with
 |non=>exact⟨_,.non⟩
 |int h=>exact⟨_,.int _⟩
 |str h=>exact⟨_,.str _ (Nat.le_trans h.1 (by decide))⟩
 ·unfold SeqAt.shaped;rw[Atm.lay h,decide_eq_true (Nat.le_trans h.sm.dp (by decide))];rfl
def LP(K:PySem.W.Frag)(T:Tb)(H:Hp)(x:V):Prop:=Ri K H x\/∃a xs,x=.ref a/\H a=some (.tup xs)/\xs.length<=1000/\(∀v∈xs,Itm H v)/\∀j S,¬ZU T xs j S
def GO(K:PySem.W.Frag)(C Cn:Addr)(Cs:Nat->Addr):Sp:=λvs H Q E=>∃(t:Addr)(x:V)(T:Tb),vs=[.ref t,x]/\Tel H C t T/\OkTb T /\((∃a xs j S,x=.ref a/\H a=some (.tup xs)/\ZU T xs j S/\∀H' q,Same H H'->N4 H' Cs q j S->Q (.ref q) H') \/(LP K T H x/\∀H' d,Same H H'->H' d=some (XD d [("found",x)])->E (.ref Cn) (some d) H'))
theorem Le{T:Tb}(o:OkTb T){xs:List V}{j:Nat}{S:Sx}(h:ZU T xs j S){H:Hp}:xs.length<=1000/\∀v∈xs,Itm H v:=by have sm:=(h.small o).key;rw[h.key.1];exact⟨Nat.le_trans sm.1 (by decide),λv hv=>Lu (sm.2 v hv)⟩
section
variable {P:Program}{w:World}{K:PySem.W.Frag}{mg:Str->Option Value}{base:Heap}{C Cn:Addr}{Cs:Nat->Addr}
theorem GW:FnScope ["table","key","step"] ["table","key"] (Zf T.f_step_of):=scO (by decide +kernel)
theorem QY(B:Err P w K mg base "NoStep" ["found"] Cn)(CS:Can P w K mg base 5 "step_or_none" ["table","key"] (spSN K C Cs))(D:Df K mg "step_of" T.f_step_of ["table","key"]):CanX P w K mg base 6 "step_of" ["table","key"] (GO K C Cn Cs):=by
 refine D.canX GW (λvs H Q E h=>?_) (λf cdv A outer s H vs Q E hr h=>?_)
 ·obtain⟨t,x,T,rfl,_⟩:=h;rfl
 ·obtain⟨t,x,T,rfl,tel,ok,h⟩:=h;refine⟨_,(Zd (st 2 GW.nd (cn CS hr (Za (pv 0) (Za (pv 1) Zb)))) (Zd (ZH (ZF NJ (pv 2) ZI (ZE _)) (Zi (XY (E:=E) B Y6 rfl (hr.mono (by decide)) rfl (Za (pv 1) Zb))) Zv) (Zi (Zo (pv 2))))),?_⟩;refine⟨_,rfl,_,rfl,t,x,T,rfl,tel,ok,?_⟩;rcases h with⟨a,xs,j,S,rfl,ha,hs,k⟩|⟨hn,k⟩
  ·obtain⟨i1,i2⟩:=Le ok hs (H:=H);refine .inr ⟨a,xs,rfl,ha,i1,i2,λj' S' hs' H' q s' st=>?_,λn=>absurd hs (n j S)⟩;obtain⟨rfl,rfl⟩:=hs.uniq ok hs';refine⟨_,rfl,rfl,_,rfl,?_⟩;refine iteF ?_;exact⟨_,rfl,k H' q s' st⟩
  ·have go:∀H',Same H H'->∀(d':Addr)(H2:Hp),H' d'=none->H2 d'=some (XD d' [("found",x)])->(∀b,b≠d'->H2 b=H' b)->E (.ref Cn) (some d') H2:=λH' s' d' H2 hd e hb=>k H2 d' (λc o ec=>by have:=s' c o ec;rw[hb c (Zk this hd)];exact this) e;rcases hn with hn|⟨a,xs,rfl,ha,i1,i2,hno⟩
   ·refine .inl ⟨hn,λH' s'=>?_⟩;refine⟨_,rfl,rfl,_,rfl,?_⟩;refine iteT ?_;exact⟨_,rfl,rfl,λH2 d' hd e hb=>go H' s' d' H2 hd e hb⟩
   ·refine .inr ⟨a,xs,rfl,ha,i1,i2,λj S hs=>absurd hs (hno j S),λ_ H' s'=>?_⟩;refine⟨_,rfl,rfl,_,rfl,?_⟩;refine iteT ?_;exact⟨_,rfl,rfl,λH2 d' hd e hb=>go H' s' d' H2 hd e hb⟩
end
structure STy(K:PySem.W.Frag)(mg:Str->Option Value)(Cs:Nat->Addr)(Cb:Addr):Prop where
 ty:∀j,j<4->∀(H:Hp)(a dx:Addr)(fs:List (Str×V)),H a=some (.ins (Cs j) dx fs)->TyOf K H (.ref a) (.ref (Cs j))
 kk:∀i j,i<4->j<4->PySem.W.kitOne K (.ref (Cs j)) (.ref (Cs i))=some (decide (j=i))
 kb:∀j,j<4->PySem.W.kitOne K (.ref (Cs j)) (.ref Cb)=some true
 m0:mg "SetOut"=some (.ref (Cs 0))
 m1:mg "Ride"=some (.ref (Cs 1))
 m2:mg "Walk"=some (.ref (Cs 2))
 m3:mg "Wait"=some (.ref (Cs 3))
 m4:mg "Step"=some (.ref Cb)
structure STold(P:Program)(w:World)(K:PySem.W.Frag)(mg:Str->Option Value)(base:Heap)(C:Addr):Prop where
 key:CanM P w K mg base CX0 1 C "key" ["self"] (J2 K "its_key")
 tail:CanM P w K mg base CX0 1 C "tail" ["self"] (J2 K "its_tail")
 head:CanM P w K mg base CX0 1 C "head" ["self"] (J2 K "its_head")
 room:CanM P w K mg base CX0 1 C "room" ["self"] (J2 K "its_room")
 price:CanM P w K mg base CX0 1 C "price" ["self"] (J2 K "its_price")
noncomputable def wd:List Str:=["out","ride","walk","wait"]
theorem Kz{T:Tb}{xs:List V}{j:Nat}{S:Sx}(h:ZU T xs j S):atI xs 0=some (.str (wd.getD j "")):=by rcases h with⟨y,_,i,rfl,_,_,rfl,_⟩|⟨y,_,rfl,rfl,_⟩|⟨y,_,i,rfl,_,_,rfl,_⟩|⟨y,_,i,rfl,_,_,_,rfl,_⟩<;>exact Zn (j:=0) rfl
theorem Eg:∀i,i<4->∀j,j<4->decide (wd.getD j ""=wd.getD i "")=decide (j=i):=by decide +kernel
theorem bools(a b c d:Bool):SeqAt.shaped (.list [.bool a,.bool b,.bool c,.bool d])=true/\PyData.eqv (.list [.bool a,.bool b,.bool c,.bool d]) (.list [.bool a,.bool b,.bool c,.bool d])=true:=by cases a<;>cases b<;>cases c<;>cases d<;>decide +kernel
def RA(C:Addr)(Cs:Nat->Addr):Sp:=λvs H Q _=>∃(t d k:Addr)(T:Tb)(xs:List V)(j:Nat)(S:Sx),vs=[.ref t,.ref d,.ref k]/\Tel H C t T/\OkTb T/\Dc H d (allS T)/\H k=some (.tup xs)/\ZU T xs j S/\∀H',Same H H'->Q (.bl true) H'
theorem Lh{H:Hp}{T:Tb}(o:OkTb T){xs:List V}{j:Nat}{S:Sx}(h:ZU T xs j S):Is H S.room (dF S.room):=by
 rcases h with⟨y,hy,i,_,_,_,_,rfl⟩|⟨y,hy,_,_,rfl⟩|⟨y,hy,i,_,_,_,_,rfl⟩|⟨y,hy,i,_,_,_,_,_,rfl⟩
 ·exact .non
 ·exact .int _
 ·exact .int _
 ·obtain⟨⟨z,r⟩,rfl,_⟩:=Jh o hy;cases r with
 |none=>exact .non
 |some r=>exact .int _
section
variable {P:Program}{w:World}{K:PySem.W.Frag}{mg:Str->Option Value}{base:Heap}{C Cn Cb:Addr}{Cs:Nat->Addr}
theorem Xd:FnScope ["_law_table_here","_law_steps_here","_law_key","_law_step","_law_kinds","_law_told"] ["_law_table_here","_law_steps_here","_law_key"] (Zf T.f__law_right):=scO (by decide +kernel)
noncomputable def Xo:Scope:={kind:=.function,names:=[(Str.ofString ".0",.local),(Str.ofString "_law_word",.local),(Str.ofString "_law_key",.free)],isGenerator:=false,isCoroutine:=false,more:=[]}
theorem V5:CompScope Xo (Zf T.f__law_right):=⟨rfl,by decide +kernel,by decide +kernel,by decide +kernel⟩
theorem V7:(["_law_word","_law_key"]:List Str).Nodup:=by decide +kernel
theorem V6:CompNames ["_law_table_here","_law_steps_here","_law_key","_law_step","_law_kinds","_law_told"] Xo ["_law_word","_law_key"] [none,some 2]:=.mk' (by decide +kernel)
theorem Tz(B:∀x∈Blts,mg x=none)(ZS:∀j,j<4->SCl K (Cs j))(Y:STy K mg Cs Cb)(G:∀j,j<4->STold P w K mg base (Cs j))(CS:CanX P w K mg base 6 "step_of" ["table","key"] (GO K C Cn Cs))(D:Df K mg "_law_right" T.f__law_right ["_law_table_here","_law_steps_here","_law_key"]):Can P w K mg base 7 "_law_right" ["_law_table_here","_law_steps_here","_law_key"] (RA C Cs):=by
 refine D.can Xd (λvs H Q E h=>?_) (λf cdv A outer s H vs Q E hr h=>?_)
 ·obtain⟨t,d,k,T,xs,j,S,rfl,_⟩:=h;rfl
 ·obtain⟨t,d,k,T,xs,j,S,rfl,tel,ok,dc,hk,hs,kq⟩:=h;have hj:=hs.key.2;have Z:=ZS j hj;obtain⟨G1,G2,G3,G4,G5⟩:=G j hj;refine' ⟨_,(@Zd _ _ _ _ _ ?h5 (@Zd _ _ _ _ _ ?h6 (@Zd _ _ _ _ _ ?h7 (@Zd _ _ _ _ _ ?h8 (@Zi _ _ _ ?h9))))),?rd⟩;case' h9=>refine' (Zo (JD (@YB _ _ _ _ _ _ _ _ X4 (ZC (Y1 hr) rfl (B _ (by decide +kernel)) PyProof.Rows.boot_repr (@Za _ _ _ _ _ (XZ G1 Z.cl Z1 (hr.mono (by decide)) (pv 3)) Zb (by rfl))) (ZC (Y1 hr) rfl (B _ (by decide +kernel)) PyProof.Rows.boot_repr (@Za _ _ _ _ _ (pv 2) Zb (by rfl))) (ZE _)) (Y9 (@YB _ _ _ _ _ _ _ _ X4 (ZC (Y1 hr) rfl (B _ (by decide +kernel)) PyProof.Rows.boot_repr (@Za _ _ _ _ _ (pv 5) Zb (by rfl))) (ZC (Y1 hr) rfl (B _ (by decide +kernel)) PyProof.Rows.boot_repr (@Za _ _ _ _ _ (JO (Y7 hr) (pv 1) (pv 2) (λ_ _=>rfl)) Zb (by rfl))) (ZE _)))))
  case' h8=>refine' (@st _ _ _ _ 5 _ _ Xd.nd ?h4 (by rfl) (by exact Or.inl rfl) (by rfl) (by exact .inl rfl))
  case' h7=>refine' (@ZH _ _ _ _ _ _ _ _ (PW.pt (VA (ZQ (ZD (ZC Jc rfl (B _ (by decide +kernel)) PyProof.Rows.boot_isinstance (@Za _ _ _ _ _ (pv 3) (@Za _ _ _ _ _ (ZO (v:=.ref Cb) rfl Y.m4 rfl) Zb (by rfl)) (by rfl))))) (Jf (@ZF _ _ _ _ _ _ _ _ (Dw hr.units) (pv 4) (YG (scope:=Xo) (N:=["_law_word","_law_key"]) (cp:=[none,some 2]) rfl V5 V6 (Yo ?h2) (λC s H ex pn=>(Zp (i:=0) V7 rfl (Or.inl rfl))) (λC s H ex pn=>Ys) (λC s H ex pn=>(YB X4 (it K (pv 1) Zc) (pv 0) (ZE _)))) (ZE _))))) (@Zi _ _ _ ?h3) Zv)
  case' h6=>refine' (@st _ _ _ _ 4 _ _ Xd.nd ?h1 (by rfl) (by exact Or.inl rfl) (by rfl) (by exact .inl rfl))
  case' h5=>refine' (@st _ _ _ _ 3 _ _ Xd.nd (Xe CS WG (hr.mono (by decide)) rfl (@Za _ _ _ _ _ (pv 0) (@Za _ _ _ _ _ (pv 2) Zb (by rfl)) (by rfl))) (by rfl) (by exact Or.inl rfl) (by rfl) (by exact .inl rfl))
  case' h4=>refine' (@Zy _ _ _ _ _ (@Za _ _ _ _ _ (XZ G2 Z.cl Z1 (hr.mono (by decide)) (pv 3)) (@Za _ _ _ _ _ (XZ G3 Z.cl Z1 (hr.mono (by decide)) (pv 3)) (@Za _ _ _ _ _ (XZ G4 Z.cl Z1 (hr.mono (by decide)) (pv 3)) (@Za _ _ _ _ _ (XZ G5 Z.cl Z1 (hr.mono (by decide)) (pv 3)) Zb (by rfl)) (by rfl)) (by rfl)) (by rfl)))
  case' h3=>refine' (Zo J5)
  case' h2=>refine' (@Z2 _ _ _ _ (@Za _ _ _ _ _ Zr (@Za _ _ _ _ _ Zr (@Za _ _ _ _ _ Zr (@Za _ _ _ _ _ Zr Zb (by rfl)) (by rfl)) (by rfl)) (by rfl)))
  case' h1=>refine' (@Z2 _ _ _ _ (@Za _ _ _ _ _ (ZC Jc rfl (B _ (by decide +kernel)) PyProof.Rows.boot_isinstance (@Za _ _ _ _ _ (pv 3) (@Za _ _ _ _ _ (ZO (v:=.ref (Cs 0)) rfl Y.m0 rfl) Zb (by rfl)) (by rfl))) (@Za _ _ _ _ _ (ZC Jc rfl (B _ (by decide +kernel)) PyProof.Rows.boot_isinstance (@Za _ _ _ _ _ (pv 3) (@Za _ _ _ _ _ (ZO (v:=.ref (Cs 1)) rfl Y.m1 rfl) Zb (by rfl)) (by rfl))) (@Za _ _ _ _ _ (ZC Jc rfl (B _ (by decide +kernel)) PyProof.Rows.boot_isinstance (@Za _ _ _ _ _ (pv 3) (@Za _ _ _ _ _ (ZO (v:=.ref (Cs 2)) rfl Y.m2 rfl) Zb (by rfl)) (by rfl))) (@Za _ _ _ _ _ (ZC Jc rfl (B _ (by decide +kernel)) PyProof.Rows.boot_isinstance (@Za _ _ _ _ _ (pv 3) (@Za _ _ _ _ _ (ZO (v:=.ref (Cs 3)) rfl Y.m3 rfl) Zb (by rfl)) (by rfl))) Zb (by rfl)) (by rfl)) (by rfl)) (by rfl)))
  refine⟨_,rfl,_,rfl,t,_,T,rfl,tel,ok,.inl ⟨k,xs,j,S,rfl,hk,hs,λH1 q S1 st=>?_⟩⟩;obtain⟨dx,kk,vt,vh,hq,hkk,i1,i2⟩:=id st;have ty:∀{H':Hp},Same H1 H'->TyOf K H' (.ref q) (.ref (Cs j)):=λs=>Y.ty j hj _ _ _ _ (s _ _ hq);have ty1:=ty (Same.refl H1);refine⟨_,rfl,_,Cs 0,.ref (Cs j),_,rfl,ty1,Y.kk 0 j (by decide) hj,_,rfl,_,Cs 1,.ref (Cs j),_,rfl,ty1,Y.kk 1 j (by decide) hj,_,rfl,_,Cs 2,.ref (Cs j),_,rfl,ty1,Y.kk 2 j (by decide) hj,_,rfl,_,Cs 3,.ref (Cs j),_,rfl,ty1,Y.kk 3 j (by decide) hj,zl,λc hc=>?_⟩;try dsimp only[tNil]
  refine nl2 hc λH2 S2 e2=>?_;have S12:=S1.trans S2;refine⟨_,rfl,_,Cb,.ref (Cs j),true,rfl,ty S2,Y.kb j hj,_,rfl,?_⟩;refine iteF ?_;refine⟨_,rfl,zl,λc2 hc2=>?_⟩;try dsimp only[tNil]
  have S3:=sameNew (o:=.lst [.str "out",.str "ride",.str "walk",.str "wait"]) (Same.refl H2) hc2;have e3:upd H2 c2 (.lst [.str "out",.str "ride",.str "walk",.str "wait"]) c2=some (.lst [.str "out",.str "ride",.str "walk",.str "wait"]):=Ze;generalize upd H2 c2 (.lst [.str "out",.str "ride",.str "walk",.str "wait"])=H3 at S3 e3 ⊢;have S13:=S12.trans S3;have at0:=Kz hs;have hk3:=S13 _ _ hk;refine⟨c2,rfl,⟨_,SqL.of e3⟩,?_⟩;refine Yd (J:=Itl K c2) 4 (by decide) (λi us τ H'=>H'=H3/\us=((List.range 4).take i).map (λn=>V.bl (decide (j=n)))/\∃v,τ=[v,some (.ref k)]) ⟨rfl,rfl,none,rfl⟩ (λi us τ H' p=>by rw[p.2.1,List.length_map,List.length_take];omega) (λi us τ H' hi p=>?_) (λus τ H' p=>?_) (λi us τ H' x H4 hi p yl=>?_) (λus τ H' p c3 hc3=>?_)
  ·obtain⟨rfl,_⟩:=p;exact⟨_,_,SqL.of e3,List.getElem?_eq_getElem (by exact hi)⟩
  ·obtain⟨rfl,_⟩:=p;exact⟨_,SqL.of e3,Nat.le_refl _⟩
  ·obtain⟨rfl,rfl,v,rfl⟩:=p;obtain⟨rfl,hy⟩:=yl;have hx:=hy _ (SqL.of e3);have hx:x=.str (wd.getD i ""):=by have:([V.str "out",.str "ride",.str "walk",.str "wait"]:List V)[i]?=some x:=hx;rcases(by omega:i=0\/i=1\/i=2\/i=3)with rfl|rfl|rfl|rfl<;>(cases this;rfl)
   subst hx;refine⟨_,rfl,k,_,0,_,rfl,rfl,SqT.of hk3,at0,_,rfl,rfl,rfl,?_,_,rfl⟩;rw[List.take_succ,List.getElem?_range hi,List.map_append];have:decide (V.str (wd.getD j "")=V.str (wd.getD i ""))=decide (j=i):=by
    rw[<-Eg i hi j hj];by_cases q:wd.getD j ""=wd.getD i ""
    ·rw[q,decide_eq_true rfl,decide_eq_true rfl]
    ·rw[decide_eq_false q,decide_eq_false (λz=>q (by injection z))]
   rw[this];rfl
  obtain⟨rfl,rfl,v,rfl⟩:=p;rw[show((List.range 4).take 4).map (λn=>V.bl (decide (j=n)))=[V.bl (decide (j=0)),.bl (decide (j=1)),.bl (decide (j=2)),.bl (decide (j=3))]from rfl];refine nl2 hc3 λH4 S4 e4=>?_;have S14:=S13.trans S4;have S24:=S3.trans S4;have bb:=bools (decide (j=0)) (decide (j=1)) (decide (j=2)) (decide (j=3));refine⟨_,_,.lst (S24 _ _ e2) (.cons (.bl _) (.cons (.bl _) (.cons (.bl _) (.cons (.bl _) .nil)))),.lst e4 (.cons (.bl _) (.cons (.bl _) (.cons (.bl _) (.cons (.bl _) .nil)))),bb.1,bb.1,_,rfl,?_⟩;rw[bb.2];refine iteF ?_;have SS:=S2.trans S24;have hq4:=SS _ _ hq;have ro:=Lh (H:=H4) ok hs;refine⟨_,rfl,q,dx,_,rfl,hq4,rfl,q,Cs j,dx,_,vt,rfl,Z,hq4,rfl,_,rfl,q,dx,_,rfl,hq4,rfl,q,Cs j,dx,_,vh,rfl,Z,hq4,rfl,_,rfl,q,dx,_,rfl,hq4,rfl,q,Cs j,dx,_,S.room,rfl,Z,hq4,rfl,_,rfl,q,dx,_,rfl,hq4,rfl,q,Cs j,dx,_,.int S.price,rfl,Z,hq4,rfl,zl,λc5 hc5=>?_⟩;try dsimp only[tNil]
  refine nl2 hc5 λH5 S5 e5=>?_;have S05:=S14.trans S5;have SS5:=SS.trans S5;have hq5:=SS5 _ _ hq;have sm:=hs.small ok;have k1:=(Wn sm.key).shw (by decide) (by decide);have k2:=sm.tell.shw (by decide) (by decide);obtain⟨kvs,ed,_,h1,h2⟩:=dc;obtain⟨v',hv'⟩:=Option.isSome_iff_exists.mp (h2 S (GL ok hs));obtain⟨S',hS',ek,iv⟩:=h1 _ _ hv';obtain⟨j',hs'⟩:=Uu ok hS';rw[ek,<-hs.key.1]at hs';obtain⟨rfl,rfl⟩:=hs.uniq ok hs';have ik:Is H5 (.ref k) (rowD (S.key.map kV)):=.tup (by rw[<-hs.key.1];exact S05 _ _ hk) (JT sm.key.2);refine⟨_,rfl,q,dx,_,rfl,hq5,rfl,q,Cs j,dx,_,.ref kk,rfl,Z,hq5,rfl,_,_,rfl,.of (.tup (SS5 _ _ hkk) (JT sm.key.2)),k1.1,k1.2,k1.3,?_⟩;refine⟨_,rfl,_,_,rfl,.of ik,k1.1,k1.2,k1.3,rfl,true,?_,?_⟩
  ·exact congrArg V.bl (decide_eq_true rfl)
  refine iteT ?_;refine⟨_,rfl,_,_,rfl,.of (.tup e5 (.cons (i1.same SS5) (.cons (i2.same SS5) (.cons (ro.same S5) (.cons (.int _) .nil))))),k2.1,k2.2,k2.3,?_⟩;refine⟨_,rfl,_,rfl,d,v',rfl,?_,_,_,rfl,.of (iv.same S05),k2.1,k2.2,k2.3,rfl,?_⟩
  ·rw[<-hv'];exact DGet.t (S05 _ _ ed) (by rw[<-hs.key.1];exact S05 _ _ hk)
  show Q (.bl (decide (V.str (J1 S).shown=V.str (J1 S).shown))) H5;rw[decide_eq_true rfl];exact kq H5 S05
end
end SX
namespace L2
open PySem PySem.Spec PyProof.Rows
noncomputable def okIs:Option Key->Value->Bool
|none,v=>(match v with|.none=>true|_=>false)
|some k,v=>Ga k v
noncomputable def okH(w:World):Option Key->Int
|none=>reduceHash 4238894112
|some k=>keyH w k
theorem YH:∀{k:Option Key}{v:Value},okIs k v=true->(k=none/\v=.none)\/∃q,k=some q/\Ga q v=true
|none,v,h=>by
  cases v with
 |none=>exact .inl ⟨rfl,rfl⟩
 |_=>cases h
|some q,v,h=>.inr ⟨q,rfl,h⟩
theorem SV{prog:Program}{w:World}{A:Around}{E:Value->Shared->Prop}{s:Shared}{Q:Int->Shared->Prop}(h:Q (reduceHash 4238894112) {s with toks:=s.toks+1}):wpAny (model prog w) A (pyHash .none) Q E s:=by show wpAny _ _ (pyHashByItsType .none) _ _ _;refine PySem.W.pyHash_slot (T:="NoneType") rfl F.slot_NoneType_hash F.entry_NoneType_hash (F.args_NoneType_hash_1 _) (by decide) (.inl rfl) ?_;show wpAny _ _ (retInt 4238894112) _ _ _;unfold retInt;refine wpAny_bind (wpAny_mkInt ?_);exact wpAny_pure ⟨_,_,rfl,h⟩
theorem Lk{prog:Program}{w:World}{A:Around}{E:Value->Shared->Prop}{s:Shared}{Q:Bool->Shared->Prop}(h:Q true s):wpAny (model prog w) A (eqBool .none .none) Q E s:=by unfold eqBool;refine wpAny_holding ?_;rw[if_pos (by decide)];exact wpAny_bind (wpAny_rule (wpAny_pure h))
theorem EG(k:Key):decide ((none:Option Key)=some k)=false:=decide_eq_false (λq=>nomatch q)
theorem EF(k:Key):decide ((some k:Option Key)=none)=false:=decide_eq_false (λq=>nomatch q)
theorem Dy(a b:Key):decide ((some a:Option Key)=some b)=decide (a=b):=by
 by_cases e:a=b
 ·subst e;simp
 ·rw[decide_eq_false e,decide_eq_false (λq=>e (Option.some.inj q))]
noncomputable def G8(prog:Program)(w:World):PySem.KeyKind prog w (Option Key) where
 is:=okIs
 hash:=okH w
 inj:=λv a b ha hb=>by
  rcases YH ha with⟨rfl,rfl⟩|⟨q,rfl,hq⟩<;>rcases YH hb with⟨rfl,e⟩|⟨q',rfl,hq'⟩
  ·rfl
  ·rcases ZP hq' with⟨i,t,_,e⟩|⟨x,t,_,e⟩<;>cases e
  ·subst e;rcases ZP hq with⟨i,t,_,e⟩|⟨x,t,_,e⟩<;>cases e
  ·rw[(ZX prog w).inj v q q' hq hq']
 byValue:=λk v h=>by
  rcases YH h with⟨rfl,rfl⟩|⟨q,rfl,hq⟩
  ·rfl
  ·exact(ZX prog w).byValue q v hq
 pyHash:=λhv h=>by
  rcases YH hv with⟨rfl,rfl⟩|⟨q,rfl,hq⟩
  ·exact SV h
  ·exact(ZX prog w).pyHash hq h
 eqBool:=λ{A E s a b u v Q}hu hv h=>by
  rcases YH hu with⟨rfl,rfl⟩|⟨q,rfl,hq⟩<;>rcases YH hv with⟨rfl,e⟩|⟨q',rfl,hq'⟩
  ·subst e;exact Lk (by simpa using h)
  ·rw[EG]at h
   rcases ZP hq' with⟨i,t,_,rfl⟩|⟨x,t,_,rfl⟩
   ·exact SeqAt.EqAt.none_int i t _ _ _ _ h
   ·exact SeqAt.EqAt.none_str x t _ _ _ _ h
  ·subst e
   rw[EF]at h
   rcases ZP hq with⟨i,t,_,rfl⟩|⟨x,t,_,rfl⟩
   ·exact SeqAt.EqAt.int_none i t _ _ _ _ h
   ·exact SeqAt.EqAt.str_none x t _ _ _ _ h
  ·rw[Dy]at h
   exact(ZX prog w).eqBool hq hq' h
 «strs»:=λk x t v h=>by
  rcases YH h with⟨_,e⟩|⟨q,rfl,hq⟩
  ·cases e
  ·exact(ZX prog w).strs q x t v hq
section
variable {prog:Program}{w:World}{A:Around}{E:Value->Shared->Prop}{s:Shared}
theorem QK{it d:Addr}{o:Obj}{es:Array DictEntry}{i ep:Nat}{e:DictEntry}{Q:Fin->Shared->Prop}(st:s.heap.IsKeyIter it d i es.size ep)(hd:s.heap.get? d=some o)(hdd:o.data=.dict es ep)(he:es[i]?=some e)(hQ:∀h',h'.IsKeyIter it d (i+1) es.size ep->Heap.SameBut it s.heap h'->Q (.done (.ret e.key)) {s with heap:=h'}):wpAny (model prog w) A (Builtin.«dict_keyiterator.__next__» ⟨[.ref it],[]⟩) Q E s:=by
 obtain⟨ob,h1,h2,h3⟩:=st;have hT:s.TypeIs (.ref it) "dict_keyiterator":=⟨ob,h1,h2⟩;unfold Builtin.«dict_keyiterator.__next__»;refine wpAny_bind ?_;refine wpAny_pure ?_;refine wpAny_bind ?_;refine wpAny_bind ?_;refine wpAny_bind (wpAny_typeNameOfWhole_keyiter hT ?_);refine wpAny_pure ?_;refine wpAny_bind (wpAny_fieldsOf h1 h3 ?_);show wpAny _ _ (if(Value.ref d==Value.none)=true then _ else _) _ _ _;rw[if_neg (show ¬(Value.ref d==Value.none)=true from λz=>nomatch z)];refine wpAny_bind ?_;refine wpAny_pure ?_;refine wpAny_bind (wpAny_dictEntries hd hdd ?_);rw[if_neg (by simp)];refine wpAny_bind ?_;refine wpAny_pure ?_;refine wpAny_bind (wpAny_dictEpoch hd hdd ?_);rw[if_neg (by simp)];refine wpAny_pure ?_;have ei:(if(i:Int)<0 then none else es[((i:Int)).toNat]?)=some e:=by rw[if_neg (by omega),Int.toNat_natCast];exact he
 show wpAny _ _ (match (if(i:Int)<0 then none else es[((i:Int)).toNat]?)with|some e=>_|none=>_) _ _ _
 rw[ei];refine wpAny_bind ?_;refine wpAny_bind (wpAny_typeNameOfWhole_keyiter hT ?_);refine wpAny_pure ?_;refine wpAny_bind (wpAny_isOneOf_keyiter hT ?_);refine wpAny_bind (wpAny_setField h1 h3 (show 0+1<4 by decide) ?_);have g:=Heap.get?_update_self (Obj.mapFields λx=>x.setIfInBounds 1 (rawInt ((i:Int)+1))) h1 (Obj.isFreed_of_fields (Obj.data_mapFields h3 _));have sb:Heap.SameBut it s.heap (s.heap.update it (Obj.mapFields λx=>x.setIfInBounds 1 (rawInt ((i:Int)+1)))):=Heap.SameBut.update ..;have hI:(s.heap.update it (Obj.mapFields λx=>x.setIfInBounds 1 (rawInt ((i:Int)+1)))).IsKeyIter it d (i+1) es.size ep:=by exact⟨_,g,(Obj.cls_mapFields ..).trans h2,by rw[Obj.data_mapFields h3];simp[rawInt]⟩
 have hT':Shared.TypeIs {s with heap:=s.heap.update it (Obj.mapFields λx=>x.setIfInBounds 1 (rawInt ((i:Int)+1)))} (.ref it) "dict_keyiterator":=by obtain⟨ob',q1,q2,_⟩:=hI;exact⟨ob',q1,q2⟩
 refine wpAny_bind (wpAny_holding ?_);refine wpAny_bind (wpAny_isOneOf_keyiter hT' ?_);exact wpAny_pure (wpAny_pure (hQ _ hI sb))
theorem SN{it d:Addr}{o:Obj}{es:Array DictEntry}{i ep:Nat}{Q:Fin->Shared->Prop}(hh:A.handled=none)(st:s.heap.IsKeyIter it d i es.size ep)(hd:s.heap.get? d=some o)(hdd:o.data=.dict es ep)(he:es[i]?=none)(hE:∀h' e,(∀c q,c≠it->s.heap.get? c=some q->h'.get? c=some q)->(∃o,h'.get? e=some o/\o.cls=.type "StopIteration")->E (.ref e) {s with heap:=h'}):wpAny (model prog w) A (Builtin.«dict_keyiterator.__next__» ⟨[.ref it],[]⟩) Q E s:=by
 obtain⟨ob,h1,h2,h3⟩:=st;have hT:s.TypeIs (.ref it) "dict_keyiterator":=⟨ob,h1,h2⟩;unfold Builtin.«dict_keyiterator.__next__»;refine wpAny_bind ?_;refine wpAny_pure ?_;refine wpAny_bind ?_;refine wpAny_bind ?_;refine wpAny_bind (wpAny_typeNameOfWhole_keyiter hT ?_);refine wpAny_pure ?_;refine wpAny_bind (wpAny_fieldsOf h1 h3 ?_);show wpAny _ _ (if(Value.ref d==Value.none)=true then _ else _) _ _ _;rw[if_neg (show ¬(Value.ref d==Value.none)=true from λz=>nomatch z)];refine wpAny_bind ?_;refine wpAny_pure ?_;refine wpAny_bind (wpAny_dictEntries hd hdd ?_);rw[if_neg (by simp)];refine wpAny_bind ?_;refine wpAny_pure ?_;refine wpAny_bind (wpAny_dictEpoch hd hdd ?_);rw[if_neg (by simp)];refine wpAny_pure ?_;have ei:(if(i:Int)<0 then none else es[((i:Int)).toNat]?)=none:=by rw[if_neg (by omega),Int.toNat_natCast];exact he
 show wpAny _ _ (match (if(i:Int)<0 then none else es[((i:Int)).toNat]?)with|some e=>_|none=>_) _ _ _
 rw[ei];refine wpAny_bind ?_;refine wpAny_bind (wpAny_typeNameOfWhole_keyiter hT ?_);refine wpAny_pure ?_;refine wpAny_bind (wpAny_setField h1 h3 (show 0<4 by decide) ?_);show wpAny (model prog w) _ (newExc (.type "StopIteration") [] >>= _) _ _ _;refine wpAny_bind ?_;simp only[newTuple,newExc];refine wpAny_bind (wpAny_newObj_type (wpAny_bind (m:=firstArgMember _ _) (wpAny_of_eq (a:=Value.none) (by first|rfl|(simp only[firstArgMember];rfl)) (wpAny_newObj_type ?_ (by size_fits)))) (by size_fits))
 simp only[raiseNew];refine wpAny_bind (wpAny_handled ?_);rw[hh];refine wpAny_bind (wpAny_pure (wpAny_throw ?_));exact hE _ _ (((Heap.SameBut.update ..).extBut.push _).push _) ⟨_,Heap.get?_push_size _ rfl,rfl⟩
def RawD(h:Heap)(d:Addr)(es:Array DictEntry)(ep:Nat):Prop:=∃o,h.get? d=some o/\o.ExactDict/\o.data=.dict es ep
theorem walks_raw(hh:A.handled=none)(I d:Addr)(hne:d≠I)(es:Array DictEntry)(ep:Nat):
  Walks prog w A I [I,d] [I] es.size (λi v=>∃e,es[i]?=some e/\v=e.key) (λi h=>h.IsKeyIter I d i es.size ep/\RawD h d es ep) where
 sub:=λb hb=>by simp at hb;simp[hb]
 frame:=λi h h' st k=>by
  obtain⟨⟨o,ho,r⟩,o2,ho2,r2⟩:=st
  exact⟨⟨o,k I (by simp) o ho,r⟩,o2,k d (by simp) o2 ho2,r2⟩
 item:=λi s Q E hi st hQ=>by
  obtain⟨it,o,ho,ex,hd⟩:=st
  have hT:s.TypeIs (.ref I) "dict_keyiterator":=by obtain⟨ob,q1,q2,_⟩:=it;exact⟨ob,q1,q2⟩
  unfold pyNext
  refine wpAny_bind (wpAny_attempt (wpAny_callSpecial?_slot (name:=Str.ofString "__next__") hT F.slot_dict_keyiterator_next (wpAny_call_entry F.slot_dict_keyiterator_next hT F.entry_dict_keyiterator_next ?_ (F.args_dict_keyiterator_next_1 _))))
  refine QK it ho hd (e:=es[i]) (by simp[hi]) λh' it' sb=>⟨_,rfl,wpAny_pure ?_⟩
  exact hQ _ h' s.toks ⟨es[i],by simp[hi],rfl⟩ ⟨it',o,(sb.2 d hne).trans ho,ex,hd⟩ λb q hb e=>(sb.2 b (by simpa using hb)).trans e
 done:=λs Q E st hQ=>by
  obtain⟨it,o,ho,ex,hd⟩:=st
  have hT:s.TypeIs (.ref I) "dict_keyiterator":=by obtain⟨ob,q1,q2,_⟩:=it;exact⟨ob,q1,q2⟩
  unfold pyNext
  refine wpAny_bind (wpAny_attempt (wpAny_callSpecial?_slot (name:=Str.ofString "__next__") hT F.slot_dict_keyiterator_next (wpAny_call_entry F.slot_dict_keyiterator_next hT F.entry_dict_keyiterator_next ?_ (F.args_dict_keyiterator_next_1 _))))
  refine SN hh it ho hd (by simp) λh' e hk he=>?_
  obtain⟨o',ho',hc'⟩:=he
  refine wpAny_bind (wpAny_isInstance (T:="StopIteration") (b:=true) ⟨o',ho',hc'⟩ isSubtype_stop ?_)
  exact wpAny_pure (hQ h' s.toks λb q hb e=>hk b q (by simpa using hb) e)
 self:=λi s Q E st h=>wpAny_pyIter_keyiter st.1 h
theorem iter_raw{d:Addr}{es:Array DictEntry}{ep:Nat}{Q:Value->Shared->Prop}(hs:(d==sysModules)=false)(h:RawD s.heap d es ep)(hQ:Q (.ref s.heap.objs.size) {s with heap:=s.heap.push {cls:=.type "dict_keyiterator",data:=.fields #[.ref d,.int 0 0,.int es.size 0,.int ep 0]}}):wpAny (model prog w) A (pyIter (.ref d)) Q E s:=by obtain⟨o,ho,ex,hd⟩:=h;have hT:s.TypeIs (.ref d) "dict":=⟨o,ho,ex.1⟩;refine wpAny_pyIter_slot hT F.slot_dict_iter (wpAny_call_entry F.slot_dict_iter hT F.entry_dict_iter ?_ (F.args_dict_iter_1 _));unfold Builtin.«dict.__iter__»;refine wpAny_bind ?_;unfold Builtin.Dict.dictSlotNone;refine wpAny_bind (wpAny_notOrdered_dict hT ?_);refine wpAny_pure ?_;refine wpAny_bind ?_;refine wpAny_pure ?_;refine wpAny_bind ?_;unfold Builtin.Dict.showsAll;rw[if_neg (by rw[hs];exact Bool.false_ne_true)];refine wpAny_pure ?_;refine wpAny_bind (wpAny_dictEntries ho hd ?_);refine wpAny_bind (wpAny_dictEpoch ho hd ?_);unfold newFields;refine wpAny_bind (wpAny_newObj_type ?_ (by size_fits));refine wpAny_pure ⟨_,rfl,"dict_keyiterator",_,⟨_,Heap.get?_push_size _ rfl,rfl⟩,F.slot_dict_keyiterator_next.lookup,?_⟩;exact hQ
theorem KA{d:Addr}{es:Array DictEntry}{ep:Nat}(hs:(d==sysModules)=false):PySem.W.KdlSrc prog w "dict" d d es.size (λi v=>∃e,es[i]?=some e/\v=e.key) (λh=>RawD h d es ep) where
 type:=λs h=>by obtain⟨o,ho,ex,_⟩:=h;exact⟨o,ho,ex.1⟩
 there:=λh r=>by obtain⟨o,ho,_⟩:=r;exact⟨Heap.lt_size ho,Heap.lt_size ho⟩
 keep:=λh h' r k=>by obtain⟨o,ho,e⟩:=r;exact⟨o,k d (.inl rfl) o ho,e⟩
 notList:=by decide
 notTuple:=by decide
 hint:=λA E s Q h q=>PySem.W.kdl_hint_dict (by obtain⟨o,ho,ex,_⟩:=h;exact⟨o,ho,ex.1⟩) q
 iter:=λA s hh h=>by
  have ho:=h
  refine⟨_,_,λE Q q=>iter_raw hs h q,walks_raw hh s.heap.objs.size d (by obtain⟨o,ho,_⟩:=ho;exact Nat.ne_of_lt (Heap.lt_size ho)) es ep,⟨_,Heap.get?_push_size _ rfl,rfl,rfl⟩,?_⟩
  obtain⟨o,ho,e⟩:=ho
  exact⟨o,Heap.get?_push_of_some _ ho,e⟩
end
theorem MJ:∀as:List Addr,Vals (as.map V.ref) (as.map Value.ref)
|[]=>.nil
|a::as=>.cons rfl (MJ as)
theorem G0{α β:Type}{R:α->β->Prop}:∀{a:List α}{c:List β},Paired R a c->∀{i:Nat}{x:α}{y:β},a[i]?=some x->c[i]?=some y->R x y
|_,_,.nil,_,_,_,h,_=>by cases h
|_,_,.cons h t,0,_,_,e1,e2=>by cases e1;cases e2;exact h
|_,_,.cons h t,i+1,_,_,e1,e2=>G0 t (by simpa using e1) (by simpa using e2)
section
variable {X:Cx}
theorem NW(hc:X.calm=true):YK X (.type "list") (λxs H Q=>∃(p:Addr)(kvs:List (List Key×V)),xs=[.ref p]/\H p=some (.dT kvs)/\∀(l:Addr)(bs:List Addr),H l=none->bs.length=kvs.length->(∀(i:Nat)b kv,bs[i]?=some b->kvs[i]?=some kv->H b=some (.tup (kv.1.map kV)))->Q (.ref l) (upd H l (.lst (bs.map V.ref)))):=by
 intro pins s σ H xs us Q I r h;obtain⟨p,kvs,rfl,e,q⟩:=h;obtain⟨u,rfl,rx⟩:=vals1 r;cases rx;obtain⟨z,hd,xs',rel,o,es,ep,h1,h2,h3,h4,h5,h6⟩:=PU I.hok e;have hlen:=Paired.length rel;have hsz:es.size=xs'.length:=by rw[<-Array.length_toList,h4,List.length_map]
 refine PySem.W.kdl_call (KA hd) (I.ok.hd hc) ⟨o,h1,h2,h3⟩ (by rw[hsz,<-hlen];exact z) λh' tk acc' c' kp hl it=>?_;have ea:acc'.toList=(xs'.map λx=>Value.ref x.2.1):=by
  refine List.ext_getElem? λi=>?_;by_cases hi:i<es.size
  ·have hi':i<acc'.size:=by rw[it.1];exact hi
   obtain⟨en,he,hv⟩:=it.2 i acc'[i] (by simp[hi']);rw[Array.getElem?_toList,Array.getElem?_eq_getElem hi',hv];have:es.toList[i]?=some en:=by rw[Array.getElem?_toList];exact he
   rw[h4,List.getElem?_map]at this;obtain⟨x,hx,rfl⟩:=Option.map_eq_some_iff.mp this;rw[List.getElem?_map,hx];rfl
  ·rw[List.getElem?_eq_none (by rw[Array.length_toList,it.1];omega),List.getElem?_eq_none (by rw[List.length_map];omega)]
 refine⟨.ref s.heap.objs.size,_,I.laid (a:=s.heap.objs.size) (o:=.lst ((xs'.map λx=>x.2.1).map V.ref)) (t':=tk) kp (Nat.le_refl _) ?_,rfl,q _ (xs'.map λx=>x.2.1) (I.hok.fresh (Nat.le_refl _)) (by rw[List.length_map];exact hlen.symm) λi b kv hb hk=>?_⟩
 ·refine⟨by rw[List.length_map,List.length_map,<-hlen];exact z,acc'.toList,c',?_,by simpa using hl⟩;rw[ea,show(xs'.map λx=>Value.ref x.2.1)=(xs'.map λx=>x.2.1).map Value.ref from(List.map_map).symm];exact MJ _
 ·rw[List.getElem?_map]at hb;obtain⟨x,hx,rfl⟩:=Option.map_eq_some_iff.mp hb;exact(G0 rel hk hx).2.1
end
noncomputable def okV:Option Key->V
|none=>.non
|some k=>kV k
theorem G7{P:Program}{w:World}:∀{ks:List (Option Key)}{us:List Value},Vals (ks.map okV) us->ItemsAre (G8 P w) ks us
|[],_,r=>by rw[List.map_nil]at r;cases r;exact .nil
|none::ks,_,r=>by
  rw[List.map_cons]at r;cases r with
 |cons h t=>cases h;exact .cons rfl (G7 t)
|some k::ks,_,r=>by
  rw[List.map_cons]at r;cases r with
 |cons h t=>exact .cons (PF (P:=P) (w:=w) h) (G7 t)
section
variable {P:Program}{w:World}{H:Hp}{h:Heap}{a:Addr}
theorem K2{ks:List (Option Key)}(ok:HOk P w H h)(e:H a=some (.tup (ks.map okV))):(tupleKind (G8 P w)).is h ks a:=by obtain⟨_,its,r,o,h1,h2,n,h3⟩:=(show ZG P w H h a (.tup (ks.map okV))from ok a _ e);exact⟨o,its.toArray,n,h1,h2,h3,by simpa using G7 r⟩
theorem WX{ks:List Key}{us:List Value}(h:ItemsAre (ZX P w) ks us):ItemsAre (G8 P w) (ks.map some) us:=by
 induction h with
|nil=>exact .nil
|cons h t ih=>exact .cons h ih
theorem Li(ks:List Key):(tupleKind (G8 P w)).hash (ks.map some)=(tupleKind (ZX P w)).hash ks:=by show reduceHash (Builtin.Tuple.tupleHashOf (List.map (okH w) (ks.map some)))=reduceHash (Builtin.Tuple.tupleHashOf (List.map (keyH w) ks));rw[List.map_map];rfl
theorem VN:∀{a b:List Key},a.map some=b.map some->a=b
|[],[],_=>rfl
|[],_::_,h=>by cases h
|_::_,[],h=>by cases h
|x::a,y::b,h=>by rw[List.map_cons,List.map_cons]at h;injection h with h1 h2;injection h1 with h1;rw[h1,VN h2]
theorem Ll{xs:List (List Key×Addr×Value)}(d:h.DictOfH (tupleKind (ZX P w)) a xs):h.DictOfH (tupleKind (G8 P w)) a (xs.map λx=>(x.1.map some,x.2)):=by
 obtain⟨o,es,ep,h1,h2,h3,h4,h5,h6⟩:=d;refine⟨o,es,ep,h1,h2,h3,?_,λx hx=>?_,?_⟩
 ·rw[h4,List.map_map];refine List.map_congr_left λx _=>?_;show DictEntry.mk _ _ _=DictEntry.mk _ _ _;rw[Li]
 ·obtain⟨y,hy,rfl⟩:=List.mem_map.mp hx;obtain⟨o',its,n,q1,q2,q3,q4⟩:=h5 y hy;exact⟨o',its,n,q1,q2,q3,WX q4⟩
 ·rw[List.map_map];rw[show((λx:List (Option Key)×Addr×Value=>x.1) ∘ λx:List Key×Addr×Value=>(x.1.map some,x.2))=(λk:List Key=>k.map some) ∘ (λx:List Key×Addr×Value=>x.1)from rfl,<-List.map_map];unfold List.Nodup;rw[List.pairwise_map];exact List.Pairwise.imp (λhn e=>hn (VN e)) h6
theorem LM(ks:List (Option Key)):∀xs:List (List Key×Addr×Value),(atKey (xs.map λx=>((x.1.map some:List (Option Key)),x.2)) ks).isSome=true↔∃k,ks=k.map some/\(atKey xs k).isSome=true
|[]=>by
  constructor
  ·intro h;cases h
  ·rintro ⟨k,_,h⟩;cases h
|x::xs=>by
  have ih:=LM ks xs;rw[List.map_cons];by_cases e:x.1.map some=ks
  ·have b:atKey ((x.1.map some,x.2)::xs.map λx=>((x.1.map some:List (Option Key)),x.2)) ks=some x.2:=by simp[atKey,List.find?_cons,e]
   rw[b];refine⟨λ_=>⟨x.1,e.symm,by simp[atKey,List.find?_cons]⟩,λ_=>rfl⟩
  ·have b:atKey ((x.1.map some,x.2)::xs.map λx=>((x.1.map some:List (Option Key)),x.2)) ks=atKey (xs.map λx=>((x.1.map some:List (Option Key)),x.2)) ks:=by simp[atKey,List.find?_cons,e]
   rw[b,ih];constructor
   ·rintro ⟨k,rfl,h⟩;refine⟨k,rfl,?_⟩;have:¬x.1=k:=λz=>e (by rw[z]);have c:atKey (x::xs) k=atKey xs k:=by simp[atKey,List.find?_cons,this]
    rw[c];exact h
   ·rintro ⟨k,rfl,h⟩;refine⟨k,rfl,?_⟩;have:¬x.1=k:=λz=>e (by rw[z]);have c:atKey (x::xs) k=atKey xs k:=by simp[atKey,List.find?_cons,this]
    rw[c]at h;exact h
end
section
variable {X:Cx}
def rInO:R2:=λx y H Q=>∃(b d:Addr)(ks:List (Option Key))(kvs:List (List Key×V)),x=.ref b/\y=.ref d/\H b=some (.tup (ks.map okV))/\H d=some (.dT kvs)/\∀r:Bool,(r=true↔∃k v,ks=k.map some/\valV kvs k=some v)->Q (.bl r) H
theorem Dx(hu:X.A.units+1<cLine):OpR X (compareOp .In) rInO:=by
 intro pins s σ H x y v u Q I rx ry h;obtain⟨b,d,ks,kvs,rfl,rfl,hb,hd,q⟩:=h;cases rx;cases ry;obtain⟨z,hs,xs,rel,dd⟩:=PU I.hok hd;refine wpAny_in_heap (tupleKind_room_in1 hu) (K2 I.hok hb) hs (Ll dd) ⟨.bl _,H,I.tok _,rfl,q _ ?_⟩;rw[LM];constructor
 ·rintro ⟨k,e,h⟩;have qq:=(rel.val k).isSome_eq;rw[Option.isSome_map,h]at qq;obtain⟨v,hv⟩:=Option.isSome_iff_exists.mp qq;exact⟨k,v,e,hv⟩
 ·rintro ⟨k,v,e,h⟩;have qq:=(rel.val k).isSome_eq;rw[Option.isSome_map,h]at qq;exact⟨k,e,qq.symm⟩
def LZ(tk tv:TE):TE:=λσ H Q=>∀p,H p=none->tk σ (upd H p (.dT [])) λx H1=>tv σ H1 λy H2=>∃(b:Addr)(ks:List Key),x=.ref b/\H2 b=some (.tup (ks.map kV))/\H2 p=some (.dT [])/\Q (.ref p) (upd H2 p (.dT [(ks,y)]))
theorem WA{k v:Expr}{pos:Pos}{tk tv:TE}(hu:X.A.units<cLine)(hk:PE X k tk)(hv:PE X v tv):PE X (.Dict [some k] [v] pos) (LZ tk tv):=by
 intro pins s σ H Q I q;have hn:=I.hok.fresh (Nat.le_refl s.heap.objs.size);have I1:=I.laid (a:=s.heap.objs.size) (o:=.dT []) (h':=s.heap.push {cls:=.type "dict",data:=.dict #[]}) (t':=s.toks) (λ_ _ q=>Heap.get?_push_of_some _ q) (Nat.le_refl _) (PV s.heap I.big);refine wpAny_Dict_any rfl rfl (by simp) (show 1<=15 by decide) (pairTrees_cons_walk (thn (hk pins _ σ _ _ I1 (q _ hn)) λu s1⟨x,H1,I1,rx,q1⟩=>thn (hv pins s1 σ H1 _ I1 q1) λw2 s2⟨y,H2,I2,ry,b,ks,ex,hb,hp,q2⟩=>pairTrees_nil_walk ?_));subst ex;cases(show u=Value.ref b from rx);obtain⟨z,hd,xs,rel,dd⟩:=PU I2.hok hp;have ex:xs=[]:=by cases rel;rfl
 subst ex;unfold storeAll;simp only[List.forIn_cons,List.forIn_nil];refine wpAny_bind (wpAny_bind (wpAny_dictSet_heap (hsz:=(by simp)) hu (Ma I2.hok hb) dd λh' dd' hs=>wpAny_pure ?_));refine wpAny_pure ⟨.ref s.heap.objs.size,_,?_,rfl,q2⟩;obtain⟨qo,es,ep,hq,h2,h3,h4,_,h5⟩:=dd';refine NS I2 (by rw[hp];exact True.intro) hs ⟨qo,hq⟩ ⟨by show 1<=sizeLine;decide,hd,_,((KT.put (H:=H2) (kvs:=[]) (xs:=[]) .nil ks hb ry).keeps λc ys ec=>?_),qo,es,ep,hq,h2,h3,h4,h5⟩;rw[Zj (ne_of ec hp (λz=>nomatch z))];exact ec
end
def Em(t:TA):TE:=λσ H Q=>t σ H λxs H1=>xs.length<=sizeLine/\∀l,H1 l=none->(l==sysModules)=false->Q (.ref l) (upd H1 l (.lst xs))
theorem RK{X:Cx}{es:List Expr}{t:TA}{pos:Pos}(h:PA X es t):PE X (.List es pos) (Em t):=by
 intro pins s σ H Q I hq;refine wpAny_List_spliced (thn (h pos pins s σ H _ I hq) λus s1⟨xs,H1,I1,r,z,q⟩=>⟨by rw[<-r.length];exact z,?_⟩);have hf:H1 s1.heap.objs.size=none:=I1.hok.fresh (Nat.le_refl _);refine⟨.ref s1.heap.objs.size,upd H1 s1.heap.objs.size (.lst xs),I1.laid (t':=s1.toks) (λb u e=>Heap.get?_push_of_some _ e) (Nat.le_refl _) ?_,rfl,q _ hf ?_⟩
 ·exact⟨z,us,0,r,Heap.get?_push_size _ rfl⟩
 ·have:=I1.big;exact beq_eq_false_iff_ne.mpr (Nat.ne_of_gt this)
noncomputable def kD:Key->PyData
|.inl i=>.int i
|.inr z=>.str z
theorem Vg{h:Heap}:∀{ks:List Key}{us:List Value},Vals (ks.map kV) us->ReadsAll h us (ks.map kD) []
|[],_,r=>by rw[List.map_nil]at r;cases r;exact .nil
|.inl i::ks,_,r=>by
  rw[List.map_cons]at r;cases r with
 |cons h t=>obtain⟨tk,rfl⟩:=h;exact .cons (as:=[]) (.int i tk) (Vg t)
|.inr z::ks,_,r=>by
  rw[List.map_cons]at r;cases r with
 |cons h t=>obtain⟨tk,rfl⟩:=h;exact .cons (as:=[]) (.str z tk) (Vg t)
def IsK(H:Hp)(x:V)(d:PyData):Prop:=Is H x d\/∃(a:Addr)(ks:List Key)(n:Int),x=.ref a/\H a=some (.dT [(ks,.int n)])/\d=.dict [(.tuple (ks.map kD),.int n)]
theorem PH{H H':Hp}(s:Same H H'){x:V}{d:PyData}(h:IsK H x d):IsK H' x d:=by
 rcases h with h|⟨a,ks,n,e,h,q⟩
 ·exact .inl (h.same s)
 ·exact .inr ⟨a,ks,n,e,s _ _ h,q⟩
noncomputable def Dn:List V->Hp->VK->Prop:=λxs H Q=>∃(l:Addr)(x:V)(d:PyData),xs=[.ref l]/\H l=some (.lst [x])/\(l==sysModules)=false/\IsK H x d/\(PyData.list [d]).showable=true/\(PyData.list [d]).depth<=64/\(PyData.list [d]).shown.length<=sizeLine/\Q (.str (PyData.list [d]).shown) H
theorem Mu{X:Cx}{k:Nat}(hr:Room k X.A):YK X (.builtin "repr") Dn:=by
 intro pins s σ H xs us Q I r h;obtain⟨l,x,d,rfl,hl,nl,hd,hs,hdp,hz,q⟩:=h;rcases hd with h|⟨a,ks,n,rfl,ha,rfl⟩
 ·exact Mt hr pins s σ H _ us Q I r ⟨_,_,rfl,.lst hl (.cons h .nil),hs,hdp,hz,q⟩
 ·obtain⟨u,rfl,rx⟩:=vals1 r;cases rx;obtain⟨_,its,n1,rv,e2⟩:=(show ZG X.prog X.w H s.heap l (.lst [.ref a])from I.hok l _ hl);obtain⟨v,rfl,ev⟩:=vals1 rv;cases ev;obtain⟨z,na,xs',rel,o,es,ep,h1,h2,h3,h4,h5,h6⟩:=PU I.hok ha;cases rel with
 |@cons p q' ps qs hq t=>
   cases t;obtain⟨hk,hb,hv⟩:=hq;obtain⟨_,its2,rv2,o2,g1,g2,n2,g3⟩:=(show ZG X.prog X.w H s.heap q'.2.1 (.tup (ks.map kV))from I.hok _ _ hb);obtain⟨tk,hv⟩:=hv;have rk:Reads s.heap (.ref q'.2.1) (.tuple (ks.map kD)) []:=.tuple g1 g2 g3 (by simpa using Vg rv2);have rd:Reads s.heap (.ref a) (.dict [(.tuple (ks.map kD),.int n)]) [a]:=by have:=Reads.dict (h:=s.heap) (a:=a) (o:=o) (es:=es) (n:=ep) (kvs:=[(.tuple (ks.map kD),.int n)]) (as:=[]) (bs:=[]) h1 h2.1 h3 (by rw[h4];exact .cons (as:=[]) rk .nil) (by rw[h4];show ReadsAll s.heap [q'.2.2] _ _;rw[hv];exact .cons (as:=[]) (.int n tk) .nil);exact this
   have rl:Reads s.heap (.ref l) (.list [.dict [(.tuple (ks.map kD),.int n)]]) [l,a]:=.list e2 rfl rfl (.cons (as:=[a]) (bs:=[]) rd .nil);refine repr_of_reads' rl hs (λ_ hm=>?_) hr.gd (by have:=hr.un;omega) (λ_ _ e=>e) (λh' u tk hk=>⟨.str _,H,I.kept hk,⟨u,rfl⟩,q⟩) hz;simp only[List.mem_cons,List.not_mem_nil,or_false]at hm;rcases hm with hm|hm
   ·rw[<-hm]at nl;cases nl
   ·rw[<-hm]at na;cases na
end L2
namespace SX
open PySem L2 PySem.Spec PyProof.Rows TB WD
def Ax(v:V):Prop:=v=.non\/(∃i:Int,v=.int i/\i.natAbs<=1000)\/∃z:Str,v=.str z/\z.length<=20/\∀c∈z.cps.toList,c<0x110000
def Ix(b:Addr)(H:Hp)(v:V):Prop:=Ax v\/v=.bl true\/∃a u,v=.ref a/\a≠b/\Ax u/\(H a=some (.lst [u])\/H a=some (.tup [u]))
def TXs(b:Addr)(H:Hp)(x:V)(n:Nat):Prop:=∃a xs,x=.ref a/\a≠b/\H a=some (.tup xs)/\xs.length<=n/\∀v∈xs,Ix b H v
def Bx(b:Addr)(H:Hp)(x:V):Prop:=Ax x\/x=.bl true\/(∃a xs,x=.ref a/\a≠b/\H a=some (.lst xs)/\xs.length<=6/\∀v∈xs,Ax v)\/TXs b H x 9\/∃a ks,x=.ref a/\a≠b/\H a=some (.dT [(ks,.int 1)])/\ks.length<=6/\∀k∈ks,Ax (kV k)
theorem Ix.same{b:Addr}{H H':Hp}{v:V}(s:Zh b H H')(h:Ix b H v):Ix b H' v:=by
 rcases h with h|h|⟨a,u,e,n,hu,h|h⟩
 ·exact .inl h
 ·exact .inr (.inl h)
 ·exact .inr (.inr ⟨a,u,e,n,hu,.inl (s _ _ h n)⟩)
 ·exact .inr (.inr ⟨a,u,e,n,hu,.inr (s _ _ h n)⟩)
theorem TXs.same{b:Addr}{H H':Hp}{x:V}{n:Nat}(s:Zh b H H')(h:TXs b H x n):TXs b H' x n:=by obtain⟨a,xs,e,na,h,l,q⟩:=h;exact⟨a,xs,e,na,s _ _ h na,l,λv hv=>(q v hv).same s⟩
theorem TXs.mono{b:Addr}{H:Hp}{x:V}{n m:Nat}(h:TXs b H x n)(l:n<=m):TXs b H x m:=by obtain⟨a,xs,e,na,h,l',q⟩:=h;exact⟨a,xs,e,na,h,Nat.le_trans l' l,q⟩
theorem Bx.same{b:Addr}{H H':Hp}{x:V}(s:Zh b H H')(h:Bx b H x):Bx b H' x:=by
 rcases h with h|h|⟨a,xs,e,n,h,q⟩|h|⟨a,ks,e,n,h,q⟩
 ·exact .inl h
 ·exact .inr (.inl h)
 ·exact .inr (.inr (.inl ⟨a,xs,e,n,s _ _ h n,q⟩))
 ·exact .inr (.inr (.inr (.inl (h.same s))))
 ·exact .inr (.inr (.inr (.inr ⟨a,ks,e,n,s _ _ h n,q⟩)))
theorem ix1{b:Addr}{H:Hp}{x:V}(hx:Ix b H x):∀v∈[x],Ix b H v:=λv hv=>by rw[List.mem_singleton]at hv;subst hv;exact hx
theorem ix3{b:Addr}{H:Hp}{x y z:V}(hx:Ix b H x)(hy:Ix b H y)(hz:Ix b H z):∀v∈[x,y,z],Ix b H v:=λv hv=>by
 simp only[List.mem_cons,List.not_mem_nil,or_false]at hv;rcases hv with rfl|rfl|rfl
 ·exact hx
 ·exact hy
 ·exact hz
theorem YE{v:V}(h:Atm v):Ax v:=by
 cases h with
|non=>exact .inl rfl
|int h=>exact .inr (.inl ⟨_,rfl,h⟩)
|str h=>exact .inr (.inr ⟨_,rfl,Nat.le_trans h.1 (by decide),h.2⟩)
theorem Js{i:Int}(h0:-1000<=i)(h1:i<=1000):Ax (.int i):=.inr (.inl ⟨i,rfl,by omega⟩)
theorem KQ:∀c∈codes "q",c<0x110000:=by decide +kernel
theorem ax_q{z:Str}(h:GS z):Ax (.str (z++"q")):=.inr (.inr ⟨_,rfl,by
  have:=h.1;rw[show(z++("q":Str)).length=z.length+1 by rw[<-ZK,YJ,List.length_append,ZK];rfl];omega,λc hc=>by
  have hc:c∈codes (z++"q"):=hc;rw[YJ]at hc;rcases List.mem_append.mp hc with hc|hc
  ·exact h.2 c hc
  ·exact KQ c hc⟩)
theorem Lm{xs:List V}{lo hi:Option Int}{v:V}(h:v∈cutV xs lo hi):v∈xs:=by unfold cutV at h;exact List.mem_of_mem_drop (List.mem_of_mem_take h)
theorem XM{b:Addr}{H:Hp}{x y:V}{n m:Nat}{Q:VK}(B:Zz H b)(t1:TXs b H x n)(t2:TXs b H y m)(hl:n+m<=100)(k:∀z H',Zz H' b->Zh b H H'->TXs b H' z (n+m)->Q z H'):LD x y H Q:=by
 obtain⟨a,xs,rfl,na,ha,la,qa⟩:=id t1;obtain⟨c,ys,rfl,nc,hc,lc,qc⟩:=id t2;refine⟨a,c,xs,ys,rfl,rfl,ha,hc,Nat.le_trans (show _<=100 by omega) (by decide),λ_=>k _ H B (Zh.refl b H) (t2.mono (by omega)),λ_=>k _ H B (Zh.refl b H) (t1.mono (by omega)),λp hp=>?_⟩;have S:=(Zh.refl b H).new' (o:=.tup (xs++ys)) hp;refine k _ _ (B.new hp) S ⟨p,_,rfl,B.ne hp,Ze,by rw[List.length_append];omega,λv hv=>?_⟩;rcases List.mem_append.mp hv with hv|hv
 ·exact(qa v hv).same S
 ·exact(qc v hv).same S
theorem J4{K:PySem.W.Frag}{b:Addr}{H:Hp}{a:Addr}{xs:List V}{lo hi:Option Int}{Q:VK}(B:Zz H b)(na:a≠b)(ha:H a=some (.tup xs))(q:∀v∈xs,Ix b H v)(hl:xs.length<=3)(hw:¬(HT.sIx xs.length 0 lo=0/\HT.sIx xs.length xs.length hi=xs.length))(k:∀z H',Zz H' b->Zh b H H'->TXs b H' z 3->Q z H'):rSlT K (.ref a) lo hi H Q:=by refine⟨a,xs,rfl,SqT.of ha,hw,λp hp=>?_⟩;have S:=(Zh.refl b H).new' (o:=.tup (cutV xs lo hi)) hp;exact k _ _ (B.new hp) S ⟨p,_,rfl,B.ne hp,Ze,Nat.le_trans (XI _ _ _) hl,λv hv=>(q v (Lm hv)).same S⟩
theorem LL{n:Nat}(h:2<=n):¬(HT.sIx n 0 none=0/\HT.sIx n n (some 1)=n):=by intro⟨_,e⟩;revert e;unfold HT.sIx;simp;omega
theorem Mh{n:Nat}(h:2<=n):¬(HT.sIx n 0 none=0/\HT.sIx n n (some (-1))=n):=by intro⟨_,e⟩;revert e;unfold HT.sIx;simp;omega
theorem W9{n:Nat}(h:2<=n):¬(HT.sIx n 0 (some 1)=0/\HT.sIx n n none=n):=by intro⟨e,_⟩;revert e;unfold HT.sIx;simp;omega
theorem D9{n:Nat}(h:2<=n):¬(HT.sIx n 0 (some 2)=0/\HT.sIx n n none=n):=by intro⟨e,_⟩;revert e;unfold HT.sIx;simp;omega
theorem Lf{T:Tb}(o:OkTb T){xs:List V}{j:Nat}{S:Sx}(h:ZU T xs j S):∃(w nm:Str)(u:V),2<=xs.length/\xs.length<=3/\atI xs 0=some (.str w)/\atI xs 1=some (.str nm)/\atI xs (-1)=some u/\GS w/\GS nm/\Ax u/\∀v∈xs,Ax v:=by
 have sm:=(h.small o).key;rw[<-h.key.1]at sm;have qk:∀v∈xs,Ax v:=λv hv=>YE (sm.2 v hv);have gs:∀z,V.str z∈xs->GS z:=λz hz=>U3 (sm.2 _ hz);rcases h with⟨y,_,i,rfl,_⟩|⟨y,_,rfl,_⟩|⟨y,_,i,rfl,_⟩|⟨y,_,i,rfl,_⟩
 ·exact⟨_,_,.int i,by show 2<=3;decide,Nat.le_refl _,Zn (j:=0) rfl,Zn (j:=1) rfl,rfl,gs _ (by simp),gs _ (by simp),qk _ (by simp),qk⟩
 ·exact⟨_,_,.str (nameOf y),Nat.le_refl _,by show 2<=3;decide,Zn (j:=0) rfl,Zn (j:=1) rfl,rfl,gs _ (by simp),gs _ (by simp),qk _ (by simp),qk⟩
 ·exact⟨_,_,.int i,by show 2<=3;decide,Nat.le_refl _,Zn (j:=0) rfl,Zn (j:=1) rfl,rfl,gs _ (by simp),gs _ (by simp),qk _ (by simp),qk⟩
 ·exact⟨_,_,.int i,by show 2<=3;decide,Nat.le_refl _,Zn (j:=0) rfl,Zn (j:=1) rfl,rfl,gs _ (by simp),gs _ (by simp),qk _ (by simp),qk⟩
theorem NY{xs:List V}{r:Int}(h0:0<=r)(h1:r<(xs.length:Int)):∃x,atI xs r=some x/\x∈xs:=by
 obtain⟨j,rfl⟩:∃j:Nat,r=j:=⟨r.toNat,by omega⟩;have hj:j<xs.length:=by omega
 exact⟨xs[j],Zn (List.getElem?_eq_getElem hj),List.getElem_mem hj⟩
def LA:Sp:=λvs H Q _=>∃(b pw l1 l2 l3 l4 k:Addr)(T:Tb)(xs:List V)(j:Nat)(S:Sx),vs=[.ref b,.ref pw,.ref k]/\Zz H b/\TbAt b H pw T l1 l2 l3 l4/\OkTb T/\(∃y∈T.t1,at_ y 1=.non)/\k≠b/\H k=some (.tup xs)/\ZU T xs j S/\∀H' x,Zz H' b->Zh b H H'->Bx b H' x->Q x H'
section
variable {P:Program}{w:World}{K:PySem.W.Frag}{mg:Str->Option Value}{base:Heap}
theorem Yp:FnScope ["_law_box_here","_law_world_here","_law_key","_law_home","_law_some"] ["_law_box_here","_law_world_here","_law_key"] (Zf T.f__law_bad_key):=scO (by decide +kernel)
noncomputable def Y0:Scope:={kind:=.function,names:=[(Str.ofString ".0",.local),(Str.ofString "_law_place",.local),(Str.ofString "_law_room",.local)],isGenerator:=false,isCoroutine:=false,more:=[]}
theorem JY:CompScope Y0 (Zf T.f__law_bad_key):=⟨rfl,by decide +kernel,by decide +kernel,by decide +kernel⟩
theorem Xb:(["_law_place","_law_room"]:List Str).Nodup:=by decide +kernel
theorem JZ:CompNames ["_law_box_here","_law_world_here","_law_key","_law_home","_law_some"] Y0 ["_law_place","_law_room"] [none,none]:=.mk' (by decide +kernel)
theorem Lp(B:∀x∈Blts,mg x=none)(CT:Can P w K mg base 1 "_law_take" ["_law_box_here","_law_many"] Xg)(D:Df K mg "_law_bad_key" T.f__law_bad_key ["_law_box_here","_law_world_here","_law_key"]):Can P w K mg base 2 "_law_bad_key" ["_law_box_here","_law_world_here","_law_key"] LA:=by
 refine D.can Yp (λvs H Q E h=>?_) (λf cdv A outer s H vs Q E hr h=>?_)
 ·obtain⟨b,pw,l1,l2,l3,l4,k,T,xs,j,S,rfl,_⟩:=h;rfl
 ·obtain⟨b,pw,l1,l2',l3',l4,k,T,xs,j,S,rfl,hb,tb,ok,hho,nk,hk,hs,kq⟩:=h;have sm6:S.key.length<=6:=by have:=(hs.small ok).key.1;rw[List.length_map]at this;exact this
  have smk:∀q∈S.key,Ax (kV q):=λq hq=>YE ((hs.small ok).key.2 _ (List.mem_map.mpr ⟨q,hq,rfl⟩));refine' ⟨_,(@Zd _ _ _ _ _ ?h38 (@Zd _ _ _ _ _ ?h39 (@Zd _ _ _ _ _ ?h40 (@Zd _ _ _ _ _ ?h41 (@Zd _ _ _ _ _ ?h42 (@Zi _ _ _ ?h43)))))),?rd⟩;case' h43=>refine' (Zo ?h37)
  case' h42=>refine' (@st _ _ _ _ 4 _ _ Yp.nd (Zx UP (pv 4) ?h36) (by rfl) (by exact Or.inl rfl) (by rfl) (by exact .inl rfl))
  case' h41=>refine' (@st _ _ _ _ 4 _ _ Yp.nd (Zx UP (pv 4) ?h25) (by rfl) (by exact Or.inl rfl) (by rfl) (by exact .inl rfl))
  case' h40=>refine' (@st _ _ _ _ 4 _ _ Yp.nd (Zx UP (pv 4) ?h19) (by rfl) (by exact Or.inl rfl) (by rfl) (by exact .inl rfl))
  case' h39=>refine' (@st _ _ _ _ 4 _ _ Yp.nd ?h8 (by rfl) (by exact Or.inl rfl) (by rfl) (by exact .inl rfl))
  case' h38=>refine' (@st _ _ _ _ 3 _ _ Yp.nd ?h2 (by rfl) (by exact Or.inl rfl) (by rfl) (by exact .inl rfl))
  case' h37=>refine' (@il _ _ _ _ _ _ K (pv 4) (cn CT hr (@Za _ _ _ _ _ (pv 0) (@Za _ _ _ _ _ Zc Zb (by rfl)) (by rfl))) (by rfl) (by exact λ_ _=>rfl))
  case' h36=>refine' (@Z2 _ _ _ _ (@Za _ _ _ _ _ (Zx YR (ZY (r:=rSlT K) XJ (pv 2) Yg (Ye (VF Jd Zc))) ?h35) (@Za _ _ _ _ _ ?h32 (@Za _ _ _ _ _ (Zx YR ?h28 (ZY (r:=rSlT K) XJ (pv 2) (Ye Zc) Yg)) Zb (by rfl)) (by rfl)) (by rfl)))
  case' h35=>refine' (@Zy _ _ _ _ _ (@Za _ _ _ _ _ ?h34 Zb (by rfl)))
  case' h34=>refine' (@Z2 _ _ _ _ (@Za _ _ _ _ _ ?h33 Zb (by rfl)))
  case' h33=>refine' (@it _ _ _ _ _ _ K (pv 2) (VF Jd Zc) (by rfl) (by exact λ_ _=>rfl))
  case' h32=>refine' (@Zy _ _ _ _ _ (@Za _ _ _ _ _ ?h31 (@Za _ _ _ _ _ ?h30 (@Za _ _ _ _ _ Zc Zb (by rfl)) (by rfl)) (by rfl)))
  case' h31=>refine' (@it _ _ _ _ _ _ K (pv 2) Zc (by rfl) (by exact λ_ _=>rfl))
  case' h30=>refine' (@Z2 _ _ _ _ (@Za _ _ _ _ _ ?h29 Zb (by rfl)))
  case' h29=>refine' (@it _ _ _ _ _ _ K (pv 2) Zc (by rfl) (by exact λ_ _=>rfl))
  case' h28=>refine' (@Zy _ _ _ _ _ (@Za _ _ _ _ _ ?h27 Zb (by rfl)))
  case' h27=>refine' (@Z2 _ _ _ _ (@Za _ _ _ _ _ ?h26 Zb (by rfl)))
  case' h26=>refine' (@it _ _ _ _ _ _ K (pv 2) Zc (by rfl) (by exact λ_ _=>rfl))
  case' h25=>refine' (@Z2 _ _ _ _ (@Za _ _ _ _ _ (Zx YR (Zx YR (ZY (r:=rSlT K) XJ (pv 2) Yg (Ye Zc)) ?h24) (ZY (r:=rSlT K) XJ (pv 2) (Ye Zc) Yg)) (@Za _ _ _ _ _ (Zx YR ?h22 (ZY (r:=rSlT K) XJ (pv 2) (Ye Zc) Yg)) (@Za _ _ _ _ _ (Zx YR (ZY (r:=rSlT K) XJ (pv 2) Yg (Ye (VF Jd Zc))) ?h21) (@Za _ _ _ _ _ ?h20 (@Za _ _ _ _ _ J5 Zb (by rfl)) (by rfl)) (by rfl)) (by rfl)) (by rfl)))
  case' h24=>refine' (@Zy _ _ _ _ _ (@Za _ _ _ _ _ (Zx Jl ?h23 Zr) Zb (by rfl)))
  case' h23=>refine' (@it _ _ _ _ _ _ K (pv 2) Zc (by rfl) (by exact λ_ _=>rfl))
  case' h22=>refine' (@Zy _ _ _ _ _ (@Za _ _ _ _ _ Zr Zb (by rfl)))
  case' h21=>refine' (@Zy _ _ _ _ _ (@Za _ _ _ _ _ ZI Zb (by rfl)))
  case' h20=>refine' (@WA _ _ _ _ _ _ hr.units0 (pv 2) Zc)
  case' h19=>refine' (@Z2 _ _ _ _ (@Za _ _ _ _ _ ?h18 (@Za _ _ _ _ _ ?h17 (@Za _ _ _ _ _ ?h15 (@Za _ _ _ _ _ ?h13 (@Za _ _ _ _ _ ?h10 (@Za _ _ _ _ _ ?h9 (@Za _ _ _ _ _ Zc Zb (by rfl)) (by rfl)) (by rfl)) (by rfl)) (by rfl)) (by rfl)) (by rfl)))
  case' h18=>refine' (@Zy _ _ _ _ _ (@Za _ _ _ _ _ Zr (@Za _ _ _ _ _ (pv 3) (@Za _ _ _ _ _ Zc Zb (by rfl)) (by rfl)) (by rfl)))
  case' h17=>refine' (@Zy _ _ _ _ _ (@Za _ _ _ _ _ Zr (@Za _ _ _ _ _ ?h16 (@Za _ _ _ _ _ Zc Zb (by rfl)) (by rfl)) (by rfl)))
  case' h16=>refine' (@it _ _ _ _ _ _ K (pv 2) Zc (by rfl) (by exact λ_ _=>rfl))
  case' h15=>refine' (@Zy _ _ _ _ _ (@Za _ _ _ _ _ Zr (@Za _ _ _ _ _ ?h14 (@Za _ _ _ _ _ Zc Zb (by rfl)) (by rfl)) (by rfl)))
  case' h14=>refine' (@it _ _ _ _ _ _ K (pv 2) Zc (by rfl) (by exact λ_ _=>rfl))
  case' h13=>refine' (@Zy _ _ _ _ _ (@Za _ _ _ _ _ Zr (@Za _ _ _ _ _ ?h12 (@Za _ _ _ _ _ Zc Zb (by rfl)) (by rfl)) (by rfl)))
  case' h12=>refine' (@Zy _ _ _ _ _ (@Za _ _ _ _ _ ?h11 Zb (by rfl)))
  case' h11=>refine' (@it _ _ _ _ _ _ K (pv 2) Zc (by rfl) (by exact λ_ _=>rfl))
  case' h10=>refine' (@it _ _ _ _ _ _ K (pv 2) Zc (by rfl) (by exact λ_ _=>rfl))
  case' h9=>refine' (@Zy _ _ _ _ _ Zb)
  case' h8=>refine' (@Z2 _ _ _ _ (@Za _ _ _ _ _ (Yh Jp rfl (B _ (by decide +kernel)) Jr (@Za _ _ _ _ _ (pv 2) Zb (by rfl))) (@Za _ _ _ _ _ (Zx YR (pv 2) ?h7) (@Za _ _ _ _ _ (ZY (r:=rSlT K) XJ (pv 2) Yg (Ye Zc)) (@Za _ _ _ _ _ (Zx YR (ZY (r:=rSlT K) XJ (pv 2) Yg (Ye (VF Jd Zc))) ?h6) (@Za _ _ _ _ _ (Zx YR (ZY (r:=rSlT K) XJ (pv 2) Yg (Ye (VF Jd Zc))) ?h5) (@Za _ _ _ _ _ (Zx YR (ZY (r:=rSlT K) XJ (pv 2) Yg (Ye (VF Jd Zc))) ?h3) (@Za _ _ _ _ _ ZI Zb (by rfl)) (by rfl)) (by rfl)) (by rfl)) (by rfl)) (by rfl)) (by rfl)))
  case' h7=>refine' (@Zy _ _ _ _ _ (@Za _ _ _ _ _ Zc Zb (by rfl)))
  case' h6=>refine' (@Zy _ _ _ _ _ (@Za _ _ _ _ _ J5 Zb (by rfl)))
  case' h5=>refine' (@Zy _ _ _ _ _ (@Za _ _ _ _ _ (Zx Z3 ?h4 Zc) Zb (by rfl)))
  case' h4=>refine' (@il _ _ _ _ _ _ K (pv 1) Zc (by rfl) (by exact λ_ _=>rfl))
  case' h3=>refine' (@Zy _ _ _ _ _ (@Za _ _ _ _ _ (VF Jd Zc) Zb (by rfl)))
  case' h2=>refine' (@il _ _ _ _ _ _ K (YG (scope:=Y0) (N:=["_law_place","_law_room"]) (cp:=[none,none]) rfl JY JZ (Yo ?h1) (λC s H ex pn=>(NG (K:=K) (n:=2) rfl rfl (Zt (Zp (i:=0) Xb rfl (Or.inl rfl)) (Zt (Zp (i:=1) Xb rfl (Or.inl rfl)) Yt)))) (λC s H ex pn=>(Gs (ZF NJ (pv 1) ZI (ZE _)))) (λC s H ex pn=>(pv 0))) Zc (by rfl) (by exact λ_ _=>rfl))
  case' h1=>refine' (@il _ _ _ _ _ _ K (pv 1) Zc (by rfl) (by exact λ_ _=>rfl))
  have hn0:=ok.n0;have hn1:=ok.n1;obtain⟨w0,nm,ul,l2,l3,at0,at1,atm,gw,gn,au,qk⟩:=Lf ok hs;refine⟨_,rfl,pw,_,1,_,rfl,rfl,SqL.of tb.at_,Zn (j:=1) rfl,l1,rfl,⟨_,SqL.of tb.pl.2.choose_spec.1⟩,?_⟩;obtain⟨p1,p2,p3,p4⟩:=VJ ok;refine Us (J:=Itl K l1) T.t1.length (Nat.le_trans p1 (by decide)) (λi ys τ H'=>H'=H/\ys.length<=i/\(∀y∈ys,∃z,y=.str z/\GS z)/\(∀(m:Nat)y,m<i->T.t1[m]?=some y->at_ y 1=.non->ys≠[])/\∃v1 v2,τ=[v1,v2]) ⟨rfl,Nat.le_refl _,(λy hy=>by cases hy),(λm y hm=>by omega),none,none,rfl⟩ (λi ys τ H' p=>p.2.1) (λi ys τ H' hi p=>?_) (λys τ H' p=>?_) (λi ys τ H' x H2 hi p yl=>?_) (λys τ H' p c hc=>?_)
  ·obtain⟨rfl,_⟩:=p;exact tb.pl.go hi
  ·obtain⟨rfl,_⟩:=p;exact tb.pl.stop
  ·obtain⟨rfl,ly,hy,hne,v1,v2,rfl⟩:=p;have e0:T.t1[i]?=some T.t1[i]:=List.getElem?_eq_getElem hi;obtain⟨rfl,a,rfl,na,ha⟩:=tb.pl.item e0 yl;have hm:T.t1[i]∈T.t1:=List.getElem_mem hi;obtain⟨⟨z,r⟩,ez,gz,_⟩:=Jh ok hm;rw[ez]at ha;refine⟨a,_,rfl,SqT.of ha,rfl,_,_,rfl,_,_,rfl,rfl,?_⟩;cases r with
  |none=>
    refine⟨_,rfl,rfl,_,rfl,?_⟩;refine iteT ?_;refine⟨_,rfl,rfl,by rw[List.length_append];exact Nat.succ_le_succ ly,λy h=>?_,λm y hm' e1 e2=>by simp,_,_,rfl⟩;rcases List.mem_append.mp h with h|h
    ·exact hy y h
    ·rw[List.mem_singleton]at h;exact⟨z,h,gz⟩
  |some r=>
    refine⟨_,rfl,rfl,_,rfl,?_⟩;refine iteF ?_;refine⟨rfl,Nat.le_succ_of_le ly,hy,λm y hm' e1 e2=>?_,_,_,rfl⟩;by_cases q:m=i
    ·subst q;rw[e0,ez]at e1;cases e1;cases e2
    ·exact hne m y (by omega) e1 e2
  obtain⟨rfl,ly,hy,hne,v1,v2,rfl⟩:=p;obtain⟨yh,hyh,eyh⟩:=hho;obtain⟨mh,hmh⟩:=List.mem_iff_getElem?.mp hyh;have nn:=hne mh yh (List.getElem?_eq_some_iff.mp hmh).1 hmh eyh;obtain⟨y0,yr,rfl⟩:=List.exists_cons_of_ne_nil nn;obtain⟨zh,rfl,gzh⟩:=hy y0 (by simp);refine al2 hb hc λH0 B0 S0 e0 n0=>?_;have A0:=S0;refine⟨c,_,0,_,rfl,rfl,SqL.of e0,Zn (j:=0) rfl,?_⟩;refine⟨_,rfl,k,xs,rfl,.inr (SqT.of (A0 _ _ hk nk)),λc1 hc1=>?_⟩;first|refine al2 B0 hc1 λH1 B1 S1 e1 n1=>?_|(dsimp only[tNil];refine al2 B0 hc1 λH1 B1 S1 e1 n1=>?_)
  have A1:=A0.trans S1;refine⟨_,rfl,zl,λc2 hc2=>?_⟩;first|refine al2 B1 hc2 λH2 B2 S2 e2 n2=>?_|(dsimp only[tNil];refine al2 B1 hc2 λH2 B2 S2 e2 n2=>?_)
  have A2:=A1.trans S2;refine XM B2 (n:=3) (m:=1) ⟨k,xs,rfl,nk,A2 _ _ hk nk,l3,λv hv=>.inl (qk v hv)⟩ ⟨c2,_,rfl,n2,e2,Nat.le_refl _,ix1 (.inl (Js (by decide) (by decide)))⟩ (by decide) λz3 H3 B3 S3 t3=>?_;have A3:=A2.trans S3;refine⟨_,rfl,_,rfl,?_⟩;try dsimp only[YL]
  refine J4 B3 nk (A3 _ _ hk nk) (λv hv=>.inl (qk v hv)) l3 (LL l2) λz4 H4 B4 S4 t4=>?_;have A4:=A3.trans S4;refine⟨_,rfl,_,rfl,_,rfl,?_⟩;try dsimp only[YL]
  refine J4 B4 nk (A4 _ _ hk nk) (λv hv=>.inl (qk v hv)) l3 (Mh l2) λz5 H5 B5 S5 t5=>?_;have A5:=A4.trans S5;refine⟨zl,λc6 hc6=>?_⟩;first|refine al2 B5 hc6 λH6 B6 S6 e6 n6=>?_|(dsimp only[tNil];refine al2 B5 hc6 λH6 B6 S6 e6 n6=>?_)
  have A6:=A5.trans S6;refine XM B6 (n:=3) (m:=1) (t5.same S6) ⟨c6,_,rfl,n6,e6,Nat.le_refl _,ix1 (.inr (.inl rfl))⟩ (by decide) λz7 H7 B7 S7 t7=>?_;have A7:=A6.trans S7;refine⟨_,rfl,_,rfl,_,rfl,?_⟩;try dsimp only[YL]
  refine J4 B7 nk (A7 _ _ hk nk) (λv hv=>.inl (qk v hv)) l3 (Mh l2) λz8 H8 B8 S8 t8=>?_;have A8:=A7.trans S8;refine⟨_,rfl,pw,_,0,_,rfl,rfl,SqL.of (A8 _ _ tb.at_ tb.ne),Zn (j:=0) rfl,_,_,rfl,rfl,zl,λc9 hc9=>?_⟩;first|refine al2 B8 hc9 λH9 B9 S9 e9 n9=>?_|(dsimp only[tNil];refine al2 B8 hc9 λH9 B9 S9 e9 n9=>?_)
  have A9:=A8.trans S9;refine XM B9 (n:=3) (m:=1) (t8.same S9) ⟨c9,_,rfl,n9,e9,Nat.le_refl _,ix1 (.inl (Js (by omega) (by omega)))⟩ (by decide) λz10 H10 B10 S10 t10=>?_;have A10:=A9.trans S10;refine⟨_,rfl,_,rfl,_,rfl,?_⟩;try dsimp only[YL]
  refine J4 B10 nk (A10 _ _ hk nk) (λv hv=>.inl (qk v hv)) l3 (Mh l2) λz11 H11 B11 S11 t11=>?_;have A11:=A10.trans S11;refine⟨_,rfl,zl,λc12 hc12=>?_⟩;first|refine al2 B11 hc12 λH12 B12 S12 e12 n12=>?_|(dsimp only[tNil];refine al2 B11 hc12 λH12 B12 S12 e12 n12=>?_)
  have A12:=A11.trans S12;refine XM B12 (n:=3) (m:=1) (t11.same S12) ⟨c12,_,rfl,n12,e12,Nat.le_refl _,ix1 (.inl (Js (by decide) (by decide)))⟩ (by decide) λz13 H13 B13 S13 t13=>?_;have A13:=A12.trans S13;refine⟨zl,λs14 hs14=>?_⟩;first|refine al2 B13 hs14 λH14 B14 S14 e14 n14=>?_|(dsimp only[tNil];refine al2 B13 hs14 λH14 B14 S14 e14 n14=>?_)
  have A14:=A13.trans S14;refine⟨_,rfl,?_⟩;refine⟨_,rfl,zl,λc15 hc15=>?_⟩;first|refine al2 B14 hc15 λH15 B15 S15 e15 n15=>?_|(dsimp only[tNil];refine al2 B14 hc15 λH15 B15 S15 e15 n15=>?_)
  have A15:=A14.trans S15;refine⟨_,rfl,k,_,1,_,rfl,rfl,SqT.of (A15 _ _ hk nk),at1,zl,λc16 hc16=>?_⟩;first|refine al2 B15 hc16 λH16 B16 S16 e16 n16=>?_|(dsimp only[tNil];refine al2 B15 hc16 λH16 B16 S16 e16 n16=>?_)
  have A16:=A15.trans S16;refine⟨_,rfl,k,_,1,_,rfl,rfl,SqT.of (A16 _ _ hk nk),at1,zl,λc17 hc17=>?_⟩;first|refine al2 B16 hc17 λH17 B17 S17 e17 n17=>?_|(dsimp only[tNil];refine al2 B16 hc17 λH17 B17 S17 e17 n17=>?_)
  have A17:=A16.trans S17;refine⟨_,rfl,k,_,1,_,rfl,rfl,SqT.of (A17 _ _ hk nk),at1,zl,λc18 hc18=>?_⟩;first|refine al2 B17 hc18 λH18 B18 S18 e18 n18=>?_|(dsimp only[tNil];refine al2 B17 hc18 λH18 B18 S18 e18 n18=>?_)
  have A18:=A17.trans S18;refine⟨zl,λc19 hc19=>?_⟩;first|refine al2 B18 hc19 λH19 B19 S19 e19 n19=>?_|(dsimp only[tNil];refine al2 B18 hc19 λH19 B19 S19 e19 n19=>?_)
  have A19:=A18.trans S19;refine⟨_,rfl,k,_,1,_,rfl,rfl,SqT.of (A19 _ _ hk nk),at1,?_⟩;refine⟨zl,λc20 hc20=>?_⟩;first|refine al2 B19 hc20 λH20 B20 S20 e20 n20=>?_|(dsimp only[tNil];refine al2 B19 hc20 λH20 B20 S20 e20 n20=>?_)
  have A20:=A19.trans S20;refine⟨zl,λs21 hs21=>?_⟩;first|refine al2 B20 hs21 λH21 B21 S21 e21 n21=>?_|(dsimp only[tNil];refine al2 B20 hs21 λH21 B21 S21 e21 n21=>?_)
  have A21:=A20.trans S21;refine⟨s14,s21,_,_,rfl,rfl,(S21 _ _ (S20 _ _ (S19 _ _ (S18 _ _ (S17 _ _ (S16 _ _ (S15 _ _ e14 n14) n14) n14) n14) n14) n14) n14),e21,zl,λp22 hp22=>?_⟩;first|refine al2 B21 hp22 λH22 B22 S22 e22 n22=>?_|(dsimp only[tNil];refine al2 B21 hp22 λH22 B22 S22 e22 n22=>?_)
  have A22:=A21.trans S22;refine⟨_,rfl,?_⟩;refine⟨_,rfl,_,rfl,?_⟩;try dsimp only[YL]
  refine J4 B22 nk (A22 _ _ hk nk) (λv hv=>.inl (qk v hv)) l3 (LL l2) λz23 H23 B23 S23 t23=>?_;have A23:=A22.trans S23;refine⟨_,rfl,k,_,1,_,rfl,rfl,SqT.of (A23 _ _ hk nk),at1,_,_,rfl,rfl,by have:=gn.1;exact Nat.le_trans (Nat.add_le_add_right this 1) (by decide),zl,λc24 hc24=>?_⟩;first|refine al2 B23 hc24 λH24 B24 S24 e24 n24=>?_|(dsimp only[tNil];refine al2 B23 hc24 λH24 B24 S24 e24 n24=>?_)
  have A24:=A23.trans S24;refine XM B24 (n:=3) (m:=1) (t23.same S24) ⟨c24,_,rfl,n24,e24,Nat.le_refl _,ix1 (.inl (ax_q gn))⟩ (by decide) λz25 H25 B25 S25 t25=>?_;have A25:=A24.trans S25;refine⟨_,rfl,_,rfl,?_⟩;try dsimp only[YL]
  refine J4 B25 nk (A25 _ _ hk nk) (λv hv=>.inl (qk v hv)) l3 (D9 l2) λz26 H26 B26 S26 t26=>?_;have A26:=A25.trans S26;refine XM B26 (n:=4) (m:=3) (t25.same S26) t26 (by decide) λz27 H27 B27 S27 t27=>?_;have A27:=A26.trans S27;refine⟨zl,λc28 hc28=>?_⟩;first|refine al2 B27 hc28 λH28 B28 S28 e28 n28=>?_|(dsimp only[tNil];refine al2 B27 hc28 λH28 B28 S28 e28 n28=>?_)
  have A28:=A27.trans S28;refine⟨_,rfl,_,rfl,?_⟩;try dsimp only[YL]
  refine J4 B28 nk (A28 _ _ hk nk) (λv hv=>.inl (qk v hv)) l3 (W9 l2) λz29 H29 B29 S29 t29=>?_;have A29:=A28.trans S29;refine XM B29 (n:=1) (m:=3) (TXs.same S29 ⟨c28,_,rfl,n28,e28,Nat.le_refl _,ix1 (.inl (YE (.str X9.2.2.1)))⟩) t29 (by decide) λz30 H30 B30 S30 t30=>?_;have A30:=A29.trans S30;refine⟨_,rfl,_,rfl,_,rfl,?_⟩;try dsimp only[YL]
  refine J4 B30 nk (A30 _ _ hk nk) (λv hv=>.inl (qk v hv)) l3 (Mh l2) λz31 H31 B31 S31 t31=>?_;have A31:=A30.trans S31;refine⟨zl,λc32 hc32=>?_⟩;first|refine al2 B31 hc32 λH32 B32 S32 e32 n32=>?_|(dsimp only[tNil];refine al2 B31 hc32 λH32 B32 S32 e32 n32=>?_)
  have A32:=A31.trans S32;refine XM B32 (n:=3) (m:=1) (t31.same S32) ⟨c32,_,rfl,n32,e32,Nat.le_refl _,ix1 (.inl (.inl rfl))⟩ (by decide) λz33 H33 B33 S33 t33=>?_;have A33:=A32.trans S33;refine λpd hpd=>⟨_,rfl,k,S.key,rfl,by rw[Zj (Zk (A33 _ _ hk nk) hpd),<-hs.key.1];exact A33 _ _ hk nk,Ze,?_⟩;rw[Rn];first|refine al2 B33 hpd λH34 B34 S34 e34 n34=>?_|(dsimp only[tNil];refine al2 B33 hpd λH34 B34 S34 e34 n34=>?_)
  have A34:=A33.trans S34;refine⟨zl,λs35 hs35=>?_⟩;first|refine al2 B34 hs35 λH35 B35 S35 e35 n35=>?_|(dsimp only[tNil];refine al2 B34 hs35 λH35 B35 S35 e35 n35=>?_)
  have A35:=A34.trans S35;refine⟨p22,s35,_,_,rfl,rfl,(S35 _ _ (S34 _ _ (S33 _ _ (S32 _ _ (S31 _ _ (S30 _ _ (S29 _ _ (S28 _ _ (S27 _ _ (S26 _ _ (S25 _ _ (S24 _ _ (S23 _ _ e22 n22) n22) n22) n22) n22) n22) n22) n22) n22) n22) n22) n22) n22),e35,zl,λp36 hp36=>?_⟩;first|refine al2 B35 hp36 λH36 B36 S36 e36 n36=>?_|(dsimp only[tNil];refine al2 B35 hp36 λH36 B36 S36 e36 n36=>?_)
  have A36:=A35.trans S36;refine⟨_,rfl,?_⟩;refine⟨_,rfl,_,rfl,_,rfl,?_⟩;try dsimp only[YL]
  refine J4 B36 nk (A36 _ _ hk nk) (λv hv=>.inl (qk v hv)) l3 (Mh l2) λz37 H37 B37 S37 t37=>?_;have A37:=A36.trans S37;refine⟨_,rfl,_,rfl,k,_,_,_,rfl,rfl,SqT.of (A37 _ _ hk nk),atm,zl,λc38 hc38=>?_⟩;first|refine al2 B37 hc38 λH38 B38 S38 e38 n38=>?_|(dsimp only[tNil];refine al2 B37 hc38 λH38 B38 S38 e38 n38=>?_)
  have A38:=A37.trans S38;refine⟨zl,λc39 hc39=>?_⟩;first|refine al2 B38 hc39 λH39 B39 S39 e39 n39=>?_|(dsimp only[tNil];refine al2 B38 hc39 λH39 B39 S39 e39 n39=>?_)
  have A39:=A38.trans S39;refine XM B39 (n:=3) (m:=1) ((t37.same S38).same S39) ⟨c39,_,rfl,n39,e39,Nat.le_refl _,ix1 (.inr (.inr ⟨c38,_,rfl,n38,au,.inl (S39 _ _ e38 n38)⟩))⟩ (by decide) λz40 H40 B40 S40 t40=>?_;have A40:=A39.trans S40;refine⟨_,rfl,k,_,0,_,rfl,rfl,SqT.of (A40 _ _ hk nk),at0,?_⟩;refine⟨_,rfl,k,_,1,_,rfl,rfl,SqT.of (A40 _ _ hk nk),at1,zl,λc41 hc41=>?_⟩;first|refine al2 B40 hc41 λH41 B41 S41 e41 n41=>?_|(dsimp only[tNil];refine al2 B40 hc41 λH41 B41 S41 e41 n41=>?_)
  have A41:=A40.trans S41;refine⟨zl,λc42 hc42=>?_⟩;first|refine al2 B41 hc42 λH42 B42 S42 e42 n42=>?_|(dsimp only[tNil];refine al2 B41 hc42 λH42 B42 S42 e42 n42=>?_)
  have A42:=A41.trans S42;refine⟨_,rfl,k,_,0,_,rfl,rfl,SqT.of (A42 _ _ hk nk),at0,zl,λc43 hc43=>?_⟩;first|refine al2 B42 hc43 λH43 B43 S43 e43 n43=>?_|(dsimp only[tNil];refine al2 B42 hc43 λH43 B43 S43 e43 n43=>?_)
  have A43:=A42.trans S43;refine⟨zl,λc44 hc44=>?_⟩;first|refine al2 B43 hc44 λH44 B44 S44 e44 n44=>?_|(dsimp only[tNil];refine al2 B43 hc44 λH44 B44 S44 e44 n44=>?_)
  have A44:=A43.trans S44;refine⟨_,rfl,_,rfl,?_⟩;try dsimp only[YL]
  refine J4 B44 nk (A44 _ _ hk nk) (λv hv=>.inl (qk v hv)) l3 (W9 l2) λz45 H45 B45 S45 t45=>?_;have A45:=A44.trans S45;refine XM B45 (n:=1) (m:=3) (TXs.same S45 ⟨c44,_,rfl,n44,e44,Nat.le_refl _,ix1 (.inr (.inr ⟨c43,_,rfl,n43,YE (.str gw),.inl (S44 _ _ e43 n43)⟩))⟩) t45 (by decide) λz46 H46 B46 S46 t46=>?_;have A46:=A45.trans S46;refine⟨zl,λs47 hs47=>?_⟩;first|refine al2 B46 hs47 λH47 B47 S47 e47 n47=>?_|(dsimp only[tNil];refine al2 B46 hs47 λH47 B47 S47 e47 n47=>?_)
  have A47:=A46.trans S47;refine⟨p36,s47,_,_,rfl,rfl,(S47 _ _ (S46 _ _ (S45 _ _ (S44 _ _ (S43 _ _ (S42 _ _ (S41 _ _ (S40 _ _ (S39 _ _ (S38 _ _ (S37 _ _ e36 n36) n36) n36) n36) n36) n36) n36) n36) n36) n36) n36),e47,zl,λp48 hp48=>?_⟩;first|refine al2 B47 hp48 λH48 B48 S48 e48 n48=>?_|(dsimp only[tNil];refine al2 B47 hp48 λH48 B48 S48 e48 n48=>?_)
  have A48:=A47.trans S48;have R48:Zh b H48 H48:=Zh.refl b H48;have R47:=S48.trans R48;have R46:=S47.trans R47;have R45:=S46.trans R46;have R44:=S45.trans R45;have R43:=S44.trans R44;have R42:=S43.trans R43;have R41:=S42.trans R42;have R40:=S41.trans R41;have R39:=S40.trans R40;have R38:=S39.trans R39;have R37:=S38.trans R38;have R36:=S37.trans R37;have R35:=S36.trans R36;have R34:=S35.trans R35;have R33:=S34.trans R34;have R32:=S33.trans R33;have R31:=S32.trans R32;have R30:=S31.trans R31;have R29:=S30.trans R30;have R28:=S29.trans R29;have R27:=S28.trans R28;have R26:=S27.trans R27;have R25:=S26.trans R26;have R24:=S25.trans R25;have R23:=S24.trans R24;have R22:=S23.trans R23;have R21:=S22.trans R22;have R20:=S21.trans R21;have R19:=S20.trans R20;have R18:=S19.trans R19;have R17:=S18.trans R18;have R16:=S17.trans R17;have R15:=S16.trans R16;have R14:=S15.trans R15;have R13:=S14.trans R14;have R12:=S13.trans R13;have R11:=S12.trans R12;have R10:=S11.trans R11;have R9:=S10.trans R10;have R8:=S9.trans R9;have R7:=S8.trans R8;have R6:=S7.trans R7;have R5:=S6.trans R6;have R4:=S5.trans R5;have R3:=S4.trans R4;have R2:=S3.trans R3;have R1:=S2.trans R2;have R0:=S1.trans R1;have all:∀x∈([.ref c1,z3,z4,z7,z10,z13,.non,.ref c15,.ref c16,.ref c17,.ref c19,.str nm,.ref c20,.int 7,z27,z30,z33,.ref pd,.bl true,z40,.ref c42,z46]:List V),Bx b H48 x:=by
   intro x hx;simp only[List.mem_cons,List.not_mem_nil,or_false]at hx;rcases hx with rfl|rfl|rfl|rfl|rfl|rfl|rfl|rfl|rfl|rfl|rfl|rfl|rfl|rfl|rfl|rfl|rfl|rfl|rfl|rfl|rfl|rfl
   ·exact Bx.same R1 (.inr (.inr (.inl ⟨c1,xs,rfl,n1,e1,Nat.le_trans l3 (by decide),qk⟩)))
   ·exact Bx.same R3 (.inr (.inr (.inr (.inl (t3.mono (by decide))))))
   ·exact Bx.same R4 (.inr (.inr (.inr (.inl (t4.mono (by decide))))))
   ·exact Bx.same R7 (.inr (.inr (.inr (.inl (t7.mono (by decide))))))
   ·exact Bx.same R10 (.inr (.inr (.inr (.inl (t10.mono (by decide))))))
   ·exact Bx.same R13 (.inr (.inr (.inr (.inl (t13.mono (by decide))))))
   ·exact .inl (.inl rfl)
   ·exact Bx.same R15 (.inr (.inr (.inr (.inl ⟨c15,_,rfl,n15,e15,Nat.le_of_ble_eq_true rfl,ix3 (.inl (YE (.str X9.2.2.2.1))) (.inl (YE (.str gzh))) (.inl (Js (by decide) (by decide)))⟩))))
   ·exact Bx.same R16 (.inr (.inr (.inr (.inl ⟨c16,_,rfl,n16,e16,Nat.le_of_ble_eq_true rfl,ix3 (.inl (YE (.str X9.2.1))) (.inl (YE (.str gn))) (.inl (Js (by decide) (by decide)))⟩))))
   ·exact Bx.same R17 (.inr (.inr (.inr (.inl ⟨c17,_,rfl,n17,e17,Nat.le_of_ble_eq_true rfl,ix3 (.inl (YE (.str X9.2.2.2.2))) (.inl (YE (.str gn))) (.inl (Js (by decide) (by decide)))⟩))))
   ·exact Bx.same R19 (.inr (.inr (.inr (.inl ⟨c19,_,rfl,n19,e19,Nat.le_of_ble_eq_true rfl,ix3 (.inl (YE (.str X9.1))) (.inr (.inr ⟨c18,_,rfl,n18,YE (.str gn),.inr (S19 _ _ e18 n18)⟩)) (.inl (Js (by decide) (by decide)))⟩))))
   ·exact .inl (YE (.str gn))
   ·exact Bx.same R20 (.inr (.inr (.inr (.inl ⟨c20,_,rfl,n20,e20,Nat.le_of_ble_eq_true rfl,(λv hv=>by cases hv)⟩))))
   ·exact .inl (Js (by decide) (by decide))
   ·exact Bx.same R27 (.inr (.inr (.inr (.inl (t27.mono (by decide))))))
   ·exact Bx.same R30 (.inr (.inr (.inr (.inl (t30.mono (by decide))))))
   ·exact Bx.same R33 (.inr (.inr (.inr (.inl (t33.mono (by decide))))))
   ·exact Bx.same R34 (.inr (.inr (.inr (.inr ⟨pd,S.key,rfl,n34,e34,sm6,smk⟩))))
   ·exact .inr (.inl rfl)
   ·exact Bx.same R40 (.inr (.inr (.inr (.inl (t40.mono (by decide))))))
   ·exact Bx.same R42 (.inr (.inr (.inr (.inl ⟨c42,_,rfl,n42,e42,Nat.le_of_ble_eq_true rfl,ix3 (.inl (YE (.str gw))) (.inr (.inr ⟨c41,_,rfl,n41,YE (.str gn),.inl (S42 _ _ e41 n41)⟩)) (.inl (Js (by decide) (by decide)))⟩))))
   ·exact Bx.same R46 (.inr (.inr (.inr (.inl (t46.mono (by decide))))))
  refine⟨_,rfl,_,rfl,b,22,rfl,B48,by decide,ZA (by decide) (by decide),λr H' r0 r1 B' S'=>?_⟩;obtain⟨x,hx,hm⟩:=NY (xs:=[.ref c1,z3,z4,z7,z10,z13,.non,.ref c15,.ref c16,.ref c17,.ref c19,.str nm,.ref c20,.int 7,z27,z30,z33,.ref pd,.bl true,z40,.ref c42,z46]) r0 (show r<22 from r1);exact⟨p48,_,r,x,rfl,rfl,SqL.of (S' _ _ e48 n48),hx,kq H' x B' (A48.trans S') ((all x hm).same S')⟩
end
end SX
namespace L2
open PySem PySem.Spec PyProof.Rows
theorem WH{X:Cx}(hu:X.A.units+64<cLine):OpR X (compareOp .NotEq) (rNil true X.K):=by
 intro pins s σ H x y v u Q I rx ry h;obtain⟨a,b,xs,rfl,rfl,ha,hb,q⟩:=h;cases rx;cases ry;obtain⟨its,rv,p1,_⟩:=I.list ha;obtain⟨_,its2,n2,rv2,_,e2⟩:=I.lstM hb;have h2:=rv2.zero;subst h2;have l2:s.heap.IsList b #[]:=⟨_,e2,rfl,_,rfl⟩;have hl:=rv.length;by_cases hx:xs=[]
 ·subst hx;have h1:=rv.zero;subst h1;refine SeqAt.RcNeAt.lists (A:=X.A) (s:=s) (e:=λ_=>true) p1.isList l2 rfl (by omega) (λj h1 h2=>by simp at h2) X.prog X.w X.xe (EP X pins σ Q) ⟨.bl false,H,I,rfl,?_⟩;simpa using q
 ·refine SeqAt.RcNeAt.lists_lengths (A:=X.A) (s:=s) p1.isList l2 ?_ (by omega) X.prog X.w X.xe (EP X pins σ Q) ⟨.bl true,H,I,rfl,?_⟩
  ·simpa using λz=>hx (by subst z;simpa using hl)
  ·simpa[hx]using q
theorem Q7{X:Cx}{K:PySem.W.Frag}(hK:X.K=K):YK X (.builtin "isinstance") (λxs H Q=>∃(x:V)(p:Addr)(cs:List String)(T:String)(b:Bool),xs=[x,.ref p]/\Th H x T/\H p=some (.tup (cs.map V.ty))/\PySem.W.kitAny K (.type T) (cs.map Value.type)=some b/\Q (.bl b) H):=by subst hK;exact Nc
theorem Th.kit3{K:PySem.W.Frag}{H:Hp}{v:V}{T:String}(h:Th H v T):PySem.W.kitAny K (.type T) (["bool","tuple","list"].map Value.type)=some (decide (T="bool"\/T="tuple"\/T="list")):=by cases h<;>(first|kernel_rfl|(unfold PySem.W.kitAny;rfl))
theorem kt_n{K:PySem.W.Frag}:PySem.W.kitOne K (.type "NoneType") (.type "tuple")=some false:=by kernel_rfl
theorem kt_i{K:PySem.W.Frag}:PySem.W.kitOne K (.type "int") (.type "tuple")=some false:=by kernel_rfl
theorem kt_s{K:PySem.W.Frag}:PySem.W.kitOne K (.type "str") (.type "tuple")=some false:=by kernel_rfl
theorem kt_b{K:PySem.W.Frag}:PySem.W.kitOne K (.type "bool") (.type "tuple")=some false:=by kernel_rfl
theorem kt_l{K:PySem.W.Frag}:PySem.W.kitOne K (.type "list") (.type "tuple")=some false:=by kernel_rfl
theorem kt_d{K:PySem.W.Frag}:PySem.W.kitOne K (.type "dict") (.type "tuple")=some false:=by kernel_rfl
end L2
namespace SX
open PySem L2 PySem.Spec PyProof.Rows TB WD
theorem Kp:∀{xs:List V},(∀v∈xs,Ax v)->∃ks:List (Option Key),xs=ks.map okV
|[],_=>⟨[],rfl⟩
|v::xs,h=>by
  obtain⟨ks,e⟩:=Kp (xs:=xs) λu hu=>h u (List.mem_cons_of_mem _ hu);rcases h v List.mem_cons_self with rfl|⟨i,rfl,_⟩|⟨z,rfl,_⟩
  ·exact⟨none::ks,by rw[e];rfl⟩
  ·exact⟨some (.inl i)::ks,by rw[e];rfl⟩
  ·exact⟨some (.inr z)::ks,by rw[e];rfl⟩
theorem K6:∀{a b:Option Key},okV a=okV b->a=b
|none,none,_=>rfl
|none,some (.inl _),h=>by cases h
|none,some (.inr _),h=>by cases h
|some (.inl _),none,h=>by cases h
|some (.inr _),none,h=>by cases h
|some (.inl i),some (.inl j),h=>by cases h;rfl
|some (.inl i),some (.inr j),h=>by cases h
|some (.inr i),some (.inl j),h=>by cases h
|some (.inr i),some (.inr j),h=>by cases h;rfl
theorem Pt:∀{a b:List (Option Key)},a.map okV=b.map okV->a=b
|[],[],_=>rfl
|[],_::_,h=>by cases h
|_::_,[],h=>by cases h
|x::a,y::b,h=>by rw[List.map_cons,List.map_cons]at h;injection h with h1 h2;rw[K6 h1,Pt h2]
theorem RO(ks:List Key):(ks.map some).map okV=ks.map kV:=by rw[List.map_map];rfl
def Uv(T:Tb)(H:Hp)(x:V):Prop:=∃a xs j S,x=.ref a/\H a=some (.tup xs)/\ZU T xs j S
theorem Ax.th{H:Hp}{v:V}(h:Ax v):∃T,Th H v T/\¬(T="bool"\/T="tuple"\/T="list"):=by
 rcases h with rfl|⟨i,rfl,_⟩|⟨z,rfl,hz,_⟩
 ·exact⟨_,.non,by decide⟩
 ·exact⟨_,.int i,by decide⟩
 ·exact⟨_,.str z (by omega),by decide⟩
theorem Ix.th{b:Addr}{H:Hp}{v:V}(h:Ix b H v):∃T,Th H v T/\((T="bool"\/T="tuple"\/T="list")↔¬Ax v):=by
 rcases h with h|rfl|⟨a,u,rfl,_,hu,h|h⟩
 ·obtain⟨T,th,n⟩:=h.th (H:=H);exact⟨T,th,λq=>absurd q n,λq=>absurd h q⟩
 ·exact⟨_,.bl true,λ_ q=>(by rcases q with q|⟨i,q,_⟩|⟨z,q,_⟩<;>cases q),λ_=>.inl rfl⟩
 ·exact⟨_,.lst h,λ_ q=>(by rcases q with q|⟨i,q,_⟩|⟨z,q,_⟩<;>cases q),λ_=>.inr (.inr rfl)⟩
 ·exact⟨_,.tup h,λ_ q=>(by rcases q with q|⟨i,q,_⟩|⟨z,q,_⟩<;>cases q),λ_=>.inr (.inl rfl)⟩
theorem Sg{K:PySem.W.Frag}{b:Addr}{H:Hp}{x:V}(h:Bx b H x):(Ri K H x/\∀a xs,x=.ref a->H a≠some (.tup xs))\/∃a xs,x=.ref a/\H a=some (.tup xs)/\xs.length<=9/\∀v∈xs,Ix b H v:=by
 rcases h with(rfl|⟨i,rfl,_⟩|⟨z,rfl,_⟩)|rfl|⟨a,xs,rfl,_,h,_⟩|⟨a,xs,rfl,_,h,l,q⟩|⟨a,ks,rfl,_,h,_⟩
 ·exact .inl ⟨⟨_,.non,kt_n⟩,λa xs e=>by cases e⟩
 ·exact .inl ⟨⟨_,.int i,kt_i⟩,λa xs e=>by cases e⟩
 ·exact .inl ⟨⟨_,.str z,kt_s⟩,λa xs e=>by cases e⟩
 ·exact .inl ⟨⟨_,.bl true,kt_b⟩,λa xs e=>by cases e⟩
 ·exact .inl ⟨⟨_,.lst h,kt_l⟩,λa' xs' e q=>by cases e;rw[h]at q;cases q⟩
 ·exact .inr ⟨a,xs,rfl,h,l,q⟩
 ·exact .inl ⟨⟨_,.dT h,kt_d⟩,λa' xs' e q=>by cases e;rw[h]at q;cases q⟩
def RC:Sp:=λvs H Q _=>∃(b d:Addr)(x:V)(T:Tb),vs=[.ref d,x]/\Dc H d (allS T)/\OkTb T/\Bx b H x/\∀(r:Bool)H',Same H H'->(r=true↔Uv T H x)->Q (.bl r) H'
section
variable {P:Program}{w:World}{K:PySem.W.Frag}{mg:Str->Option Value}{base:Heap}
theorem Mz:FnScope ["_law_steps_here","_law_thing"] ["_law_steps_here","_law_thing"] (Zf T.f__law_is_key):=scO (by decide +kernel)
noncomputable def Xa:Scope:={kind:=.function,names:=[(Str.ofString ".0",.local),(Str.ofString "_law_part",.local),(Str.ofString "isinstance",.globalImplicit),(Str.ofString "bool",.globalImplicit),(Str.ofString "tuple",.globalImplicit),(Str.ofString "list",.globalImplicit)],isGenerator:=false,isCoroutine:=false,more:=[]}
theorem Vi:CompScope Xa (Zf T.f__law_is_key):=⟨rfl,by decide +kernel,by decide +kernel,by decide +kernel⟩
theorem Vk:(["_law_part"]:List Str).Nodup:=by decide +kernel
theorem Vj:CompNames ["_law_steps_here","_law_thing"] Xa ["_law_part"] [none]:=.mk' (by decide +kernel)
theorem TJ(B:∀x∈Blts,mg x=none)(D:Df K mg "_law_is_key" T.f__law_is_key ["_law_steps_here","_law_thing"]):Can P w K mg base 1 "_law_is_key" ["_law_steps_here","_law_thing"] RC:=by
 refine D.can Mz (λvs H Q E h=>?_) (λf cdv A outer s H vs Q E hr h=>?_)
 ·obtain⟨b,d,x,T,rfl,_⟩:=h;rfl
 ·obtain⟨b,d,x,T,rfl,dc,ok,bx,kq⟩:=h;refine' ⟨_,(@Zd _ _ _ _ _ ?h3 (@Zi _ _ _ ?h4)),?rd⟩;case' h4=>refine' (Zo (YB (Dx (Y7 hr)) (pv 1) (pv 0) (by with_unfolding_all rfl)))
  case' h3=>refine' (@ZH _ _ _ _ _ _ _ _ (PW.pt (VA (ZQ (ZD (ZC Qd rfl (B _ (by decide +kernel)) PyProof.Rows.boot_isinstance (@Za _ _ _ _ _ (pv 1) (@Za _ _ _ _ _ (Jj (v:=.ty "tuple") rfl (B _ (by decide +kernel)) YF rfl) Zb (by rfl)) (by rfl))))) (Jf (@ZF _ _ _ _ _ _ _ _ (WH hr.units) (YG (scope:=Xa) (N:=["_law_part"]) (cp:=[none]) rfl Vi Vj (Dr (pv 1)) (λC s H ex pn=>(Zp (i:=0) Vk rfl (Or.inl rfl))) (λC s H ex pn=>(Gs (ZD (ZC (Q7 (K:=K) rfl) rfl (B _ (by decide +kernel)) PyProof.Rows.boot_isinstance (Za (pv 0) (Za (Zy (Za (Jj (v:=.ty "bool") rfl (B _ (by decide +kernel)) Sh rfl) (Za (Jj (v:=.ty "tuple") rfl (B _ (by decide +kernel)) YF rfl) (Za (Jj (v:=.ty "list") rfl (B _ (by decide +kernel)) Jr rfl) Zb)))) Zb)))))) (λC s H ex pn=>(pv 0))) ?h1 (ZE _))))) (@Zi _ _ _ ?h2) Zv)
  case' h2=>refine' (Zo J5)
  case' h1=>refine' (@Z2 _ _ _ _ Zb)
  rcases Sg (K:=K) bx with⟨⟨ty,hty,kt⟩,nt⟩|⟨a,xs,rfl,ha,hl,q⟩
  ·refine⟨_,rfl,_,_,_,_,rfl,hty,kt,_,rfl,?_⟩;refine iteT ?_;refine iteT ?_;exact kq false H (Same.refl H) ⟨(λz=>by cases z),λ⟨a,xs,j,S,e,h,_⟩=>absurd h (nt a xs e)⟩
  refine⟨_,rfl,_,_,_,_,rfl,.tup ha,WT,_,rfl,?_⟩;refine iteF ?_;have sxs:∀{H':Hp},Same H H'->SqT K H' a xs:=λs=>SqT.of (s _ _ ha);refine⟨_,rfl,a,rfl,⟨_,sxs (Same.refl H)⟩,?_⟩;refine Us (J:=Itt K a) xs.length (Nat.le_trans hl (by decide)) (λi ys τ H'=>Same H H'/\ys.length<=i/\(ys=[]↔∀(m:Nat)v,m<i->xs[m]?=some v->Ax v)/\∃v1,τ=[v1]) ⟨Same.refl H,Nat.le_refl _,⟨λ_ m v hm=>by omega,λ_=>rfl⟩,none,rfl⟩ (λi ys τ H' p=>p.2.1) (λi ys τ H' hi p=>⟨_,xs[i],sxs p.1,List.getElem?_eq_getElem hi⟩) (λys τ H' p=>⟨_,sxs p.1,Nat.le_refl _⟩) (λi ys τ H' v H2 hi p yl=>?_) (λys τ H' p c hc=>?_)
  ·obtain⟨S1,ly,iff,v1,rfl⟩:=p;obtain⟨rfl,hy⟩:=yl;have hx:=hy _ (sxs S1);have hv:v=xs[i]:=by have:=(List.getElem?_eq_getElem hi).symm.trans hx;injection this with this;exact this.symm
   have ix:=q v (List.mem_of_getElem? hx);obtain⟨T',th,hiff⟩:=ix.th;refine⟨_,rfl,zl,λct hct=>?_⟩;try dsimp only[tNil]
   have S2:=sameNew (o:=.tup [.ty "bool",.ty "tuple",.ty "list"]) (Same.refl H2) hct;have e2:upd H2 ct (.tup [.ty "bool",.ty "tuple",.ty "list"]) ct=some (.tup [.ty "bool",.ty "tuple",.ty "list"]):=Ze;generalize upd H2 ct (.tup [.ty "bool",.ty "tuple",.ty "list"])=H3 at S2 e2 ⊢;refine⟨v,ct,["bool","tuple","list"],T',_,rfl,(th.same S1).same S2,e2,Th.kit3 th,_,rfl,?_⟩;refine XG (λe=>?_) (λe=>?_)
   ·have na:=hiff.mp (of_decide_eq_true e);refine⟨_,rfl,S1.trans S2,by rw[List.length_append];exact Nat.succ_le_succ ly,⟨λz=>by simp at z,λz=>absurd (z i v (by omega) hx) na⟩,_,rfl⟩
   ·have ax:Ax v:=Classical.byContradiction λz=>of_decide_eq_false e (hiff.mpr z);refine⟨S1.trans S2,Nat.le_succ_of_le ly,⟨λz m u hm hu=>?_,λz=>iff.mpr λm u hm hu=>z m u (by omega) hu⟩,_,rfl⟩;by_cases qm:m=i
    ·subst qm;rw[hx]at hu;cases hu;exact ax
    ·exact iff.mp z m u (by omega) hu
  obtain⟨S1,ly,iff,v1,rfl⟩:=p;have S2:=sameNew (o:=.lst ys) (Same.refl H') hc;have e2:upd H' c (.lst ys) c=some (.lst ys):=Ze;generalize upd H' c (.lst ys)=H2 at S2 e2 ⊢;refine⟨zl,λc3 hc3=>?_⟩;try dsimp only[tNil]
  have S3:=sameNew (o:=.lst []) (Same.refl H2) hc3;have e3:upd H2 c3 (.lst []) c3=some (.lst []):=Ze;generalize upd H2 c3 (.lst [])=H3 at S3 e3 ⊢;have S03:=(S1.trans S2).trans S3;refine⟨c,c3,ys,rfl,rfl,SqL.of (S3 _ _ e2),e3,_,rfl,?_⟩;by_cases hys:ys=[]
  ·rw[decide_eq_true hys];refine iteF ?_;have axs:∀v∈xs,Ax v:=λv hv=>by obtain⟨m,hm⟩:=List.mem_iff_getElem?.mp hv;exact iff.mp hys m v (List.getElem?_eq_some_iff.mp hm).1 hm
   obtain⟨ks,rfl⟩:=Kp axs;obtain⟨kvs,ed,_,h1,h2⟩:=dc;refine⟨_,rfl,_,rfl,a,d,ks,kvs,rfl,rfl,S03 _ _ ha,S03 _ _ ed,λr hr'=>kq r H3 S03 (hr'.trans ⟨?_,?_⟩)⟩
   ·rintro ⟨k,v,rfl,hv⟩;obtain⟨S,hS,rfl,_⟩:=h1 k v hv;obtain⟨j,hs⟩:=Uu ok hS;rw[RO]at ha;exact⟨a,_,j,S,rfl,ha,hs⟩
   ·rintro ⟨a',xs',j,S,e,h,hs⟩;cases e;rw[ha]at h;have hk:ks.map okV=xs':=by injection h with h;injection h
    have e2:ks.map okV=(S.key.map some).map okV:=by rw[RO,hk];exact hs.key.1
    obtain⟨v,hv⟩:=Option.isSome_iff_exists.mp (h2 S (GL ok hs));exact⟨S.key,v,Pt e2,hv⟩
  ·rw[decide_eq_false hys];refine iteT ?_;refine kq false H3 S03 ⟨(λz=>by cases z),λ⟨a',xs',j,S,e,h,hs⟩=>?_⟩;cases e;rw[ha]at h;have hk:xs=xs':=by injection h with h;injection h
   subst hk;have sm:=(hs.small ok).key;rw[<-hs.key.1]at sm;exact absurd (iff.mpr λm v _ hv=>YE (sm.2 v (List.mem_of_getElem? hv))) hys
end
noncomputable def dX:V->PyData
|.bl b=>.bool b
|v=>dF v
theorem Ax.is{H:Hp}{v:V}(h:Ax v):Is H v (dX v):=by
 rcases h with rfl|⟨i,rfl,_⟩|⟨z,rfl,_⟩
 ·exact .non
 ·exact .int i
 ·exact .str z
theorem Ax.sm{v:V}(h:Ax v):Sm (dX v) 0 20:=by
 rcases h with rfl|⟨i,rfl,hi⟩|⟨z,rfl,hz,hc⟩
 ·exact Atm.non.sm.mono (by decide) (by decide)
 ·exact(Atm.int hi).sm.mono (by decide) (by decide)
 ·refine⟨by simp only[dX,dF,PyData.showable],?_,Nat.le_refl _,hz⟩;simp only[dX,dF,PyData.leavesShort,List.all_eq_true,decide_eq_true_eq];exact λc h=>Nat.lt_of_lt_of_le (hc c h) (by decide)
theorem Ax.lay{v:V}(h:Ax v):(dX v).canLay0=true:=by
 rcases h with rfl|⟨i,rfl,hi⟩|⟨z,rfl,hz,hc⟩
 ·rfl
 ·rfl
 ·show(Array.all _ _)=true;rw[Array.all_eq_true'];intro c h;exact decide_eq_true (hc c (Array.mem_toList_iff.mpr h))
theorem Nr{ds:List PyData}{k m n:Nat}(h:SmAll ds k m)(hl:ds.length<=n):Sm (.list ds) (k+1) (n*(m+1)):=by
 refine⟨?_,?_,?_,?_⟩
 ·simp only[PyData.showable,h.sh]
 ·simp only[PyData.leavesShort,h.lv]
 ·simp only[PyData.depth];have:=h.dp;omega
 ·simp only[PyData.weight];exact Nat.le_trans h.wt (Nat.mul_le_mul_right _ hl)
theorem Qt{d:PyData}{k m:Nat}(h:Sm d k m):SmAll [d] k m:=SmAll.of λe he=>by rw[List.mem_singleton]at he;subst he;exact h
theorem Ix.told{b:Addr}{H:Hp}{v:V}(h:Ix b H v):∃d,Is H v d/\Sm d 1 30/\SeqAt.shaped d=true:=by
 rcases h with h|rfl|⟨a,u,rfl,_,hu,h|h⟩
 ·refine⟨_,h.is,h.sm.mono (by decide) (by decide),?_⟩;unfold SeqAt.shaped;rw[h.lay,decide_eq_true (Nat.le_trans h.sm.dp (by decide))];rfl
 ·exact⟨_,.bl true,⟨rfl,rfl,by decide,by decide⟩,by decide +kernel⟩
 ·have s1:=Nr (n:=1) (Qt hu.sm) (Nat.le_refl _);refine⟨.list [dX u],.lst h (.cons hu.is .nil),s1.mono (by decide) (by decide),?_⟩;unfold SeqAt.shaped;rw[show(PyData.list [dX u]).canLay0=true from by show((dX u).canLay0&&true)=true;rw[hu.lay];rfl,decide_eq_true (Nat.le_trans s1.dp (by decide))];rfl
 ·have s1:=(Qt hu.sm).tup (n:=1) (Nat.le_refl _);refine⟨.tuple [dX u],.tup h (.cons hu.is .nil),s1.mono (by decide) (by decide),?_⟩;unfold SeqAt.shaped;rw[show(PyData.tuple [dX u]).canLay0=true from by show((dX u).canLay0&&true)=true;rw[hu.lay];rfl,decide_eq_true (Nat.le_trans s1.dp (by decide))];rfl
theorem Ix.itm{b:Addr}{H:Hp}{v:V}(h:Ix b H v):Itm H v:=by obtain⟨T,th,_⟩:=h.th;obtain⟨d,i,_,s⟩:=h.told;exact⟨⟨T,th⟩,d,i,s⟩
theorem Mv{b:Addr}{H:Hp}:∀{xs:List V},(∀v∈xs,Ix b H v)->∃ds,IsAll H xs ds/\ds.length=xs.length/\∀d∈ds,Sm d 1 30
|[],_=>⟨[],.nil,rfl,(λd h=>by cases h)⟩
|v::xs,h=>by
  obtain⟨ds,i,l,s⟩:=Mv (xs:=xs) λu hu=>h u (List.mem_cons_of_mem _ hu);obtain⟨d,i1,s1,_⟩:=(h v List.mem_cons_self).told;refine⟨d::ds,.cons i1 i,by rw[List.length_cons,List.length_cons,l],λe he=>?_⟩;rcases List.mem_cons.mp he with rfl|he
  ·exact s1
  ·exact s e he
theorem EK{k:Key}(h:Ax (kV k)):Sm (kD k) 0 20:=by
 cases k with
|inl i=>exact h.sm
|inr z=>exact h.sm
theorem Lq{b:Addr}{H:Hp}{x:V}(h:Bx b H x):∃d,IsK H x d/\Shw (.list [d]):=by
 have one:∀{d:PyData}{k m:Nat},Sm d k m->k<=60->m<=1000->Shw (.list [d]):=λh hk hm=>(Nr (n:=1) (Qt h) (Nat.le_refl _)).shw (by omega) (by omega);rcases h with h|rfl|⟨a,xs,rfl,_,h,l,q⟩|⟨a,xs,rfl,_,h,l,q⟩|⟨a,ks,rfl,_,h,l,q⟩
 ·exact⟨_,.inl h.is,one h.sm (by decide) (by decide)⟩
 ·exact⟨_,.inl (.bl true),one (k:=0) (m:=0) ⟨rfl,rfl,by decide,by decide⟩ (by decide) (by decide)⟩
 ·obtain⟨ds,i,e,s⟩:=Mv (b:=b) (H:=H) (xs:=xs) λv hv=>.inl (q v hv);exact⟨_,.inl (.lst h i),one (Nr (n:=6) (SmAll.of s) (by omega)) (by decide) (by decide)⟩
 ·obtain⟨ds,i,e,s⟩:=Mv q;exact⟨_,.inl (.tup h i),one ((SmAll.of s).tup (n:=9) (by omega)) (by decide) (by decide)⟩
 ·have sk:Sm (.tuple (ks.map kD)) 1 200:=((SmAll.of (ds:=ks.map kD) (k:=0) (m:=20) λd hd=>by obtain⟨k,hk,rfl⟩:=List.mem_map.mp hd;exact EK (q k hk)).tup (n:=6) (by rw[List.length_map];exact l)).mono (by decide) (by decide);refine⟨_,.inr ⟨a,ks,1,rfl,h,rfl⟩,one (k:=5) (m:=500) ?_ (by decide) (by decide)⟩;have s1:Sm (.int 1) 0 12:=(Yv (i:=1) (by decide) (by decide)).sm;refine⟨?_,?_,?_,?_⟩
  ·have h1:=sk.sh;have h2:=s1.sh;simp only[PyData.showable,PyData.showableKv]at h1 h2 ⊢;rw[h1,h2];rfl
  ·have h1:=sk.lv;have h2:=s1.lv;simp only[PyData.leavesShort,PyData.leavesShortKv]at h1 h2 ⊢;rw[h1,h2];rfl
  ·have h1:=sk.dp;simp only[PyData.depth,PyData.depthKv]at h1 ⊢;omega
  ·have h1:=sk.wt;have h2:=s1.wt;simp only[PyData.weight,PyData.weightKv]at h1 h2 ⊢;omega
theorem Kn{K:PySem.W.Frag}{b:Addr}{H:Hp}{x:V}{T:Tb}(h:Bx b H x)(n:¬Uv T H x):LP K T H x:=by
 rcases Sg (K:=K) h with⟨h,_⟩|⟨a,xs,rfl,ha,hl,q⟩
 ·exact .inl h
 ·exact .inr ⟨a,xs,rfl,ha,Nat.le_trans hl (by decide),λv hv=>(q v hv).itm,λj S hs=>n ⟨a,xs,j,S,rfl,ha,hs⟩⟩
def MP(K:PySem.W.Frag)(C:Addr):Sp:=λvs H Q _=>∃(b t:Addr)(x:V)(T:Tb),vs=[.ref t,x]/\Tel H C t T/\OkTb T/\Bx b H x/\¬Uv T H x/\∀H',Same H H'->Q (.bl true) H'
section
variable {P:Program}{w:World}{K:PySem.W.Frag}{mg:Str->Option Value}{base:Heap}{C Cn fI Qa:Addr}{Cs:Nat->Addr}
theorem YN:FnScope ["_law_table_here","_law_thing","_law_found","e"] ["_law_table_here","_law_thing"] (Zf T.f__law_refused):=scO (by decide +kernel)
theorem Qb(B:∀x∈Blts,mg x=none)(X:XK1 K mg "NoStep" Cn fI Qa)(nX:ZZ K Cn "found")(CS:CanX P w K mg base 6 "step_of" ["table","key"] (GO K C Cn Cs))(D:Df K mg "_law_refused" T.f__law_refused ["_law_table_here","_law_thing"]):Can P w K mg base 7 "_law_refused" ["_law_table_here","_law_thing"] (MP K C):=by
 obtain⟨fm,fdm,FM,hm,hk,bM⟩:=CS;refine D.can YN (λvs H Q E h=>?_) (λf cdv A outer s H vs Q E hr h=>?_)
 ·obtain⟨b,t,x,T,rfl,_⟩:=h;rfl
 ·obtain⟨b,t,x,T,rfl,tel,ok,bx,no,kq⟩:=h;refine' ⟨_,(@Zd _ _ _ _ _ ?h2 (@Zd _ _ _ _ _ ?h3 (@Zi _ _ _ ?h4))),?rd⟩;case' h4=>refine' (Zo (JD (@YB _ _ _ _ _ _ _ _ JQ (pv 2) ZI (ZE _)) (Y9 (@YB _ _ _ _ _ _ _ _ X4 (ZC (Mu hr) rfl (B _ (by decide +kernel)) PyProof.Rows.boot_repr (@Za _ _ _ _ _ (pv 2) Zb (by rfl))) (ZC (Mu hr) rfl (B _ (by decide +kernel)) PyProof.Rows.boot_repr (@Za _ _ _ _ _ ?h1 Zb (by rfl))) (ZE _)))))
  case' h3=>refine' (Dq ⟨rfl,rfl⟩ (λE' pn' pp E hp=>Zi (Yz (QD FM hr rfl hm hk bM .nil hp (Za (pv 0) (Za (pv 1) Zb))))) (ES (i:=3) X.xb rfl X.mg YN.nd rfl rfl (λx=>Zi (Yl (i:=2) YN.nd rfl (Or.inl rfl) (RK (Za (KW (pv 3)) Zb)))) D5))
  case' h2=>refine' (@st _ _ _ _ 2 _ _ YN.nd ZI (by rfl) (by exact Or.inl rfl) (by rfl) (by exact .inl rfl))
  case' h1=>refine' (@RK _ _ _ _ (@Za _ _ _ _ _ (pv 1) Zb (by rfl)))
  obtain⟨dd0,isk,shw⟩:=Lq bx;refine⟨λc dd H'=>c=.ref Cn/\∃d,dd=some d/\H' d=some (XD d [("found",x)])/\Same H H',⟨rfl,_,rfl,_,rfl,t,x,T,rfl,tel,ok,.inr ⟨Kn bx no,λH' d s e=>⟨rfl,d,rfl,e,s⟩⟩⟩,?_⟩;rintro c dd H' ⟨rfl,d,rfl,hd,sm⟩;refine⟨Cn,rfl,λy hy=>⟨fI,Qa,X.xc,.inl ⟨by rw[List.contains_cons];simp,?_⟩⟩⟩;have hyd:d≠y:=Zk hd hy;have hd1:upd H' y (ErrC y Cn (some d)) d=some (XD d [("found",x)]):=by rw[Zj hyd];exact hd
  have hy1:Sn (upd H' y (ErrC y Cn (some d))) y Cn d:=.inl Ze;have sm1:Same H (upd H' y (ErrC y Cn (some d))):=sameNew sm hy;generalize upd H' y (ErrC y Cn (some d))=H1 at hd1 hy1 sm1 ⊢;refine⟨_,rfl,y,Cn,d,_,_,rfl,hy1,hd1,X.xr,nX,rfl,zl,λl hl nl=>?_⟩;try dsimp only[tNil]
  have S2:=sameNew (o:=.lst [x]) (Same.refl H1) hl;have e2:upd H1 l (.lst [x]) l=some (.lst [x]):=Ze;generalize upd H1 l (.lst [x])=H2 at S2 e2 ⊢;have S02:=sm1.trans S2;refine⟨_,rfl,rfl,true,rfl,?_⟩;refine iteT ?_;refine⟨_,rfl,l,x,dd0,rfl,e2,nl,PH S02 isk,shw.1,shw.2,shw.3,?_⟩;refine⟨_,rfl,zl,λl2 hl2 nl2=>?_⟩;try dsimp only[tNil]
  have S3:=sameNew (o:=.lst [x]) (Same.refl H2) hl2;have e3:upd H2 l2 (.lst [x]) l2=some (.lst [x]):=Ze;generalize upd H2 l2 (.lst [x])=H3 at S3 e3 ⊢;have S03:=S02.trans S3;refine⟨l2,x,dd0,rfl,e3,nl2,PH S03 isk,shw.1,shw.2,shw.3,rfl,?_⟩;show Q (.bl (decide (V.str (PyData.list [dd0]).shown=V.str (PyData.list [dd0]).shown))) H3;rw[decide_eq_true rfl];exact kq H3 S03
end
end SX
namespace WD
open PySem L2 PySem.Spec PyProof.Rows TB
section
variable {b:Addr}{H H':Hp}
theorem Zz.tup{H:Hp}{b p:Addr}{xs:List V}(h:Zz H b)(hp:H p=some (.tup xs)):p≠b:=by obtain⟨x,y,z,e⟩:=h;exact ne_of hp e (by intro z;cases z)
theorem Zz.ins{p C dx:Addr}{fs:List (Str×V)}(h:Zz H b)(hp:H p=some (.ins C dx fs)):p≠b:=by obtain⟨x,y,z,e⟩:=h;exact ne_of hp e (by intro z;cases z)
theorem Zz.dK{p:Addr}{k:Kv}(h:Zz H b)(hp:H p=some (.dK k)):p≠b:=by obtain⟨x,y,z,e⟩:=h;exact ne_of hp e (by intro z;cases z)
theorem VL(hb:Zz H b)(s:Zh b H H'){fs:List (Str×V)}{f g:Str}{r:PR}{k:Kv}(h:Z0 H fs f g r k):Z0 H' fs f g r k:=by obtain⟨l,d,xs,rs,a1,a2,a3,a4,a5⟩:=h;exact⟨l,d,xs,rs,a1,a2,a3,s _ _ a4 (hb.tup a4),s _ _ a5 (hb.dK a5)⟩
theorem Vx(hb:Zz H b)(s:Zh b H H'){xs:List V}{t:List (List V)}(hf:∀ys∈t,∀y∈ys,Flat y)(h:Yq H xs (t.map some)):Yq H' xs (t.map some):=⟨h.1,λi x r e1 e2=>by have h0:=h.2 i x r e1 e2;rw[List.getElem?_map]at e2;obtain⟨q,hq,rfl⟩:=Option.map_eq_some_iff.mp e2;obtain⟨p,e,hp,_⟩:=h0;exact⟨p,e,s _ _ hp (hb.tup hp),λy hy=>W5 (hf q (List.mem_of_getElem? hq) y hy)⟩⟩
theorem Tel.box{C t:Addr}{T:Tb}(hb:Zz H b)(o:OkTb T)(s:Zh b H H')(h:Tel H C t T):Tel H' C t T:=by
 obtain⟨fs,x1,x2,x3,x4,k,tp,d⟩:=h;refine⟨fs,x1,x2,x3,x4,k,⟨⟨⟨let ⟨dx,e⟩:=tp.tab.tab.at_;⟨dx,s _ _ e (hb.ins e)⟩,tp.tab.tab.only⟩,tp.tab.turns,VL hb s tp.tab.p,VL hb s tp.tab.r,VL hb s tp.tab.w,VL hb s tp.tab.g⟩,λr hr xs rs er=>?_⟩,d⟩;have rr:=tp.rows r hr xs rs er;rcases hr with rfl|rfl|rfl|rfl
 ·cases er;exact Vx hb s (o.flat (.inl rfl)) rr
 ·cases er;exact Vx hb s (o.flat (.inr (.inl rfl))) rr
 ·cases er;exact Vx hb s (o.flat (.inr (.inr (.inl rfl)))) rr
 ·cases er;exact Vx hb s (o.flat (.inr (.inr (.inr rfl)))) rr
end
def Pf(C:Addr):Sp:=λvs H Q _=>∃(b p l1 l2 l3 l4:Addr)(T:Tb),vs=[.ref p]/\TbAt b H p T l1 l2 l3 l4/\OkTb T/\∀H' t,Same H H'->Tel H' C t T->Q (.ref t) H'
section
variable {P:Program}{w:World}{K:PySem.W.Frag}{mg:Str->Option Value}{base:Heap}{C Cb:Addr}
theorem Nu:FnScope ["_law_world_here"] ["_law_world_here"] (Zf T.f__law_table):=scO (by decide +kernel)
theorem Q3(B:∀x∈Blts,mg x=none)(M:TMk P w K mg base C Cb)(D:Df K mg "_law_table" T.f__law_table ["_law_world_here"]):Can P w K mg base 9 "_law_table" ["_law_world_here"] (Pf C):=by
 obtain⟨fm,fdm,hM,FM,bM⟩:=M.made;refine D.can Nu (λvs H Q E h=>?_) (λf cdv A outer s H vs Q E hr h=>?_)
 ·obtain⟨b,p,l1,l2,l3,l4,T,rfl,_⟩:=h;rfl
 ·obtain⟨b,p,l1,l2,l3,l4,T,rfl,tb,ok,k⟩:=h;refine⟨_,(Zi (Zo (VG hM FM hr rfl M.mg bM .nil WG (Za (il K (pv 0) Zc) (Za (Yh Jp rfl (B _ (by decide +kernel)) Jr (Za (il K (pv 0) Zc) Zb)) (Za (Yh Y5 rfl (B _ (by decide +kernel)) YF (Za (il K (pv 0) Zc) Zb)) (Za (Yh Jp rfl (B _ (by decide +kernel)) Jr (Za (il K (pv 0) Zc) Zb)) (Za (Yh Y5 rfl (B _ (by decide +kernel)) YF (Za (il K (pv 0) Zc) Zb)) Zb)))))))),?_⟩;obtain⟨x1,_,h1,_,r1⟩:=tb.pl.part (ok.flat (.inl rfl));obtain⟨x2,_,h2,_,r2⟩:=tb.rd.part (ok.flat (.inr (.inl rfl)));obtain⟨x3,_,h3,_,r3⟩:=tb.wy.part (ok.flat (.inr (.inr (.inl rfl))));obtain⟨x4,_,h4,_,r4⟩:=tb.gr.part (ok.flat (.inr (.inr (.inr rfl))));refine⟨_,rfl,p,_,0,_,rfl,rfl,SqL.of tb.at_,Zn (j:=0) rfl,_,rfl,p,_,1,_,rfl,rfl,SqL.of tb.at_,Zn (j:=1) rfl,l1,x1,rfl,.inl (SqL.of h1),λc1 hc1=>?_⟩;have S1:Same H (upd H c1 (.lst x1)):=sameNew (Same.refl _) hc1;have e1:upd H c1 (.lst x1) c1=some (.lst x1):=Ze;generalize upd H c1 (.lst x1)=H1 at S1 e1 ⊢;refine⟨_,rfl,p,_,2,_,rfl,rfl,SqL.of (S1 _ _ tb.at_),Zn (j:=2) rfl,l2,x2,rfl,.inl ⟨SqL.of (S1 _ _ h2),λc2 hc2=>?_⟩⟩;have S2:Same H1 (upd H1 c2 (.tup x2)):=sameNew (Same.refl _) hc2;have e2:upd H1 c2 (.tup x2) c2=some (.tup x2):=Ze;generalize upd H1 c2 (.tup x2)=H2 at S2 e2 ⊢;have S02:=S1.trans S2;refine⟨_,rfl,p,_,3,_,rfl,rfl,SqL.of (S02 _ _ tb.at_),Zn (j:=3) rfl,l3,x3,rfl,.inl (SqL.of (S02 _ _ h3)),λc3 hc3=>?_⟩;have S3:Same H2 (upd H2 c3 (.lst x3)):=sameNew (Same.refl _) hc3;have e3:upd H2 c3 (.lst x3) c3=some (.lst x3):=Ze;generalize upd H2 c3 (.lst x3)=H3 at S3 e3 ⊢;have S03:=S02.trans S3;refine⟨_,rfl,p,_,4,_,rfl,rfl,SqL.of (S03 _ _ tb.at_),Zn (j:=4) rfl,l4,x4,rfl,.inl ⟨SqL.of (S03 _ _ h4),λc4 hc4=>?_⟩⟩;have S4:Same H3 (upd H3 c4 (.tup x4)):=sameNew (Same.refl _) hc4;have e4:upd H3 c4 (.tup x4) c4=some (.tup x4):=Ze;generalize upd H3 c4 (.tup x4)=H4 at S4 e4 ⊢;have S04:=S03.trans S4;have q1:YT H4 (.ref c1) (prs x1 T.t1):=⟨⟨c1,rfl,.inl (S4 _ _ (S3 _ _ (S2 _ _ e1)))⟩,r1.same S04⟩;have q2:YT H4 (.ref c2) (prs x2 T.t2):=⟨⟨c2,rfl,.inr (S4 _ _ (S3 _ _ e2))⟩,r2.same S04⟩;have q3:YT H4 (.ref c3) (prs x3 T.t3):=⟨⟨c3,rfl,.inl (S4 _ _ e3)⟩,r3.same S04⟩;have q4:YT H4 (.ref c4) (prs x4 T.t4):=⟨⟨c4,rfl,.inr e4⟩,r4.same S04⟩;exact WN (.int T.n) q1 q2 q3 q4 (WQ ok (r1.same S04) (r2.same S04) (r3.same S04) (r4.same S04) λH' x s _ tl=>k H' x (S04.trans s) tl)
end
end WD
namespace L2
open PySem PySem.Spec PyProof.Rows
theorem JI{X:Cx}{K:PySem.W.Frag}(hK:X.K=K):YK X (.type "tuple") (λxs H Q=>∃p ys,xs=[.ref p]/\((SqL K H p ys/\∀l,H l=none->Q (.ref l) (upd H l (.tup ys)))\/(SqT K H p ys/\Q (.ref p) H))):=by subst hK;exact Y5
end L2
namespace SX
open PySem L2 PySem.Spec PyProof.Rows TB WD
def Pe(K:PySem.W.Frag):Sp:=λvs H Q _=>∃(a:Addr)(ns:List Int),vs=[.ref a]/\SqL K H a (ns.map V.int)/\ns.length<=63/\∀H',Q (.bl true) H'
theorem W8(ns:List Int)(lo hi:Option Int):∀v∈cutV (ns.map V.int) lo hi,∃c,v=.int c:=by intro v hv;unfold cutV at hv;have h1:=List.mem_of_mem_drop (List.mem_of_mem_take hv);obtain⟨c,_,e⟩:=List.mem_map.mp h1;exact⟨c,e.symm⟩
mutual
noncomputable def noL:PyData->Bool
|.list _=>false
|.dict _=>false
|.tuple ds=>noLs ds
|_=>true
noncomputable def noLs:List PyData->Bool
|[]=>true
|d::ds=>noL d&&noLs ds
end
mutual
theorem WY{b:Addr}{H H':Hp}(hb:Zz H b)(s:Zh b H H'):∀{v:V}{d:PyData},Is H v d->noL d=true->Is H' v d
|_,_,.non,_=>.non
|_,_,.bl b,_=>.bl b
|_,_,.int i,_=>.int i
|_,_,.str z,_=>.str z
|_,_,.lst e r,h=>by simp[noL]at h
|_,_,.tup e r,h=>.tup (s _ _ e (hb.tup e)) (MV hb s r (by simpa[noL]using h))
theorem MV{b:Addr}{H H':Hp}(hb:Zz H b)(s:Zh b H H'):∀{v:List V}{d:List PyData},IsAll H v d->noLs d=true->IsAll H' v d
|_,_,.nil,_=>.nil
|_,_,.cons x r,h=>by have h':=h;simp only[noLs,Bool.and_eq_true]at h';exact .cons (WY hb s x h'.1) (MV hb s r h'.2)
end
theorem TV{T:Tb}(o:OkTb T){xs:List V}{j:Nat}{S:Sx}(h:ZU T xs j S):noL (J1 S)=true:=by
 rcases h with⟨y,hy,i,_,_,_,_,rfl⟩|⟨y,hy,_,_,rfl⟩|⟨y,hy,i,_,_,_,_,rfl⟩|⟨y,hy,i,_,_,_,_,_,rfl⟩
 ·rfl
 ·rfl
 ·rfl
 ·obtain⟨⟨z,r⟩,rfl,_⟩:=Jh o hy;cases r<;>rfl
theorem Dc.box{b p:Addr}{H H':Hp}{T:Tb}(o:OkTb T)(hb:Zz H b)(s:Zh b H H')(h:Dc H p (allS T)):Dc H' p (allS T):=by
 obtain⟨kvs,e,l,h1,h2⟩:=h;have np:p≠b:=by obtain⟨x,y,z,eb⟩:=hb;exact ne_of e eb (by intro z;cases z)
 refine⟨kvs,s _ _ e np,l,λk v hk=>?_,h2⟩;obtain⟨S,hS,ek,i⟩:=h1 k v hk;obtain⟨j,hs⟩:=Uu o hS;exact⟨S,hS,ek,WY hb s i (TV o hs)⟩
theorem PB{n:Int}(h:n.natAbs<=20000):n.natAbs.log2<9000:=by
 by_cases e:n.natAbs=0
 ·rw[e];decide
 ·exact Nat.lt_of_lt_of_le ((Nat.log2_lt e).mpr (show n.natAbs<2 ^ 20 by omega)) (by decide)
theorem WW{b:Addr}{H H':Hp}{T:Tb}{x:V}(h:Bx b H x)(s:Same H H')(q:Uv T H' x):Uv T H x:=by
 obtain⟨a,xs,j,S,rfl,ha,hs⟩:=q;rcases h with(h|⟨i,h,_⟩|⟨z,h,_⟩)|h|⟨a',xs',h,_,h',_⟩|⟨a',xs',h,_,h',_⟩|⟨a',ks,h,_,h',_⟩<;>cases h
 ·rw[s _ _ h']at ha;cases ha
 ·rw[s _ _ h']at ha;cases ha;exact⟨a,_,j,S,rfl,h',hs⟩
 ·rw[s _ _ h']at ha;cases ha
def KeyX(T:Tb)(H:Hp)(x:V):Prop:=∃a xs j S,x=.ref a/\H a=some (.tup xs)/\ZU T xs j S
theorem KeyX.box{b:Addr}{H H':Hp}{T:Tb}{x:V}(hb:Zz H b)(s:Zh b H H')(h:KeyX T H x):KeyX T H' x:=by obtain⟨a,xs,j,S,e,h,hs⟩:=h;exact⟨a,xs,j,S,e,s _ _ h (hb.tup h),hs⟩
theorem KeyX.same{H H':Hp}{T:Tb}{x:V}(s:Same H H')(h:KeyX T H x):KeyX T H' x:=by obtain⟨a,xs,j,S,e,h,hs⟩:=h;exact⟨a,xs,j,S,e,s _ _ h,hs⟩
theorem Kx{kvs:List (List Key×V)}{kv:List Key×V}(h:kv∈kvs):∃v,valV kvs kv.1=some v:=by
 induction kvs with
|nil=>cases h
|cons p r ih=>
  by_cases e:p.1=kv.1
  ·exact⟨p.2,Yw e⟩
  ·rcases List.mem_cons.mp h with rfl|h
   ·exact absurd rfl e
   ·obtain⟨v,hv⟩:=ih h;exact⟨v,by rw[Yx e];exact hv⟩
theorem WU{H:Hp}{p:Addr}{T:Tb}(o:OkTb T){kvs:List (List Key×V)}{bs:List Addr}(h1:∀k v,valV kvs k=some v->∃S∈allS T,S.key=k/\Is H v (J1 S))(hl:bs.length=kvs.length)(hb:∀(i:Nat)b kv,bs[i]?=some b->kvs[i]?=some kv->H b=some (.tup (kv.1.map kV))):∀x∈bs.map V.ref,KeyX T H x:=λx hx=>by
 obtain⟨a,ha,rfl⟩:=List.mem_map.mp hx;obtain⟨i,hi⟩:=List.mem_iff_getElem?.mp ha;have hlt:i<kvs.length:=by rw[<-hl];exact(List.getElem?_eq_some_iff.mp hi).1
 have hk:kvs[i]?=some kvs[i]:=List.getElem?_eq_getElem hlt;obtain⟨v,hv⟩:=Kx (List.getElem_mem hlt);obtain⟨S,hS,e,_⟩:=h1 _ v hv;obtain⟨j,hs⟩:=Uu o hS;exact⟨a,_,j,S,rfl,hb i a _ hi hk,by rw[<-e];exact hs⟩
structure Two(T:Tb):Prop where
 one:∃y∈T.t1,at_ y 1≠.non
 home:∃y∈T.t1,at_ y 1=.non
theorem LW{W:Wd}{bs:List Str}(g:GoodW W bs):Two (tbOf W):=by
 obtain⟨p,hp,i,e⟩:=g.pl.one;obtain⟨q,hq,e'⟩:=g.pl.home;refine⟨⟨ZV p,List.mem_map.mpr ⟨p,hp,rfl⟩,?_⟩,⟨ZV q,List.mem_map.mpr ⟨q,hq,rfl⟩,?_⟩⟩
 ·obtain⟨z,r⟩:=p;cases e;intro h;cases h
 ·obtain⟨z,r⟩:=q;cases e';rfl
theorem Sv{T:Tb}(o:OkTb T)(t:Two T):∃S,S∈allS T:=by obtain⟨y,hy,h⟩:=t.one;have:=o.n0;exact⟨_,GL o (.inr (.inr (.inr ⟨y,hy,0,rfl,h,by decide,by omega,rfl,rfl⟩)):ZU T _ 3 _)⟩
section
variable {P:Program}{w:World}{K:PySem.W.Frag}{mg:Str->Option Value}{base:Heap}{C:Addr}{Cs:Nat->Addr}
theorem Xi:FnScope ["_law_script","_law_cell_here","_law_box_here","_law_world_here","_law_table_here","_law_steps_here","_law_keys","_law_some","_law_key","_law_bad"] ["_law_script"] (Zf T.f_law):=scO (by decide +kernel)
noncomputable def Ml:Scope:={kind:=.function,names:=[(Str.ofString ".0",.local),(Str.ofString "_law_k",.local),(Str.ofString "_law_take",.globalImplicit),(Str.ofString "len",.globalImplicit),(Str.ofString "_law_box_here",.free),(Str.ofString "_law_keys",.free)],isGenerator:=false,isCoroutine:=false,more:=[]}
theorem P6:CompScope Ml (Zf T.f_law):=⟨rfl,by decide +kernel,by decide +kernel,by decide +kernel⟩
theorem P8:(["_law_k","_law_box_here","_law_keys"]:List Str).Nodup:=by decide +kernel
theorem P7:CompNames ["_law_script","_law_cell_here","_law_box_here","_law_world_here","_law_table_here","_law_steps_here","_law_keys","_law_some","_law_key","_law_bad"] Ml ["_law_k","_law_box_here","_law_keys"] [none,some 2,some 6]:=.mk' (by decide +kernel)
noncomputable def Mj:Scope:={kind:=.function,names:=[(Str.ofString ".0",.local),(Str.ofString "_law_row",.local)],isGenerator:=false,isCoroutine:=false,more:=[]}
theorem P2:CompScope Mj (Zf T.f_law):=⟨rfl,by decide +kernel,by decide +kernel,by decide +kernel⟩
theorem P5:(["_law_row"]:List Str).Nodup:=by decide +kernel
theorem P4:CompNames ["_law_script","_law_cell_here","_law_box_here","_law_world_here","_law_table_here","_law_steps_here","_law_keys","_law_some","_law_key","_law_bad"] Mj ["_law_row"] [none]:=.mk' (by decide +kernel)
noncomputable def Mi:Scope:={kind:=.function,names:=[(Str.ofString ".0",.local),(Str.ofString "_law_part",.local),(Str.ofString "tuple",.globalImplicit)],isGenerator:=false,isCoroutine:=false,more:=[]}
theorem PZ:CompScope Mi (Zf T.f_law):=⟨rfl,by decide +kernel,by decide +kernel,by decide +kernel⟩
theorem P1:(["_law_part"]:List Str).Nodup:=by decide +kernel
theorem P0:CompNames ["_law_script","_law_cell_here","_law_box_here","_law_world_here","_law_table_here","_law_steps_here","_law_keys","_law_some","_law_key","_law_bad"] Mi ["_law_part"] [none]:=.mk' (by decide +kernel)
theorem DA{f:Addr}{fd:FuncData}(B:∀x∈Blts,mg x=none)(Z:TCl K C)(CB:Can P w K mg base 1 "_law_box" ["_law_cell_here"] Lz)(CK:Can P w K mg base 1 "_law_take" ["_law_box_here","_law_many"] Xg)(CW:Can P w K mg base 4 "_law_world" ["_law_box_here"] Rt)(CA:Can P w K mg base 9 "_law_table" ["_law_world_here"] (Pf C))(CS:Can P w K mg base 1 "_law_steps" ["_law_world_here"] Pg)(CR:Can P w K mg base 7 "_law_right" ["_law_table_here","_law_steps_here","_law_key"] (RA C Cs))(CY:Can P w K mg base 2 "_law_bad_key" ["_law_box_here","_law_world_here","_law_key"] LA)(CI:Can P w K mg base 1 "_law_is_key" ["_law_steps_here","_law_thing"] RC)(CF:Can P w K mg base 7 "_law_refused" ["_law_table_here","_law_thing"] (MP K C))(CM:CanM P w K mg base CX0 1 C "told" ["self"] (T8 C))(F:Fun K "law" "law" T.f_law f fd):FnOk P w K mg base CX0 10 f fd ["_law_script"] (Pe K):=by
 refine F.ok Xi (λvs H Q E h=>?_) (λcdv A outer s H vs Q E hr h=>?_)
 ·obtain⟨a,ns,rfl,_⟩:=h;rfl
 ·obtain⟨a,ns,rfl,hS,hlen,k⟩:=h;refine' ⟨_,(@Zd _ _ _ _ _ ?h26 (@Zi _ _ _ ?h27)),?rd⟩;case' h27=>refine' (Zo J5)
  case' h26=>refine' (YO PassesOwn.never rfl (Yo (Zx UP (ZY (r:=rSlL K) Vu (pv 0) Yg (Ye Zc)) ?h1)) (Zp (i:=1) Xi.nd rfl (Or.inl rfl)) (@Zd _ _ _ _ _ ?h17 (@Zd _ _ _ _ _ ?h18 (@Zd _ _ _ _ _ ?h19 (@Zd _ _ _ _ _ ?h20 (@Zd _ _ _ _ _ ?h21 (@Zd _ _ _ _ _ ?h22 (@Zd _ _ _ _ _ ?h23 (@Zd _ _ _ _ _ ?h24 (@Zi _ _ _ ?h25))))))))))
  case' h25=>refine' (@ZH _ _ _ _ _ _ _ _ (@ZF _ _ _ _ _ _ _ _ RM (ZC (Y1 hr) rfl (B _ (by decide +kernel)) PyProof.Rows.boot_repr (@Za _ _ _ _ _ (XZ CM Z.cl Z1 (hr.mono (by decide)) (pv 4)) Zb (by rfl))) (ZC (Y1 hr) rfl (B _ (by decide +kernel)) PyProof.Rows.boot_repr (@Za _ _ _ _ _ (Zx YR ?h15 (Yh (JI (K:=K) rfl) rfl (B _ (by decide +kernel)) YF (@Za _ _ _ _ _ (YG (scope:=Mi) (N:=["_law_part"]) (cp:=[none]) rfl PZ P0 (Yo (ZY (r:=rSlL K) Vu (pv 3) (Ye Zc) Yg)) (λC s H ex pn=>(Zp (i:=0) P1 rfl (Or.inl rfl))) (λC s H ex pn=>Ys) (λC s H ex pn=>(Yh (JI (K:=K) rfl) rfl (B _ (by decide +kernel)) YF (Za (pv 0) Zb)))) Zb (by rfl)))) Zb (by rfl))) (ZE _)) (@Zi _ _ _ ?h16) Zv)
  case' h24=>refine' (YO PassesOwn.never rfl (Yo (pv 7)) (Zp (i:=8) Xi.nd rfl (Or.inl rfl)) (@Zd _ _ _ _ _ ?h10 (@Zd _ _ _ _ _ ?h11 (@Zd _ _ _ _ _ ?h12 (@Zi _ _ _ ?h13)))))
  case' h23=>refine' (@st _ _ _ _ 7 _ _ Xi.nd (Zx UP (pv 7) (YG (scope:=Mj) (N:=["_law_row"]) (cp:=[none]) rfl P2 P4 (Yo ?h6) (λC s H ex pn=>(Zp (i:=0) P5 rfl (Or.inl rfl))) (λC s H ex pn=>Ys) (λC s H ex pn=>(Zy (Za Zr (Za (it K (pv 0) Zc) Zb)))))) (by rfl) (by exact Or.inl rfl) (by rfl) (by exact .inl rfl))
  case' h22=>refine' (@st _ _ _ _ 7 _ _ Xi.nd (Zx UP ?h5 (YG (scope:=Ml) (N:=["_law_k","_law_box_here","_law_keys"]) (cp:=[none,some 2,some 6]) rfl P6 P7 (Yy rfl (B _ (by decide +kernel)) (@Za _ _ _ _ _ Zc Zb (by rfl))) (λC s H ex pn=>(Zp (i:=0) P8 rfl (Or.inl rfl))) (λC s H ex pn=>Ys) (λC s H ex pn=>(il K (pv 2) (cn CK hr (Za (pv 1) (Za (ZC (r:=rLen K) Y2 rfl (B _ (by decide +kernel)) PySem.boot_len (Za (pv 2) Zb)) Zb))))))) (by rfl) (by exact Or.inl rfl) (by rfl) (by exact .inl rfl))
  case' h21=>refine' (Yl (i:=6) Xi.nd rfl (Or.inr rfl) (Yh (NW rfl) rfl (B _ (by decide +kernel)) Jr (@Za _ _ _ _ _ (pv 5) Zb (by rfl))))
  case' h20=>refine' (@st _ _ _ _ 5 _ _ Xi.nd (cn CS hr (@Za _ _ _ _ _ (pv 3) Zb (by rfl))) (by rfl) (by exact Or.inl rfl) (by rfl) (by exact .inl rfl))
  case' h19=>refine' (@st _ _ _ _ 4 _ _ Xi.nd (cn CA hr (@Za _ _ _ _ _ (pv 3) Zb (by rfl))) (by rfl) (by exact Or.inl rfl) (by rfl) (by exact .inl rfl))
  case' h18=>refine' (@st _ _ _ _ 3 _ _ Xi.nd ?h2 (by rfl) (by exact Or.inl rfl) (by rfl) (by exact .inl rfl))
  case' h17=>refine' (Yl (i:=2) Xi.nd rfl (Or.inr rfl) (cn CB hr (@Za _ _ _ _ _ (pv 1) Zb (by rfl))))
  case' h16=>refine' (Zo J5)
  case' h15=>refine' (@Zy _ _ _ _ _ (@Za _ _ _ _ _ ?h14 Zb (by rfl)))
  case' h14=>refine' (@il _ _ _ _ _ _ K (pv 3) Zc (by rfl) (by exact λ_ _=>rfl))
  case' h13=>refine' (@ZH _ _ _ _ _ _ _ _ (PW.pt (UJ (ZD (cn CI hr (@Za _ _ _ _ _ (pv 5) (@Za _ _ _ _ _ (pv 9) Zb (by rfl)) (by rfl)))) (VB (ZQ (ZD (cn CR hr (@Za _ _ _ _ _ (pv 4) (@Za _ _ _ _ _ (pv 5) (@Za _ _ _ _ _ (pv 9) Zb (by rfl)) (by rfl)) (by rfl)))))))) (@Zi _ _ _ ?h9) Zv)
  case' h12=>refine' (Ws (@ZH _ _ _ _ _ _ _ _ (PW.pt (UJ (ZQ (ZD (cn CI hr (@Za _ _ _ _ _ (pv 5) (@Za _ _ _ _ _ (pv 9) Zb (by rfl)) (by rfl))))) (VB (ZQ (ZD (cn CF hr (@Za _ _ _ _ _ (pv 4) (@Za _ _ _ _ _ (pv 9) Zb (by rfl)) (by rfl)))))))) (@Zi _ _ _ ?h8) Zv))
  case' h11=>refine' (@st _ _ _ _ 9 _ _ Xi.nd (cn CY hr (@Za _ _ _ _ _ (pv 2) (@Za _ _ _ _ _ (pv 3) (@Za _ _ _ _ _ (pv 8) Zb (by rfl)) (by rfl)) (by rfl))) (by rfl) (by exact Or.inl rfl) (by rfl) (by exact .inl rfl))
  case' h10=>refine' (@ZH _ _ _ _ _ _ _ _ (ZQ (ZD (cn CR hr (@Za _ _ _ _ _ (pv 4) (@Za _ _ _ _ _ (pv 5) (@Za _ _ _ _ _ (pv 8) Zb (by rfl)) (by rfl)) (by rfl))))) (@Zi _ _ _ ?h7) Zv)
  case' h9=>refine' (Zo J5)
  case' h8=>refine' (Zo J5)
  case' h7=>refine' (Zo J5)
  case' h6=>refine' (@il _ _ _ _ _ _ K (pv 3) Zc (by rfl) (by exact λ_ _=>rfl))
  case' h5=>refine' (@Z2 _ _ _ _ (@Za _ _ _ _ _ ?h4 (@Za _ _ _ _ _ ?h3 Zb (by rfl)) (by rfl)))
  case' h4=>refine' (@il _ _ _ _ _ _ K (pv 6) Zc (by rfl) (by exact λ_ _=>rfl))
  case' h3=>refine' (@il _ _ _ _ _ _ K (pv 6) (VF Jd Zc) (by rfl) (by exact λ_ _=>rfl))
  case' h2=>refine' (@il _ _ _ _ _ _ K (cn CW hr (@Za _ _ _ _ _ (pv 2) Zb (by rfl))) Zc (by rfl) (by exact λ_ _=>rfl))
  case' h1=>refine' (@Z2 _ _ _ _ (@Za _ _ _ _ _ Zc Zb (by rfl)))
  refine⟨_,rfl,_,rfl,a,_,rfl,hS,λp1 e1=>?_⟩;refine⟨by show 1<=sizeLine;decide,λp2 e2=>?_⟩;have n12:p1≠p2:=Zk (Ze (H:=H) (a:=p1)) e2;have hcl:(cutV (ns.map V.int) none (some 8)).length+1<=sizeLine:=by
   have h1:=XI (ns.map V.int) none (some 8);rw[List.length_map]at h1;have:(100:Nat)<=sizeLine:=by decide
   omega
  refine⟨p1,p2,_,_,rfl,rfl,(by rw[Zj n12,Ze]),Ze,hcl,λp3 e3=>⟨p3,rfl,⟨_,SqL.of Ze⟩,?_⟩⟩;have hxs:∀v∈cutV (ns.map V.int) none (some 8)++[V.int 12],∃c,v=.int c:=λv hv=>by
   rcases List.mem_append.mp hv with hv|hv
   ·exact W8 ns _ _ v hv
   ·rw[List.mem_singleton]at hv;exact⟨_,hv⟩
  have L0:upd (upd (upd H p1 (.lst (cutV (ns.map V.int) none (some 8)))) p2 (.lst [V.int 12])) p3 (.lst (cutV (ns.map V.int) none (some 8)++[V.int 12])) p3=some (.lst (cutV (ns.map V.int) none (some 8)++[V.int 12])):=Ze;generalize upd (upd (upd H p1 (.lst (cutV (ns.map V.int) none (some 8)))) p2 (.lst [V.int 12])) p3 (.lst (cutV (ns.map V.int) none (some 8)++[V.int 12]))=H0 at L0;generalize cutV (ns.map V.int) none (some 8)++[V.int 12]=xs at L0 hxs;refine PL (K:=K) (a:=p3) (xs:=xs) (λi σ H1=>H1 p3=some (.lst xs)/\∃o1 o2 o3 o4 o5 o6 o7 o8 o9:Option V,σ=[some (.ref a),o1,o2,o3,o4,o5,o6,o7,o8,o9]) ⟨L0,_,_,_,_,_,_,_,_,_,rfl⟩ (λi σ H1 _ p=>SqL.of p.1) (λi v σ H1 hi p=>?_) (λσ H1 p=>k _);obtain⟨L1,o1,o2,o3,o4,o5,o6,o7,o8,o9,rfl⟩:=p;obtain⟨cl,rfl⟩:=hxs v (List.mem_of_getElem? hi);refine⟨_,rfl,cl,rfl,λb H2 hb bx sm2=>?_⟩;refine⟨_,rfl,b,rfl,bx,λH3 q pw sd l1 l2 l3 l4 W bs s0 s1 s2 s3 bx3 sm3 nq hq nst hst wa gw sg=>⟨q,_,0,_,rfl,rfl,SqL.of hq,Zn (j:=0) rfl,?_⟩⟩;have np3:p3≠b:=λz=>by subst z;rw[L1]at hb;cases hb
  have L3:H3 p3=some (.lst xs):=sm3 _ _ (sm2 _ _ L1) np3;have ok:=(drawn gw sg).ok;have tb:=wa.tb;have two:=LW gw;generalize tbOf W=T at ok tb two;clear hb sm2 sm3 hq L1 L0 wa gw sg hst bx nst nq;refine⟨_,rfl,b,pw,l1,l2,l3,l4,T,rfl,tb,ok,λH4 t S4 tel=>?_⟩;refine⟨_,rfl,b,pw,l1,l2,l3,l4,T,rfl,tb.same (Zh.of S4),ok,λH5 d S5 hd dc=>?_⟩;have S35:=S4.trans S5;have bx5:=bx3.same S35;have tb5:=tb.same (Zh.of S35);have L5:=S35 _ _ L3;have tel5:=tel.same S5;clear S4 S5 S35 bx3 tb L3 tel hd;obtain⟨kvs,ed,lk,h1,h2⟩:=id dc;obtain⟨z1,z2,z3,z4⟩:=RJ ok;have la:(allS T).length<=20000:=by unfold allS;simp only[List.length_append];omega
  refine⟨_,rfl,d,kvs,rfl,ed,λkl ks hkl hlk hkb=>?_⟩;have kk:=WU (p:=d) ok h1 hlk hkb;have kpos:0<ks.length:=by
   obtain⟨S,hS⟩:=Sv ok two;obtain⟨v,hv⟩:=Option.isSome_iff_exists.mp (h2 S hS);rw[hlk];cases kvs with
  |nil=>cases hv
  |cons p r=>exact Nat.succ_pos _
  have klen:ks.length<=20000:=by omega
  have bx6:=bx5.new (o:=.lst (ks.map V.ref)) hkl;have nkl:=bx5.ne hkl;have S6:=sameNew (o:=.lst (ks.map V.ref)) (Same.refl H5) hkl;have e6:upd H5 kl (.lst (ks.map V.ref)) kl=some (.lst (ks.map V.ref)):=Ze;generalize upd H5 kl (.lst (ks.map V.ref))=H6 at bx6 S6 e6 ⊢;have kk6:∀x∈ks.map V.ref,KeyX T H6 x:=λx hx=>(kk x hx).same S6;have tb6:=tb5.same (Zh.of S6);have L6:=S6 _ _ L5;have tel6:=tel5.same S6;have dc6:=dc.same S6;clear S6 bx5 tb5 L5 tel5 dc kk hkl hkb ed h1 h2 lk;have mlen:(ks.map V.ref).length=ks.length:=List.length_map ..;obtain⟨k0,hk0,mk0⟩:=NY (xs:=ks.map V.ref) (r:=0) (by decide) (by rw[mlen];omega);have hkl1:∃x,atI (ks.map V.ref) (-1)=some x/\x∈ks.map V.ref:=by
   have hlt:ks.length-1<(ks.map V.ref).length:=by rw[mlen];omega
   refine⟨(ks.map V.ref)[ks.length-1],?_,List.getElem_mem hlt⟩;unfold atI ixN;rw[if_neg (by decide),if_pos (by rw[mlen];omega)];show(ks.map V.ref)[((-1:Int)+(((ks.map V.ref).length:Nat):Int)).toNat]?=_;rw[show((-1:Int)+(((ks.map V.ref).length:Nat):Int)).toNat=ks.length-1 by rw[mlen];omega];exact List.getElem?_eq_getElem hlt
  obtain⟨k1,hk1,mk1⟩:=hkl1;refine⟨_,rfl,kl,_,0,_,rfl,rfl,SqL.of e6,hk0,_,rfl,_,rfl,kl,_,_,_,rfl,rfl,SqL.of e6,hk1,zl,λc7 hc7=>?_⟩;try dsimp only[tNil]
  refine al2 bx6 hc7 λH7 bx7 S7 e7 n7=>?_;have kk7:∀x∈ks.map V.ref,KeyX T H7 x:=λx hx=>(kk6 x hx).box bx6 S7;have e67:=S7 _ _ e6 nkl;refine⟨10,rfl,by decide,by decide,?_⟩;refine Yd (J:=Itr 0 10) 10 (by decide) (λi ys τ H'=>Zz H' b/\Zh b H7 H'/\ys.length<=i/\(∀y∈ys,y∈ks.map V.ref)/\∃v1,τ=[v1,some (.ref b),some (.ref kl)]) ⟨bx7,Zh.refl b H7,Nat.le_refl _,(λy hy=>by cases hy),none,rfl⟩ (λi ys τ H' p=>p.2.2.1) (λi ys τ H' hi p=>hi) (λys τ H' p=>Nat.le_refl _) (λi ys τ H' x H8 hi p yl=>?_) (λys τ H8 p c8 hc8=>?_)
  ·obtain⟨B8,S8,ly,hy,v1,rfl⟩:=p;obtain⟨rfl,rfl⟩:=yl;have e8:=S8 _ _ e67 nkl;refine⟨_,rfl,_,rfl,_,rfl,kl,_,rfl,.inl (SqL.of e8),b,_,rfl,B8,by rw[mlen];omega,PB (by rw[mlen];omega),λr H9 r0 r1 B9 S9=>?_⟩;obtain⟨x,hx,mx⟩:=NY (xs:=ks.map V.ref) r0 r1;refine⟨kl,_,r,x,rfl,rfl,SqL.of (S9 _ _ e8 nkl),hx,B9,S8.trans S9,by rw[List.length_append];exact Nat.succ_le_succ ly,λy h=>?_,_,rfl⟩;rcases List.mem_append.mp h with h|h
   ·exact hy y h
   ·rw[List.mem_singleton]at h;rw[h];exact mx
  obtain⟨B8,S8,ly,hy,v1,rfl⟩:=p;refine al2 B8 hc8 λH9 bx9 S9 e9 n9=>?_;have S79:=S8.trans S9;have e79:=S79 _ _ e7 n7;refine⟨c7,c8,_,_,rfl,rfl,e79,e9,Nat.le_trans (show 2+ys.length<=1000 by omega) (by decide),λc10 hc10=>?_⟩;refine al2 bx9 hc10 λH10 bx10 S10 e10 n10=>?_;have S710:=S79.trans S10;have kk10:∀x∈[k0,k1]++ys,KeyX T H10 x:=λx hx=>by
   refine KeyX.box bx7 S710 (kk7 x ?_);rcases List.mem_append.mp hx with h|h
   ·simp only[List.mem_cons,List.not_mem_nil,or_false]at h;rcases h with rfl|rfl
    ·exact mk0
    ·exact mk1
   ·exact hy x h
  have l10:([k0,k1]++ys).length<=12:=by rw[List.length_append];show 2+ys.length<=12;omega
  generalize [k0,k1]++ys=ws at kk10 l10 e10;have S610:=S7.trans S710;have tb10:=tb6.same S610;have L10:=S610 _ _ L6 np3;have tel10:=Tel.box bx6 ok S610 tel6;have dc10:=dc6.box ok bx6 S610;clear S610 S710 S79 S10 S9 S8 S7 kk7 kk6 e67 e6 e7 e9 e79 bx6 bx7 bx9 B8 tb6 L6 tel6 dc6 hk0 hk1 mk0 mk1 hy ly;have rd:=tb10.rd;obtain⟨m1,m2,m3,m4⟩:=VJ ok;refine⟨_,rfl,_,rfl,pw,_,2,_,rfl,rfl,SqL.of tb10.at_,Zn (j:=2) rfl,l2,rfl,⟨_,SqL.of rd.2.choose_spec.1⟩,?_⟩;refine Yd (J:=Itl K l2) T.t2.length (Nat.le_trans m2 (by decide)) (λi ys τ H'=>Same H10 H'/\ys.length<=i/\(∀y∈ys,KeyX T H' y)/\∃v1,τ=[v1]) ⟨Same.refl _,Nat.le_refl _,(λy hy=>by cases hy),none,rfl⟩ (λi ys τ H' p=>p.2.1) (λi ys τ H' hi p=>(rd.same (Zh.of p.1)).go hi) (λys τ H' p=>(rd.same (Zh.of p.1)).stop) (λi ys τ H' x H8 hi p yl=>?_) (λys τ H8 p c8 hc8=>?_)
  ·obtain⟨S8,ly,hy,v1,rfl⟩:=p;have e0:T.t2[i]?=some T.t2[i]:=List.getElem?_eq_getElem hi;obtain⟨rfl,a',rfl,na,ha⟩:=(rd.same (Zh.of S8)).item e0 yl;have hm:T.t2[i]∈T.t2:=List.getElem_mem hi;generalize T.t2[i]=y at ha hm;obtain⟨a1,b1,d1,c1,e1',f1,rfl,_⟩:=NF ok hm;refine⟨_,rfl,a',_,0,_,rfl,rfl,SqT.of ha,Zn (j:=0) rfl,zl,λct hct=>?_⟩;have S9:=sameNew (o:=.tup [.str "ride",.str a1]) (Same.refl H8) hct;have e9:upd H8 ct (.tup [.str "ride",.str a1]) ct=some (.tup [.str "ride",.str a1]):=Ze;refine⟨S8.trans S9,by rw[List.length_append];exact Nat.succ_le_succ ly,λz h=>?_,_,rfl⟩;rcases List.mem_append.mp h with h|h
   ·exact(hy z h).same S9
   ·rw[List.mem_singleton]at h;exact⟨ct,_,1,_,h,e9,.inr (.inl ⟨_,hm,rfl,rfl,rfl⟩)⟩
  obtain⟨S8,ly,hy,v1',rfl⟩:=p;have bx8:=bx10.same S8;refine al2 bx8 hc8 λH9 bx9 S9 e9 n9=>?_;have S109:=(Zh.of (b:=b) S8).trans S9;refine⟨c10,c8,_,_,rfl,rfl,S109 _ _ e10 n10,e9,Nat.le_trans (show ws.length+ys.length<=1000 by omega) (by decide),λc11 hc11=>?_⟩;refine al2 bx9 hc11 λH11 bx11 S11 e11 n11=>?_;have S1011:=S109.trans S11;have kk11:∀x∈ws++ys,KeyX T H11 x:=λx hx=>by
   rcases List.mem_append.mp hx with h|h
   ·exact(kk10 x h).box bx10 S1011
   ·exact(hy x h).box bx8 (S9.trans S11)
  have l11:(ws++ys).length<=1000:=by rw[List.length_append];omega
  generalize ws++ys=zs at kk11 l11 e11;have tb11:=tb10.same S1011;have L11:=S1011 _ _ L10 np3;have tel11:=Tel.box bx10 ok S1011 tel10;have dc11:=dc10.box ok bx10 S1011;clear S1011 S109 S11 S9 S8 bx8 bx9 bx10 tb10 L10 tel10 dc10 kk10 hy ly e10 e9 rd;refine⟨_,rfl,c11,rfl,⟨_,SqL.of e11⟩,?_⟩;refine PL (K:=K) (a:=c11) (xs:=zs) (λi σ H'=>Zz H' b/\Zh b H11 H'/\∃o8 o9:Option V,σ=[some (.ref a),some (.int cl),some (.ref b),some (.ref pw),some (.ref t),some (.ref d),some (.ref kl),some (.ref c11),o8,o9]) ⟨bx11,Zh.refl b _,_,_,rfl⟩ (λi σ H' _ p=>SqL.of (p.2.1 _ _ e11 n11)) (λi v σ H' hi p=>?_) (λσ H12 p=>?_)
  ·obtain⟨B12,S12,o8',o9',rfl⟩:=p;obtain⟨ak,xk,j,S,rfl,hak,hs⟩:=(kk11 v (List.mem_of_getElem? hi)).box bx11 S12;have tel12:=Tel.box bx11 ok S12 tel11;have dc12:=dc11.box ok bx11 S12;have tb12:=tb11.same S12;refine⟨_,rfl,_,rfl,_,rfl,t,d,ak,T,xk,j,S,rfl,tel12,ok,dc12,hak,hs,λH13 S13=>⟨_,rfl,?_⟩⟩;refine iteF ?_;have B13:=B12.same S13;refine⟨_,rfl,_,rfl,_,rfl,b,pw,l1,l2,l3,l4,ak,T,xk,j,S,rfl,B13,tb12.same (Zh.of S13),ok,two.home,B13.tup (S13 _ _ hak),S13 _ _ hak,hs,λH14 x B14 S14 bxx=>?_⟩;have S1214:Zh b H' H14:=(Zh.of S13).trans S14;have tel14:=Tel.box B12 ok S1214 tel12;have dc14:=dc12.box ok B12 S1214;have fin:∀H16,Same H14 H16->Zz H16 b/\Zh b H11 H16/\∃o8 o9:Option V,[some (.ref a),some (.int cl),some (.ref b),some (.ref pw),some (.ref t),some (.ref d),some (.ref kl),some (.ref c11),some (.ref ak),some x]=[some (.ref a),some (.int cl),some (.ref b),some (.ref pw),some (.ref t),some (.ref d),some (.ref kl),some (.ref c11),o8,o9]:=λH16 s=>⟨B14.same s,S12.trans (S1214.trans (Zh.of s)),_,_,rfl⟩;refine⟨λσ' H'=>σ'=[some (.ref a),some (.int cl),some (.ref b),some (.ref pw),some (.ref t),some (.ref d),some (.ref kl),some (.ref c11),some (.ref ak),some x]/\Same H14 H',?_,?_⟩
   ·refine⟨_,rfl,_,rfl,b,d,x,T,rfl,dc14,ok,bxx,λr H15 S15 hr'=>⟨_,rfl,?_⟩⟩;cases r with
   |false=>
     refine iteT ?_;refine⟨_,rfl,_,rfl,b,t,x,T,rfl,tel14.same S15,ok,bxx.same (Zh.of S15),λq=>?_,λH16 S16=>⟨_,rfl,?_⟩⟩
     ·have:=hr'.mpr (WW bxx S15 q);cases this
     refine iteF ?_;exact⟨rfl,S15.trans S16⟩
   |true=>refine iteF ?_;refine iteF ?_;exact⟨rfl,S15⟩
   ·rintro σ' H15 ⟨rfl,S15⟩;have dc15:=dc14.same S15;refine⟨_,rfl,_,rfl,b,d,x,T,rfl,dc15,ok,bxx.same (Zh.of S15),λr H16 S16 hr'=>⟨_,rfl,?_⟩⟩;cases r with
   |false=>refine iteF ?_;refine iteF ?_;exact fin H16 (S15.trans S16)
   |true=>refine iteT ?_;obtain⟨ax,xx,jx,Sx,rfl,hax,hsx⟩:=hr'.mp rfl;refine⟨_,rfl,_,rfl,_,rfl,t,d,ax,T,xx,jx,Sx,rfl,(tel14.same S15).same S16,ok,dc15.same S16,S16 _ _ hax,hsx,λH17 S17=>⟨_,rfl,?_⟩⟩;refine iteF ?_;exact fin H17 ((S15.trans S16).trans S17)
  obtain⟨B12,S12,o8',o9',rfl⟩:=p;have tel12:=Tel.box bx11 ok S12 tel11;have tb12:=tb11.same S12;have L12:=S12 _ _ L11 np3;clear bx11 S12 tb11 L11 tel11 dc11 kk11 e11;have sm:Shw (tabD T.n T.t1 T.t2 T.t3 T.t4):=(NL ok).sm.shw (by decide) (by decide);obtain⟨fs,y1,y2,y3,y4,kk,tp,_⟩:=id tel12;obtain⟨dx,ht⟩:=tp.tab.tab.at_;refine⟨_,rfl,t,dx,fs,rfl,ht,tp.tab.tab.only _ (by decide +kernel),t,fs,T.n,_,_,_,_,kk,rfl,tp.tab,λq m1' m2' m3' m4' w1 w2 w3 w4 s1' s2' s3' s4' z1' z2' z3' z4' h1 h2 h3 h4 hq=>?_⟩;cases z1';cases z2';cases z3';cases z4';try dsimp only[tNil]
  have S13:=sameNew (o:=.tup [.int T.n,.ref m1',.ref m2',.ref m3',.ref m4']) (Same.refl H12) hq;have e13:upd H12 q (.tup [.int T.n,.ref m1',.ref m2',.ref m3',.ref m4']) q=some (.tup [.int T.n,.ref m1',.ref m2',.ref m3',.ref m4']):=Ze;generalize upd H12 q (.tup [.int T.n,.ref m1',.ref m2',.ref m3',.ref m4'])=H13 at S13 e13 ⊢;have d1:Is H13 (.ref q) (tabD T.n T.t1 T.t2 T.t3 T.t4):=TX (NL ok) (S13 _ _ h1) (S13 _ _ h2) (S13 _ _ h3) (S13 _ _ h4) ((tp.rows _ (.inl rfl) _ _ rfl).same S13) ((tp.rows _ (.inr (.inl rfl)) _ _ rfl).same S13) ((tp.rows _ (.inr (.inr (.inl rfl))) _ _ rfl).same S13) ((tp.rows _ (.inr (.inr (.inr rfl))) _ _ rfl).same S13) e13;refine⟨_,_,rfl,.of d1,sm.1,sm.2,sm.3,?_⟩;obtain⟨x1,_,g1,_,r1⟩:=tb12.pl.part (ok.flat (.inl rfl));obtain⟨x2,_,g2,_,r2⟩:=tb12.rd.part (ok.flat (.inr (.inl rfl)));obtain⟨x3,_,g3,_,r3⟩:=tb12.wy.part (ok.flat (.inr (.inr (.inl rfl))));obtain⟨x4,_,g4,_,r4⟩:=tb12.gr.part (ok.flat (.inr (.inr (.inr rfl))));refine⟨_,rfl,pw,_,0,_,rfl,rfl,SqL.of (S13 _ _ tb12.at_),Zn (j:=0) rfl,zl,λc14 hc14=>?_⟩;try dsimp only[tNil]
  have S14:=sameNew (o:=.tup [.int T.n]) (Same.refl H13) hc14;have e14:upd H13 c14 (.tup [.int T.n]) c14=some (.tup [.int T.n]):=Ze;generalize upd H13 c14 (.tup [.int T.n])=H14 at S14 e14 ⊢;have S1214:=S13.trans S14;refine⟨_,rfl,_,rfl,pw,_,rfl,SqL.of (S1214 _ _ tb12.at_),λc15 hc15=>?_⟩;rw[cut1 _ (by simp)];rw[show List.drop 1 [V.int T.n,.ref l1,.ref l2,.ref l3,.ref l4]=[.ref l1,.ref l2,.ref l3,.ref l4]from rfl];have S15:=sameNew (o:=.lst [.ref l1,.ref l2,.ref l3,.ref l4]) (Same.refl H14) hc15;have e15:upd H14 c15 (.lst [.ref l1,.ref l2,.ref l3,.ref l4]) c15=some (.lst [.ref l1,.ref l2,.ref l3,.ref l4]):=Ze;generalize upd H14 c15 (.lst [.ref l1,.ref l2,.ref l3,.ref l4])=H15 at S15 e15 ⊢;have S1215:=S1214.trans S15;have hpt:∀i,i<4->∃(l:Addr)(X:List V),([.ref l1,.ref l2,.ref l3,.ref l4]:List V)[i]?=some (.ref l)/\([x1,x2,x3,x4]:List (List V))[i]?=some X/\H12 l=some (.lst X):=λi hi=>by
   rcases(by omega:i=0\/i=1\/i=2\/i=3)with rfl|rfl|rfl|rfl
   ·exact⟨l1,x1,rfl,rfl,g1⟩
   ·exact⟨l2,x2,rfl,rfl,g2⟩
   ·exact⟨l3,x3,rfl,rfl,g3⟩
   ·exact⟨l4,x4,rfl,rfl,g4⟩
  refine⟨c15,rfl,⟨_,SqL.of e15⟩,?_⟩;refine Yd (J:=Itl K c15) 4 (by decide) (λi us τ H'=>Same H15 H'/\i<=4/\us.length=i/\(∀(m:Nat)u X,us[m]?=some u->([x1,x2,x3,x4]:List (List V))[m]?=some X->∃c,u=.ref c/\H' c=some (.tup X))/\∃v,τ=[v]) ⟨Same.refl _,by omega,rfl,(λm u X h=>by simp at h),none,rfl⟩ (λi us τ H' p=>Nat.le_of_eq p.2.2.1) (λi us τ H' hi p=>?_) (λus τ H' p=>⟨_,SqL.of (p.1 _ _ e15),Nat.le_refl _⟩) (λi us τ H' x H16 hi p yl=>?_) (λus τ H16 p c16 hc16=>?_)
  ·obtain⟨l,X,q1,_⟩:=hpt i hi;exact⟨_,_,SqL.of (p.1 _ _ e15),q1⟩
  ·obtain⟨S16,_,lu,hu,v,rfl⟩:=p;obtain⟨rfl,hy⟩:=yl;have hx:=hy _ (SqL.of (S16 _ _ e15));obtain⟨l,X,q1,q2,q3⟩:=hpt i hi;rw[q1]at hx;cases hx;refine⟨_,rfl,l,X,rfl,.inl ⟨SqL.of (S16 _ _ (S1215 _ _ q3)),λct hct=>?_⟩⟩;have S17:=sameNew (o:=.tup X) (Same.refl H16) hct;refine⟨S16.trans S17,by omega,by rw[List.length_append,lu];rfl,λm u Y h1 h2=>?_,_,rfl⟩;by_cases hm:m<us.length
   ·rw[List.getElem?_append_left hm]at h1;obtain⟨c,ec,hc⟩:=hu m u Y h1 h2;exact⟨c,ec,S17 _ _ hc⟩
   ·rw[List.getElem?_append_right (by omega)]at h1;have hm0:m-us.length=0:=by
     cases hz:m-us.length with
    |zero=>rfl
    |succ z=>rw[hz]at h1;simp at h1
    rw[hm0]at h1;cases h1;obtain rfl:m=i:=by omega
    rw[q2]at h2;cases h2;exact⟨ct,rfl,Ze⟩
  obtain⟨S16,_,lu,hu,v,rfl⟩:=p;obtain⟨u1,u2,u3,u4,rfl⟩:=len4 lu;obtain⟨t1,rfl,f1⟩:=hu 0 u1 x1 rfl rfl;obtain⟨t2,rfl,f2⟩:=hu 1 u2 x2 rfl rfl;obtain⟨t3,rfl,f3⟩:=hu 2 u3 x3 rfl rfl;obtain⟨t4,rfl,f4⟩:=hu 3 u4 x4 rfl rfl;have S17:=sameNew (o:=.lst [.ref t1,.ref t2,.ref t3,.ref t4]) (Same.refl H16) hc16;have e17:upd H16 c16 (.lst [.ref t1,.ref t2,.ref t3,.ref t4]) c16=some (.lst [.ref t1,.ref t2,.ref t3,.ref t4]):=Ze;generalize upd H16 c16 (.lst [.ref t1,.ref t2,.ref t3,.ref t4])=H17 at S17 e17 ⊢;refine⟨c16,_,rfl,.inl ⟨SqL.of e17,λc18 hc18=>?_⟩⟩;have S18:=sameNew (o:=.tup [.ref t1,.ref t2,.ref t3,.ref t4]) (Same.refl H17) hc18;have e18:upd H17 c18 (.tup [.ref t1,.ref t2,.ref t3,.ref t4]) c18=some (.tup [.ref t1,.ref t2,.ref t3,.ref t4]):=Ze;generalize upd H17 c18 (.tup [.ref t1,.ref t2,.ref t3,.ref t4])=H18 at S18 e18 ⊢;have S1418:=S15.trans (S16.trans (S17.trans S18));refine⟨c14,c18,_,_,rfl,rfl,S1418 _ _ e14,e18,by show 5<=sizeLine;decide,(λz=>by cases z),(λz=>by cases z),λc19 hc19=>?_⟩;have S19:=sameNew (o:=.tup ([.int T.n]++[.ref t1,.ref t2,.ref t3,.ref t4])) (Same.refl H18) hc19;have e19:upd H18 c19 (.tup ([.int T.n]++[.ref t1,.ref t2,.ref t3,.ref t4])) c19=some (.tup [.int T.n,.ref t1,.ref t2,.ref t3,.ref t4]):=Ze;generalize upd H18 c19 (.tup ([.int T.n]++[.ref t1,.ref t2,.ref t3,.ref t4]))=H19 at S19 e19 ⊢;have S1619:=(S17.trans S18).trans S19;have S1219:=(S1214.trans S1418).trans S19;have d2:Is H19 (.ref c19) (tabD T.n T.t1 T.t2 T.t3 T.t4):=TX (NL ok) (S1619 _ _ f1) (S1619 _ _ f2) (S1619 _ _ f3) (S1619 _ _ f4) (r1.same S1219) (r2.same S1219) (r3.same S1219) (r4.same S1219) e19;generalize tabD T.n T.t1 T.t2 T.t3 T.t4=DD at d2 sm ⊢;refine⟨_,_,rfl,.of d2,sm.1,sm.2,sm.3,rfl,_,rfl,?_⟩;refine XG (λe=>absurd e (by simp)) (λ_=>?_);exact⟨S1219 _ _ L12,_,_,_,_,_,_,_,_,_,rfl⟩
end
end SX
namespace L2
open PySem PySem.Spec PyProof.Rows
section
variable {K:PySem.W.Frag}{h:Heap}{mg:Str->Option Value}{x:Str}
theorem EW{st:Stmt}{ps:List Str}{f:Addr}{oc:Value}{od an:Option Addr}{osl:Array (Option Value)}{kV doc pm cdv ct:Value}(X:K.In h)(G:h.Ns mainGlobals mg)(a:PySem.W.nsIn K mainGlobals x=some (some (.ref f)))(l:K.lookup f=some ⟨oc,od,.func (PySem.W.fnOf x x (Yj st) (ZJ st) (Zf st) .none kV doc pm an cdv ct),osl⟩)(c:PySem.W.codeIn K cdv x=true)(k:PySem.W.keepIn K (.ref f)=true)(hb:∀(kV doc pm:Value)(an:Option Addr)(cdv ct:Value)(us:List Value),us.length=ps.length->bindArgs (PySem.W.fnOf x x (Yj st) (ZJ st) (Zf st) .none kV doc pm an cdv ct) ⟨us,[]⟩=pure (ps.zip us)):Df K mg x st ps:=⟨f,_,XO l c k,PySem.W.mg_of X G a,(XO l c k).binds hb⟩
theorem Mg{C:Addr}{m qual:Str}{st:Stmt}{ps:List Str}{f:Addr}{oc:Value}{od an:Option Addr}{osl:Array (Option Value)}{kV doc pm cdv ct:Value}(a:PySem.W.findIn K (.ref C) m=some (some (.ref f)))(i:PySem.W.isFn K (.ref f)=true)(l:K.lookup f=some ⟨oc,od,.func (PySem.W.fnOf m qual (Yj st) (ZJ st) (Zf st) .none kV doc pm an cdv ct),osl⟩)(c:PySem.W.codeIn K cdv qual=true)(k:PySem.W.keepIn K (.ref f)=true)(hb:∀(kV doc pm:Value)(an:Option Addr)(cdv ct:Value)(us:List Value),us.length=ps.length->bindArgs (PySem.W.fnOf m qual (Yj st) (ZJ st) (Zf st) .none kV doc pm an cdv ct) ⟨us,[]⟩=pure (ps.zip us)):DfM K C m qual st ps:=⟨f,_,XO l c k,⟨a,i,k⟩,(XO l c k).binds hb⟩
theorem str_mk{z:Str}{t:Tok}(X:K.In h)(G:h.Ns mainGlobals mg)(a:PySem.W.nsIn K mainGlobals x=some (some (.str z t))):∃t,mg x=some (.str z t):=⟨t,PySem.W.mg_of X G a⟩
theorem int_mk{z:Int}{t:Tok}(X:K.In h)(G:h.Ns mainGlobals mg)(a:PySem.W.nsIn K mainGlobals x=some (some (.int z t))):∃t,mg x=some (.int z t):=⟨t,PySem.W.mg_of X G a⟩
theorem RW{w:World}{a:Addr}{es:Array DictEntry}{n:Nat}{n1 n2 n3 n4:Int}{t1 t2 t3 t4:Tok}(X:K.In h)(G:h.Ns mainGlobals mg)(ha:PySem.W.nsIn K mainGlobals x=some (some (.ref a)))(hl:K.lookup a=some ⟨.type "dict",none,.dict es n,#[]⟩)(hk:PySem.W.KeysLit w.params es.toList)(h1:PySem.W.nsIn K a "places"=some (some (.int n1 t1)))(h2:PySem.W.nsIn K a "rides"=some (some (.int n2 t2)))(h3:PySem.W.nsIn K a "ways"=some (some (.int n3 t3)))(h4:PySem.W.nsIn K a "groups"=some (some (.int n4 t4))):∃a,mg x=some (.ref a)/\Xw K w a "places" (.int n1)/\Xw K w a "rides" (.int n2)/\Xw K w a "ways" (.int n3)/\Xw K w a "groups" (.int n4):=⟨a,PySem.W.mg_of X G ha,⟨es,n,_,hl,hk,h1,⟨t1,rfl⟩⟩,⟨es,n,_,hl,hk,h2,⟨t2,rfl⟩⟩,⟨es,n,_,hl,hk,h3,⟨t3,rfl⟩⟩,⟨es,n,_,hl,hk,h4,⟨t4,rfl⟩⟩⟩
end
end L2
namespace SX
open PySem L2 PySem.Spec PyProof.Rows TB WD
theorem Ew:FnScope ["self","part","at","why"] ["self","part","at","why"] (Zf T.m_BadTable___init__):=⟨rfl,rfl,rfl,by decide +kernel,rfl,by decide +kernel,by decide +kernel⟩
structure BadF(K:PySem.W.Frag)(mg:Str->Option Value)(Cb:Addr):Prop where
 at_:∃fI Qa fd,XK1 K mg "BadTable" Cb fI Qa/\Fun K "__init__" "BadTable.__init__" T.m_BadTable___init__ fI fd/\Binds K fd ["self","part","at","why"] []
 na:ZZ K Cb "part"/\ZZ K Cb "at"/\ZZ K Cb "why"
section
variable {P:Program}{w:World}{K:PySem.W.Frag}{mg:Str->Option Value}{base:Heap}{C Cb:Addr}
theorem BadF.err(b:BadF K mg Cb):Err P w K mg base "BadTable" ["part","at","why"] Cb:=by obtain⟨fI,Qa,fd,X,F,bd⟩:=b.at_;exact⟨⟨fI,Qa,fd,["self","part","at","why"],X.xc,EL F Ew rfl ⟨by decide,by decide⟩ ⟨by decide,by decide⟩ ⟨by decide,by decide⟩ X.xc b.na.1 b.na.2.1 b.na.2.2 (by decide) (by decide) (by decide),by decide,bd⟩,X.xr,X.mg,X.kp⟩
structure NoF(K:PySem.W.Frag)(mg:Str->Option Value)(x qual:Str)(st:Stmt)(C Qa:Addr):Prop where
 at_:∃fI fd,XK1 K mg x C fI Qa/\Fun K "__init__" qual st fI fd/\Binds K fd ["self","found"] []
 na:ZZ K C "found"
theorem NoF.err{x qual:Str}{st:Stmt}{Qa:Addr}{p1 p2 p3 p4:Pos}(b:NoF K mg x qual st C Qa)(S:FnScope ["self","found"] ["self","found"] (Zf st))(hb:ZJ st=[VC "found" "found" p1 p2 p3 p4]):Err P w K mg base x ["found"] C:=by obtain⟨fI,fd,X,F,bd⟩:=b.at_;exact⟨⟨fI,Qa,fd,["self","found"],X.xc,EM F S hb ⟨by decide,by decide⟩ X.xc b.na,by decide,bd⟩,X.xr,X.mg,X.kp⟩
theorem Wi:FnScope ["self","found"] ["self","found"] (Zf T.m_NoStep___init__):=scO (by decide +kernel)
structure Meths(K:PySem.W.Frag)(C:Addr):Prop where
 take_places:DfM K C "take_places" "Table.take_places" T.m_Table_take_places ["self","places"]
 take_rides:DfM K C "take_rides" "Table.take_rides" T.m_Table_take_rides ["self","rides"]
 take_ways:DfM K C "take_ways" "Table.take_ways" T.m_Table_take_ways ["self","ways"]
 take_groups:DfM K C "take_groups" "Table.take_groups" T.m_Table_take_groups ["self","groups"]
 told:DfM K C "told" "Table.told" T.m_Table_told ["self"]
 is_place:DfM K C "is_place" "Table.is_place" T.m_Table_is_place ["self","thing"]
 is_home:DfM K C "is_home" "Table.is_home" T.m_Table_is_home ["self","thing"]
 is_ride:DfM K C "is_ride" "Table.is_ride" T.m_Table_is_ride ["self","thing"]
 is_way:DfM K C "is_way" "Table.is_way" T.m_Table_is_way ["self","thing"]
 is_group:DfM K C "is_group" "Table.is_group" T.m_Table_is_group ["self","thing"]
 room_of:DfM K C "room_of" "Table.room_of" T.m_Table_room_of ["self","name"]
 ride_row:DfM K C "ride_row" "Table.ride_row" T.m_Table_ride_row ["self","name"]
 way_row:DfM K C "way_row" "Table.way_row" T.m_Table_way_row ["self","name"]
 group_row:DfM K C "group_row" "Table.group_row" T.m_Table_group_row ["self","name"]
structure TabF(K:PySem.W.Frag)(mg:Str->Option Value)(C:Addr):Prop where
 cl:TCl K C
 init:∃f fd,Mk K C f/\Fun K "__init__" "Table.__init__" T.m_Table___init__ f fd/\Binds K fd ["self","turns","places","rides","ways","groups"] []
 mg:mg "Table"=some (.ref C)
 ms:Meths K C
structure SMeths(K:PySem.W.Frag)(C:Addr):Prop where
 key:DfM K C "key" "Step.key" T.m_Step_key ["self"]
 tail:DfM K C "tail" "Step.tail" T.m_Step_tail ["self"]
 head:DfM K C "head" "Step.head" T.m_Step_head ["self"]
 room:DfM K C "room" "Step.room" T.m_Step_room ["self"]
 price:DfM K C "price" "Step.price" T.m_Step_price ["self"]
structure StF(K:PySem.W.Frag)(mg:Str->Option Value)(x qual:Str)(st:Stmt)(ps:List Str)(C Cb:Addr):Prop where
 cl:SCl K C
 ty:∀(H:Hp)(a dx:Addr)(fs:List (Str×V)),H a=some (.ins C dx fs)->TyOf K H (.ref a) (.ref C)
 init:∃f fd,Mk K C f/\Fun K "__init__" qual st f fd/\Binds K fd ps []
 mg:mg x=some (.ref C)
 ms:SMeths K C
 kb:PySem.W.kitOne K (.ref C) (.ref Cb)=some true
structure AllSt(K:PySem.W.Frag)(mg:Str->Option Value)(c0 c1 c2 c3 cb:Addr):Prop where
 s0:StF K mg "SetOut" "SetOut.__init__" T.m_SetOut___init__ ["self","row","turn"] c0 cb
 s1:StF K mg "Ride" "Ride.__init__" T.m_Ride___init__ ["self","row"] c1 cb
 s2:StF K mg "Walk" "Walk.__init__" T.m_Walk___init__ ["self","row","turn"] c2 cb
 s3:StF K mg "Wait" "Wait.__init__" T.m_Wait___init__ ["self","row","turn"] c3 cb
 k00:PySem.W.kitOne K (.ref c0) (.ref c0)=some true
 k10:PySem.W.kitOne K (.ref c1) (.ref c0)=some false
 k20:PySem.W.kitOne K (.ref c2) (.ref c0)=some false
 k30:PySem.W.kitOne K (.ref c3) (.ref c0)=some false
 k01:PySem.W.kitOne K (.ref c0) (.ref c1)=some false
 k11:PySem.W.kitOne K (.ref c1) (.ref c1)=some true
 k21:PySem.W.kitOne K (.ref c2) (.ref c1)=some false
 k31:PySem.W.kitOne K (.ref c3) (.ref c1)=some false
 k02:PySem.W.kitOne K (.ref c0) (.ref c2)=some false
 k12:PySem.W.kitOne K (.ref c1) (.ref c2)=some false
 k22:PySem.W.kitOne K (.ref c2) (.ref c2)=some true
 k32:PySem.W.kitOne K (.ref c3) (.ref c2)=some false
 k03:PySem.W.kitOne K (.ref c0) (.ref c3)=some false
 k13:PySem.W.kitOne K (.ref c1) (.ref c3)=some false
 k23:PySem.W.kitOne K (.ref c2) (.ref c3)=some false
 k33:PySem.W.kitOne K (.ref c3) (.ref c3)=some true
 base:∃f fd,Fun K "__init__" "Step.__init__" T.m_Step___init__ f fd/\BaseM K cb "__init__" f/\Binds K fd ["self","key","tail","head","room","price"] []
 mb:mg "Step"=some (.ref cb)
structure Defs(K:PySem.W.Frag)(mg:Str->Option Value):Prop where
 is_whole:Df K mg "is_whole" T.f_is_whole ["thing"]
 is_within:Df K mg "is_within" T.f_is_within ["thing","low","high"]
 is_text_of:Df K mg "is_text_of" T.f_is_text_of ["thing","longest","signs"]
 is_name:Df K mg "is_name" T.f_is_name ["thing"]
 is_group_name:Df K mg "is_group_name" T.f_is_group_name ["thing"]
 is_known:Df K mg "is_known" T.f_is_known ["thing","names"]
 rows_of:Df K mg "rows_of" T.f_rows_of ["part","rows"]
 wrong_beginning:Df K mg "wrong_beginning" T.f_wrong_beginning ["part","row","names_ahead"]
 wrong_ends:Df K mg "wrong_ends" T.f_wrong_ends ["table","start","goal"]
 wrong_place:Df K mg "wrong_place" T.f_wrong_place ["row"]
 wrong_ride:Df K mg "wrong_ride" T.f_wrong_ride ["table","row"]
 wrong_way:Df K mg "wrong_way" T.f_wrong_way ["table","row"]
 wrong_group:Df K mg "wrong_group" T.f_wrong_group ["table","row","people_ahead"]
 refuse_row:Df K mg "refuse_row" T.f_refuse_row ["part","at","why"]
 set_out_of:Df K mg "set_out_of" T.f_set_out_of ["table","name","turn"]
 walk_of:Df K mg "walk_of" T.f_walk_of ["table","name","turn"]
 wait_of:Df K mg "wait_of" T.f_wait_of ["table","name","turn"]
 step_or_none:Df K mg "step_or_none" T.f_step_or_none ["table","key"]
 step_of:Df K mg "step_of" T.f_step_of ["table","key"]
 _law_box:Df K mg "_law_box" T.f__law_box ["_law_cell_here"]
 _law_take:Df K mg "_law_take" T.f__law_take ["_law_box_here","_law_many"]
 _law_names:Df K mg "_law_names" T.f__law_names ["_law_box_here","_law_many"]
 _law_places:Df K mg "_law_places" T.f__law_places ["_law_box_here"]
 _law_size:Df K mg "_law_size" T.f__law_size ["_law_box_here"]
 _law_ends:Df K mg "_law_ends" T.f__law_ends ["_law_box_here","_law_places_here"]
 _law_ride:Df K mg "_law_ride" T.f__law_ride ["_law_box_here","_law_name","_law_turns","_law_places_here"]
 _law_way:Df K mg "_law_way" T.f__law_way ["_law_box_here","_law_name","_law_places_here"]
 _law_group:Df K mg "_law_group" T.f__law_group ["_law_box_here","_law_name","_law_turns","_law_places_here"]
 _law_world:Df K mg "_law_world" T.f__law_world ["_law_box_here"]
 _law_steps:Df K mg "_law_steps" T.f__law_steps ["_law_world_here"]
 _law_table:Df K mg "_law_table" T.f__law_table ["_law_world_here"]
 _law_bad_key:Df K mg "_law_bad_key" T.f__law_bad_key ["_law_box_here","_law_world_here","_law_key"]
 _law_is_key:Df K mg "_law_is_key" T.f__law_is_key ["_law_steps_here","_law_thing"]
 _law_refused:Df K mg "_law_refused" T.f__law_refused ["_law_table_here","_law_thing"]
 _law_right:Df K mg "_law_right" T.f__law_right ["_law_table_here","_law_steps_here","_law_key"]
theorem Qm(W:K1.Txt K mg)(G:TB.Txt K mg)(Zs:Sizes K w mg)(Zm:Mosts K w mg)(he:mg "enumerate"=none)(D:Defs K mg)(t:TabF K mg C)(b:BadF K mg Cb):TMk P w K mg base C Cb:=by obtain⟨f,fd,M,F,bd⟩:=t.init;have B:=b.err (P:=P) (w:=w) (base:=base);have cW:=K1.Na (P:=P) (w:=w) (base:=base) W D.is_whole;have cI:=K1.Mp (P:=P) (w:=w) (base:=base) D.is_within cW;have cX:=K1.QX (P:=P) (w:=w) (base:=base) W D.is_text_of;have cN:=K1.Ki (P:=P) (w:=w) (base:=base) W D.is_name cX;have cG:=K1.TK (P:=P) (w:=w) (base:=base) W D.is_group_name cX;have cK:=Nb (P:=P) (w:=w) (base:=base) G D.is_known;have cP:=Gh (P:=P) (w:=w) (base:=base) t.cl t.ms.is_place cK;have cH:=Mr (P:=P) (w:=w) (base:=base) t.cl t.ms.is_home cP;have cE:=Kk (P:=P) (w:=w) (base:=base) t.cl D.wrong_ends cP cH;have cB:=QW (P:=P) (w:=w) (base:=base) G Zs D.wrong_beginning cN cG;have cR:=Q1 (P:=P) (w:=w) (base:=base) B D.refuse_row;have cRo:=Kg (P:=P) (w:=w) (base:=base) G Zm B D.rows_of;have c1:=Tq (P:=P) (w:=w) (base:=base) t.cl he t.ms.take_places cB (QT G D.wrong_place cI) cR;have c2:=Tp (P:=P) (w:=w) (base:=base) t.cl he t.ms.take_rides cB (Kh G t.cl D.wrong_ride cI cE) cR;have c3:=To (P:=P) (w:=w) (base:=base) t.cl he t.ms.take_ways cB (Ln G t.cl D.wrong_way cI cE) cR;have c4:=Tr (P:=P) (w:=w) (base:=base) t.cl he t.ms.take_groups cB (QU G t.cl D.wrong_group cI cP) cR;refine⟨⟨f,fd,M,F.okX KJ (λvs H Q E h=>?_) λcdv A outer s H vs Q E hr h=>Q9 G t.cl B (cI.mono (by decide)) (cRo.mono (by decide)) (c1.mono (by decide)) (c2.mono (by decide)) (c3.mono (by decide)) (c4.mono (by decide)) hr h,bd⟩,t.mg⟩;obtain⟨t',dx,vT,T',v1,v2,v3,v4,r1,r2,r3,r4,rfl,_⟩:=h;rfl
theorem all4{R:Nat->Prop}(h0:R 0)(h1:R 1)(h2:R 2)(h3:R 3):∀j,j<4->R j:=λj hj=>by
 have e:j=0\/j=1\/j=2\/j=3:=by omega
 rcases e with rfl|rfl|rfl|rfl<;>assumption
noncomputable def c4(c0 c1 c2 c3:Addr)(i:Nat):Addr:=[c0,c1,c2,c3].getD i 0
theorem AllSt.sty{c0 c1 c2 c3 cb:Addr}(a:AllSt K mg c0 c1 c2 c3 cb):STy K mg (c4 c0 c1 c2 c3) cb where
 ty:=all4 a.s0.ty a.s1.ty a.s2.ty a.s3.ty
 kk:=λi j hi hj=>by
  revert i
  refine all4 (R:=λj=>∀i,i<4->PySem.W.kitOne K (.ref (c4 c0 c1 c2 c3 j)) (.ref (c4 c0 c1 c2 c3 i))=some (decide (j=i))) ?_ ?_ ?_ ?_ j hj
  ·exact all4 a.k00 a.k01 a.k02 a.k03
  ·exact all4 a.k10 a.k11 a.k12 a.k13
  ·exact all4 a.k20 a.k21 a.k22 a.k23
  ·exact all4 a.k30 a.k31 a.k32 a.k33
 kb:=all4 a.s0.kb a.s1.kb a.s2.kb a.s3.kb
 m0:=a.s0.mg
 m1:=a.s1.mg
 m2:=a.s2.mg
 m3:=a.s3.mg
 m4:=a.mb
theorem StF.told{x qual:Str}{st:Stmt}{ps:List Str}{C Cb:Addr}(s:StF K mg x qual st ps C Cb):STold P w K mg base C:=⟨Ke s.ms.key,Tu s.ms.tail,Tx s.ms.head,Tv s.ms.room,QZ s.ms.price⟩
theorem Lc{f Cn c0 c1 c2 c3 cb:Addr}{fd:FuncData}(W:K1.Txt K mg)(G:TB.Txt K mg)(Zs:Sizes K w mg)(Zm:Mosts K w mg)(B:∀x∈Blts,mg x=none)(D:Defs K mg)(t:TabF K mg C)(b:BadF K mg Cb){Qa:Addr}(ns:NoF K mg "NoStep" "NoStep.__init__" T.m_NoStep___init__ Cn Qa)(a:AllSt K mg c0 c1 c2 c3 cb)(F:Fun K "law" "law" T.f_law f fd):FnOk P w K mg base CX0 10 f fd ["_law_script"] (Pe K):=by have tm:=Qm (P:=P) (base:=base) W G Zs Zm (B _ (by decide +kernel)) D t b;have Z:=t.cl;have cT:=Kd (P:=P) (w:=w) (base:=base) (mg:=mg) D._law_take;have cS:=Kf (P:=P) (w:=w) (base:=base) (mg:=mg) cT D._law_size;have cN:=TC (P:=P) (w:=w) (base:=base) (mg:=mg) B cT D._law_names;have cE:=TH (P:=P) (w:=w) (base:=base) (mg:=mg) B cT D._law_ends;have cWo:=Tn (P:=P) (w:=w) (base:=base) (mg:=mg) B cT cN (Q2 B cT cN cS D._law_places) (TF B cT cS cE D._law_ride) (Kj B cT cS cE D._law_way) (Q5 B cT D._law_group) D._law_world;have cI:=K1.Mp (P:=P) (w:=w) (base:=base) (mg:=mg) D.is_within (K1.Na W D.is_whole);have cK:=Nb (P:=P) (w:=w) (base:=base) (mg:=mg) G D.is_known;have cP:=Gh (P:=P) (w:=w) (base:=base) (mg:=mg) Z t.ms.is_place cK;have cH:=Mr (P:=P) (w:=w) (base:=base) (mg:=mg) Z t.ms.is_home cP;have cR:=Qc (P:=P) (w:=w) (base:=base) (mg:=mg) Z t.ms.is_ride cK;have cY:=Q6 (P:=P) (w:=w) (base:=base) (mg:=mg) Z t.ms.is_way cK;have cG:=NV (P:=P) (w:=w) (base:=base) (mg:=mg) Z t.ms.is_group cK;have ZS:∀j,j<4->SCl K (c4 c0 c1 c2 c3 j):=all4 a.s0.cl a.s1.cl a.s2.cl a.s3.cl;obtain⟨fb,fdb,Fb,bm,bb⟩:=a.base;have CB:CanB P w K mg base cb:=⟨⟨fb,fdb,WK Fb,bm,bb⟩,a.mb⟩;obtain⟨f0,g0,M0,F0,b0⟩:=a.s0.init;obtain⟨f1,g1,M1,F1,b1⟩:=a.s1.init;obtain⟨f2,g2,M2,F2,b2⟩:=a.s2.init;obtain⟨f3,g3,M3,F3,b3⟩:=a.s3.init;have m0:SMk P w K mg base "SetOut" (c4 c0 c1 c2 c3 0) ["self","row","turn"] (spMk K (c4 c0 c1 c2 c3) 0 Wq):=⟨⟨f0,g0,M0,Dz CB F0,b0⟩,a.s0.mg⟩;have m1:SMk P w K mg base "Ride" (c4 c0 c1 c2 c3 1) ["self","row"] (spMk K (c4 c0 c1 c2 c3) 1 QA):=⟨⟨f1,g1,M1,K5 CB F1,b1⟩,a.s1.mg⟩;have m2:SMk P w K mg base "Walk" (c4 c0 c1 c2 c3 2) ["self","row","turn"] (spMk K (c4 c0 c1 c2 c3) 2 Qy):=⟨⟨f2,g2,M2,K3 CB F2,b2⟩,a.s2.mg⟩;have m3:SMk P w K mg base "Wait" (c4 c0 c1 c2 c3 3) ["self","row","turn"] (spMk K (c4 c0 c1 c2 c3) 3 Qz):=⟨⟨f3,g3,M3,K4 CB F3,b3⟩,a.s3.mg⟩;have w1:=Q0 (P:=P) (w:=w) (base:=base) (mg:=mg) Z ZS m0 cG (Mq Z cG t.ms.group_row) cI D.set_out_of;have w2:=Ka (P:=P) (w:=w) (base:=base) (mg:=mg) Z ZS m2 cY (NT Z cY t.ms.way_row) cI D.walk_of;have w3:=Kb (P:=P) (w:=w) (base:=base) (mg:=mg) Z ZS m3 cP cH (NU Z cP t.ms.room_of) cI D.wait_of;have sn:=Tw (P:=P) (w:=w) (base:=base) (mg:=mg) B Z ZS m1 cR (MC Z cR t.ms.ride_row) w1 w2 w3 D.step_or_none;have so:=QY (P:=P) (w:=w) (base:=base) (mg:=mg) (ns.err Wi rfl) sn D.step_of;obtain⟨fI,fd',X,_,_⟩:=ns.at_;have G4:∀j,j<4->STold P w K mg base (c4 c0 c1 c2 c3 j):=all4 a.s0.told a.s1.told a.s2.told a.s3.told;exact DA B Z (Lo B D._law_box) cT cWo (Q3 B tm D._law_table) (Q4 B D._law_steps) (Tz B ZS a.sty G4 so D._law_right) (Lp B cT D._law_bad_key) (TJ B D._law_is_key) (Qb B X ns.na so D._law_refused) (Kc Z t.ms.told) F
theorem law_fd{l:PySem.W.OpenLaw}{h:Heap}{fa f:Addr}(X:K.In h)(G:h.Ns mainGlobals mg)(hfa:mg "law"=some (.ref fa))(Wt:K1.Txt K mg)(Gt:TB.Txt K mg)(Zs:Sizes K w mg)(Zm:Mosts K w mg)(B:∀x∈Blts,mg x=none)(D:Defs K mg)(ht:∃C,TabF K mg C)(hb:∃Cb,BadF K mg Cb)(hn:∃Cn Qa,NoF K mg "NoStep" "NoStep.__init__" T.m_NoStep___init__ Cn Qa)(hS:∃c0 c1 c2 c3 cb,AllSt K mg c0 c1 c2 c3 cb){oc:Value}{od an:Option Addr}{osl:Array (Option Value)}{kV doc pm cdv ct:Value}(a:PySem.W.nsIn K mainGlobals "law"=some (some (.ref f)))(lk:K.lookup f=some ⟨oc,od,.func (PySem.W.fnOf "law" "law" (Yj T.f_law) (ZJ T.f_law) (Zf T.f_law) .none kV doc pm an cdv ct),osl⟩)(c:PySem.W.codeIn K cdv "law"=true)(k:PySem.W.keepIn K (.ref f)=true):∃fd:FuncData,(∀(s:Shared)(v:Value),BindsTo s fd ⟨[v],[]⟩ [("_law_script",v)])/\∀base:Heap,K.In base->base.Ns mainGlobals mg->FnOk l.prog w K mg base CX0 10 fa fd ["_law_script"] (Pe K):=by have e:=hfa.symm.trans (PySem.W.mg_of X G a);cases e;obtain⟨C,t⟩:=ht;obtain⟨Cb,b⟩:=hb;obtain⟨Cn,Qa,nf⟩:=hn;obtain⟨c0,c1,c2,c3,cb,sa⟩:=hS;have F:=XO (st:=T.f_law) lk c k;exact⟨PySem.W.fnOf "law" "law" (Yj T.f_law) (ZJ T.f_law) (Zf T.f_law) .none kV doc pm an cdv ct,λs v=>.of_eq rfl,λbase _ _=>Lc Wt Gt Zs Zm B D t b nf sa F⟩
end
theorem bad_mk{K:PySem.W.Frag}{h:Heap}{mg:Str->Option Value}{C fI Qa N:Addr}{nm q:Str}{bs:List Value}{sn:List Str}{sub:List Value}{ab:Bool}{col:Option Bool}{dd:Option Addr}{k0 k1 k2 k3 k5:Option Value}{c1 c2 c3 oc:Value}{d1 d2 d3 od an:Option Addr}{es1 es3:Array DictEntry}{ep1 ep3:Nat}{sl1 sl2 sl3 osl:Array (Option Value)}{cdQ:ClassData}{NQ:Addr}{kV doc pm cdv ct:Value}(KX:K.In h)(G:h.Ns mainGlobals mg)(a:PySem.W.nsIn K mainGlobals "BadTable"=some (some (.ref C)))(l:K.lookup C=some (excClassObj nm q C N bs (.ref Qa::bmV) true sn sub ab col dd k0 k1 k2 k3 k5 "ValueError.__new__"))(n1:K.lookup N=some ⟨c1,d1,.dict es1 ep1,sl1⟩)(n1e:(es1.toList.all λe=>match e.key with|.str _ _=>true|_=>false)=true)(n2:PySem.W.nsIn K N "__init__"=some (some (.ref fI)))(lq:K.lookup Qa=some ⟨c2,d2,.cls cdQ,sl2⟩)(eq:cdQ.ns=NQ)(nq:K.lookup NQ=some ⟨c3,d3,.dict es3 ep3,sl3⟩)(nqe:(es3.toList.all λe=>match e.key with|.str _ _=>true|_=>false)=true)(iq:PySem.W.nsIn K NQ "__init__"=some none)(lf:K.lookup fI=some ⟨oc,od,.func (PySem.W.fnOf "__init__" "BadTable.__init__" (Yj T.m_BadTable___init__) (ZJ T.m_BadTable___init__) (Zf T.m_BadTable___init__) .none kV doc pm an cdv ct),osl⟩)(cf:oc=.type "function")(cc:PySem.W.codeIn K cdv "BadTable.__init__"=true)(ck:PySem.W.keepIn K (.ref fI)=true)(sa:PySem.W.findIn K (.ref C) "__setattr__"=some (some (.builtin "object.__setattr__")))(ob:PySem.W.mroIn K C (.type "object")=some true)(ga:PySem.W.findIn K (.ref C) "__getattribute__"=some (some (.builtin "BaseException.__getattribute__")))(gg:PySem.W.findIn K (.ref C) "__getattr__"=some none)(hd:PySem.W.hasDictIn K C=true)(be:PySem.W.mroIn K C (.type "BaseException")=some true)(kp:PySem.W.keepIn K (.ref C)=true)(y1:PySem.W.findIn K (.ref C) "part"=some none)(y2:PySem.W.findIn K (.ref C) "at"=some none)(y3:PySem.W.findIn K (.ref C) "why"=some none):∃C,BadF K mg C:=by
 have n1':PySem.W.nsOkIn K N=true:=by unfold PySem.W.nsOkIn;rw[n1];dsimp only;rw[<-Array.all_toList];exact n1e
 have nq':PySem.W.nsOkIn K NQ=true:=by unfold PySem.W.nsOkIn;rw[nq];dsimp only;rw[<-Array.all_toList];exact nqe
 have tl:PySem.W.tailIn K bmV (.ref Qa::bmV)=true:=by subst eq;unfold PySem.W.tailIn;rw[Bool.or_eq_true];refine .inr ?_;dsimp only;rw[lq];dsimp only;rw[nq',iq];unfold PySem.W.tailIn;rw[show(bmV==bmV)=true from by decide];rfl
 have F:=XO (st:=T.m_BadTable___init__) lf cc ck;have X:XK1 K mg "BadTable" C fI Qa:=⟨⟨⟨nm,q,N,bs,sn,sub,ab,col,dd,k0,k1,k2,k3,k5,l,n1',n2⟩,tl,⟨_,lf,cf⟩,sa,ob⟩,⟨ga,gg,hd,be⟩,⟨nm,q,N,bs,_,true,sn,sub,ab,col,dd,k0,k1,k2,k3,k5,_,l,by rw[List.contains_cons];exact Bool.or_eq_true_iff.mpr (.inr (by decide))⟩,PySem.W.mg_of KX G a,kp⟩;exact⟨C,⟨fI,Qa,_,X,F,F.binds λ_ _ _ _ _ _ us hl=>by obtain⟨_,_,_,_,rfl⟩:=len4 hl;rfl⟩,y1,y2,y3⟩
theorem tail_mk{K:PySem.W.Frag}{Qa NQ:Addr}{c2 c3:Value}{d2 d3:Option Addr}{cdQ:ClassData}{sl2 sl3:Array (Option Value)}{es3:Array DictEntry}{ep3:Nat}(lq:K.lookup Qa=some ⟨c2,d2,.cls cdQ,sl2⟩)(eq:cdQ.ns=NQ)(nq:K.lookup NQ=some ⟨c3,d3,.dict es3 ep3,sl3⟩)(nqe:(es3.toList.all λe=>match e.key with|.str _ _=>true|_=>false)=true)(iq:PySem.W.nsIn K NQ "__init__"=some none):PySem.W.tailIn K bmV (.ref Qa::bmV)=true:=by
 have nq':PySem.W.nsOkIn K NQ=true:=by unfold PySem.W.nsOkIn;rw[nq];dsimp only;rw[<-Array.all_toList];exact nqe
 subst eq;unfold PySem.W.tailIn;rw[Bool.or_eq_true];refine .inr ?_;dsimp only;rw[lq];dsimp only;rw[nq',iq];unfold PySem.W.tailIn;rw[show(bmV==bmV)=true from by decide];rfl
theorem no_one{K:PySem.W.Frag}{h:Heap}{mg:Str->Option Value}{x qual:Str}{st:Stmt}{C fI Qa N:Addr}{nm q:Str}{bs:List Value}{sn:List Str}{sub:List Value}{ab:Bool}{col:Option Bool}{dd:Option Addr}{k0 k1 k2 k3 k5:Option Value}{c1 oc:Value}{d1 od an:Option Addr}{es1:Array DictEntry}{ep1:Nat}{sl1 osl:Array (Option Value)}{kV doc pm cdv ct:Value}(KX:K.In h)(G:h.Ns mainGlobals mg)(a:PySem.W.nsIn K mainGlobals x=some (some (.ref C)))(l:K.lookup C=some (excClassObj nm q C N bs (.ref Qa::bmV) true sn sub ab col dd k0 k1 k2 k3 k5 "ValueError.__new__"))(n1:K.lookup N=some ⟨c1,d1,.dict es1 ep1,sl1⟩)(n1e:(es1.toList.all λe=>match e.key with|.str _ _=>true|_=>false)=true)(n2:PySem.W.nsIn K N "__init__"=some (some (.ref fI)))(tl:PySem.W.tailIn K bmV (.ref Qa::bmV)=true)(lf:K.lookup fI=some ⟨oc,od,.func (PySem.W.fnOf "__init__" qual (Yj st) (ZJ st) (Zf st) .none kV doc pm an cdv ct),osl⟩)(cf:oc=.type "function")(cc:PySem.W.codeIn K cdv qual=true)(ck:PySem.W.keepIn K (.ref fI)=true)(sa:PySem.W.findIn K (.ref C) "__setattr__"=some (some (.builtin "object.__setattr__")))(ob:PySem.W.mroIn K C (.type "object")=some true)(ga:PySem.W.findIn K (.ref C) "__getattribute__"=some (some (.builtin "BaseException.__getattribute__")))(gg:PySem.W.findIn K (.ref C) "__getattr__"=some none)(hd:PySem.W.hasDictIn K C=true)(be:PySem.W.mroIn K C (.type "BaseException")=some true)(kp:PySem.W.keepIn K (.ref C)=true)(y1:PySem.W.findIn K (.ref C) "found"=some none)(hb:∀(kV doc pm:Value)(an:Option Addr)(cdv ct:Value)(us:List Value),us.length=2->bindArgs (PySem.W.fnOf "__init__" qual (Yj st) (ZJ st) (Zf st) .none kV doc pm an cdv ct) ⟨us,[]⟩=pure ((["self","found"]:List Str).zip us)):NoF K mg x qual st C Qa:=by
 have n1':PySem.W.nsOkIn K N=true:=by unfold PySem.W.nsOkIn;rw[n1];dsimp only;rw[<-Array.all_toList];exact n1e
 have F:=XO (st:=st) lf cc ck;have X:XK1 K mg x C fI Qa:=⟨⟨⟨nm,q,N,bs,sn,sub,ab,col,dd,k0,k1,k2,k3,k5,l,n1',n2⟩,tl,⟨_,lf,cf⟩,sa,ob⟩,⟨ga,gg,hd,be⟩,⟨nm,q,N,bs,_,true,sn,sub,ab,col,dd,k0,k1,k2,k3,k5,_,l,by rw[List.contains_cons];exact Bool.or_eq_true_iff.mpr (.inr (by decide))⟩,PySem.W.mg_of KX G a,kp⟩;exact⟨⟨fI,_,X,F,F.binds hb⟩,y1⟩
theorem tab_mk{K:PySem.W.Frag}{h:Heap}{mg:Str->Option Value}{C f1:Addr}{oc1:Value}{od1 an1:Option Addr}{osl1:Array (Option Value)}{kV1 doc1 pm1 cdv1 ct1:Value}(X:K.In h)(G:h.Ns mainGlobals mg)(aC:PySem.W.nsIn K mainGlobals "Table"=some (some (.ref C)))(pg:PySem.W.plainGet K C Str.empty=true)(hd:PySem.W.hasDictIn K C=true)(po:PySem.W.plainOver K C=true)(sa:PySem.W.findIn K (.ref C) "__setattr__"=some (some (.builtin "object.__setattr__")))(mk:PySem.W.makesIn K C=true)(kc:PySem.W.keepIn K (.ref C)=true)(y1:PySem.W.findIn K (.ref C) "turns"=some none)(y2:PySem.W.findIn K (.ref C) "places"=some none)(y3:PySem.W.findIn K (.ref C) "room_by_place"=some none)(y4:PySem.W.findIn K (.ref C) "rides"=some none)(y5:PySem.W.findIn K (.ref C) "ride_by_name"=some none)(y6:PySem.W.findIn K (.ref C) "ways"=some none)(y7:PySem.W.findIn K (.ref C) "way_by_name"=some none)(y8:PySem.W.findIn K (.ref C) "groups"=some none)(y9:PySem.W.findIn K (.ref C) "group_by_name"=some none)(a1:PySem.W.findIn K (.ref C) "__init__"=some (some (.ref f1)))(i1:PySem.W.isFn K (.ref f1)=true)(l1:K.lookup f1=some ⟨oc1,od1,.func (PySem.W.fnOf "__init__" "Table.__init__" (Yj T.m_Table___init__) (ZJ T.m_Table___init__) (Zf T.m_Table___init__) .none kV1 doc1 pm1 an1 cdv1 ct1),osl1⟩)(c1:PySem.W.codeIn K cdv1 "Table.__init__"=true)(k1:PySem.W.keepIn K (.ref f1)=true)(ms:Meths K C):∃C,TabF K mg C:=by have F:=XO (st:=T.m_Table___init__) l1 c1 k1;refine⟨C,⟨⟨pg,hd,po,sa⟩,λf hf=>?_⟩,⟨f1,_,⟨mk,a1,i1,kc⟩,F,F.binds λ_ _ _ _ _ _ us hl=>by obtain⟨_,_,_,_,_,_,rfl⟩:=len6 hl;rfl⟩,PySem.W.mg_of X G aC,ms⟩;unfold fields at hf;simp only[List.mem_cons,List.not_mem_nil,or_false]at hf;rcases hf with rfl|rfl|rfl|rfl|rfl|rfl|rfl|rfl|rfl<;>assumption
theorem kit_mk{K:PySem.W.Frag}{t:Value}{C:Addr}{b:Bool}(hne:(t==.ref C)=false)(hm:PySem.W.mroIn K C (.type "object")=some true)(ht:PySem.W.typeIn K (.ref C)=some (.type "type"))(hs:PySem.W.subIn K t (.ref C)=some b):PySem.W.kitOne K t (.ref C)=some b:=by
 have hc:(PySem.W.clsIn K C).isSome=true:=by
  unfold PySem.W.mroIn at hm;cases h:PySem.W.clsIn K C with
 |none=>rw[h]at hm;cases hm
 |some _=>rfl
 unfold PySem.W.kitOne PySem.W.kitCls;rw[if_neg (by rw[hne];exact Bool.false_ne_true)];dsimp only;rw[hc,ht,if_pos (by decide)];exact hs
theorem st_mk{K:PySem.W.Frag}{h:Heap}{mg:Str->Option Value}{x qual:Str}{st:Stmt}{ps:List Str}{C Cb f1:Addr}{oc1:Value}{od1 an1:Option Addr}{osl1:Array (Option Value)}{kV1 doc1 pm1 cdv1 ct1:Value}(X:K.In h)(G:h.Ns mainGlobals mg)(aC:PySem.W.nsIn K mainGlobals x=some (some (.ref C)))(pg:PySem.W.plainGet K C Str.empty=true)(hd:PySem.W.hasDictIn K C=true)(po:PySem.W.plainOver K C=true)(sa:PySem.W.findIn K (.ref C) "__setattr__"=some (some (.builtin "object.__setattr__")))(mk:PySem.W.makesIn K C=true)(kc:PySem.W.keepIn K (.ref C)=true)(y1:PySem.W.findIn K (.ref C) "its_key"=some none)(y2:PySem.W.findIn K (.ref C) "its_tail"=some none)(y3:PySem.W.findIn K (.ref C) "its_head"=some none)(y4:PySem.W.findIn K (.ref C) "its_room"=some none)(y5:PySem.W.findIn K (.ref C) "its_price"=some none)(a1:PySem.W.findIn K (.ref C) "__init__"=some (some (.ref f1)))(i1:PySem.W.isFn K (.ref f1)=true)(l1:K.lookup f1=some ⟨oc1,od1,.func (PySem.W.fnOf "__init__" qual (Yj st) (ZJ st) (Zf st) .none kV1 doc1 pm1 an1 cdv1 ct1),osl1⟩)(c1:PySem.W.codeIn K cdv1 qual=true)(k1:PySem.W.keepIn K (.ref f1)=true)(hb:∀(kV doc pm:Value)(an:Option Addr)(cdv ct:Value)(us:List Value),us.length=ps.length->bindArgs (PySem.W.fnOf "__init__" qual (Yj st) (ZJ st) (Zf st) .none kV doc pm an cdv ct) ⟨us,[]⟩=pure (ps.zip us))(ha:PySem.W.findIn K (.ref C) "__class__"=some (some (.builtin "object.__class__")))(hn:PySem.W.specialIn K (.builtin "object.__class__") "__get__"=some (some (.builtin "getset_descriptor.__get__")))(htk:PySem.W.takesIn K (.builtin "object.__class__")=some true)(hm:PySem.W.mroIn K C (.type "object")=some true)(ms:SMeths K C)(kb:PySem.W.kitOne K (.ref C) (.ref Cb)=some true):StF K mg x qual st ps C Cb:=by have F:=XO (st:=st) l1 c1 k1;refine⟨⟨⟨pg,hd,po,sa⟩,λf hf=>?_⟩,λH a dx fs e=>.ins e ⟨pg,hd,po,sa⟩ ha hn htk hm,⟨f1,_,⟨mk,a1,i1,kc⟩,F,F.binds hb⟩,PySem.W.mg_of X G aC,ms,kb⟩;unfold fnames at hf;simp only[List.mem_cons,List.not_mem_nil,or_false]at hf;rcases hf with rfl|rfl|rfl|rfl|rfl<;>assumption
theorem base_mk{K:PySem.W.Frag}{C f1:Addr}{oc1:Value}{od1 an1:Option Addr}{osl1:Array (Option Value)}{kV1 doc1 pm1 cdv1 ct1 mc:Value}(ga:PySem.W.specialIn K (.ref C) "__getattribute__"=some (some (.builtin "type.__getattribute__")))(rd:PySem.W.readsIn K C mc=true)(fc:PySem.W.findCls K (.ref C) mc "__init__"=some (.val (.ref f1)))(l1:K.lookup f1=some ⟨oc1,od1,.func (PySem.W.fnOf "__init__" "Step.__init__" (Yj T.m_Step___init__) (ZJ T.m_Step___init__) (Zf T.m_Step___init__) .none kV1 doc1 pm1 an1 cdv1 ct1),osl1⟩)(c1:PySem.W.codeIn K cdv1 "Step.__init__"=true)(k1:PySem.W.keepIn K (.ref f1)=true):∃f fd,Fun K "__init__" "Step.__init__" T.m_Step___init__ f fd/\BaseM K C "__init__" f/\Binds K fd ["self","key","tail","head","room","price"] []:=by have F:=XO (st:=T.m_Step___init__) l1 c1 k1;exact⟨f1,_,F,⟨ga,⟨mc,rd,fc⟩,k1⟩,F.binds λ_ _ _ _ _ _ us hl=>by obtain⟨_,_,_,_,_,_,rfl⟩:=len6 hl;rfl⟩
theorem walk{l:PySem.W.OpenLaw}{q:Program}{loose:List Str}{XP:(Str->Option Value)->Heap->Prop}{YP:World->Heap->Prop}{d:DefRec}{K:Params->PySem.W.Frag}(hn:l.most=some 63)(hdf:d.params.defaults=[])(hY:∀(w:World)(h:Heap),YP w h->(K w.params).In h)(F:∀(w:World)(mg:Str->Option Value)(fa:Addr)(h:Heap),(K w.params).In h->h.Ns mainGlobals mg->mg d.name=some (.ref fa) ->∃fd:FuncData,(∀(s:Shared)(u:Value),BindsTo s fd ⟨[u],[]⟩ [("_law_script",u)])/\∀base:Heap,(K w.params).In base->base.Ns mainGlobals mg->FnOk l.prog w (K w.params) mg base CX0 10 fa fd ["_law_script"] (Pe (K w.params))):PySem.W.WalkO q loose XP YP l.row.toRowW d [] (λf vs=>PySem.call f vs):=L2.walk_of (n:=63) (k:=10) (x:="_law_script") (CX:=λ_=>CX0) (sp:=λw=>Pe (K w.params)) hn (by decide) hdf ⟨rfl,by decide,by decide,rfl⟩ hY F (λ_ _ a ns hl _ hS=>⟨a,ns,rfl,hS,hl,λ_=>rfl⟩) λ_ _ _ _ _ z=>z
end SX
open PySem PySem.W PyProof.Rows
set_option hygiene false in
local macro_rules
|`(tactic| o_head $H)=>`(tactic| (
   refine holds_open (q:=RG.QV) (loose:=RG.LO) (Xt:=RG.XT) (XP:=XL RG.QV [])
    (Yf:=Hook.obs $H) (Ya:=Hook.val $H) (YP:=Hook.says $H) (N:=11032) ?hl (Hook.of $H) (Hook.keeps $H) (λs e=>xl_of s (Bool.and_eq_true_iff.mp e).1)
    XL.keeps (by rfl) (by rfl) (by rfl) (λs e=>recFacts_of (Bool.and_eq_true_iff.mp e).2) (by rfl) (by first|assumption|decide +kernel) (by decide +kernel)
    ⟨rfl,rfl,rfl,rfl,rfl,by decide +kernel⟩ ?hw ?hc
   case' hl=>exact RG.EI (by kernel_rfl) (λs=>by kernel_rfl) RG.kfE (λw=>rfl)))
set_option maxRecDepth 100000 in
set_option maxHeartbeats 0 in
theorem PySem.Challenge.cw_homequay_k11_each_step_holds : PySem.Challenge.rw_homequay_k11_each_step.Holds := by
 w_on;o_law;o_head (kHook RG.hk.heap_39 RG.AS RG.eK);(case hw=>w_witness2);k_fill;refine SX.walk (l:=PySem.Challenge.rw_homequay_k11_each_step) rfl rfl (λw h Y=>PySem.W.kIn_of Y) ?F;case F=>
  intro w mg fa h KX G hmg;have D:SX.Defs (L2.KOf KX) mg:=by dsimp only[L2.KOf];constructor<;>(refine' L2.EW KX G ?a ?l ?c ?k ?b;(case a=>k_is);(case l=>k_is);(case c=>k_is);(case k=>k_is);(case b=>exact λ_ _ _ _ _ _ us hl=>by first|(obtain⟨_,rfl⟩:=L2.len1 hl;rfl)|(obtain⟨_,_,rfl⟩:=L2.len2 hl;rfl)|(obtain⟨_,_,_,rfl⟩:=L2.len3 hl;rfl)|(obtain⟨_,_,_,_,rfl⟩:=L2.len4 hl;rfl)|(obtain⟨_,_,_,_,_,rfl⟩:=L2.len5 hl;rfl)))
  have B:∀x∈WD.Blts,mg x=none:=by intro x hx;unfold WD.Blts at hx;simp only[List.mem_cons,List.not_mem_nil,or_false]at hx;rcases hx with rfl|rfl|rfl|rfl|rfl|rfl|rfl|rfl|rfl|rfl|rfl|rfl|rfl<;>(refine' PySem.W.mg_none_of KX G ?a;(case a=>k_is))
  have W:K1.Txt (L2.KOf KX) mg:=by constructor<;>((first|refine' PySem.W.mg_none_of KX G ?a|refine' L2.str_mk KX G ?a|refine' L2.int_mk KX G ?a);(case a=>k_is))
  have Gt:TB.Txt (L2.KOf KX) mg:=by constructor<;>((first|refine' PySem.W.mg_none_of KX G ?a|refine' L2.str_mk KX G ?a|refine' L2.int_mk KX G ?a);(case a=>k_is))
  have Zs:TB.Sizes (L2.KOf KX) w mg:=by refine⟨?_⟩;dsimp only[L2.KOf];refine' L2.RW KX G ?a ?l ?k ?h1 ?h2 ?h3 ?h4;(case a=>k_is);(case l=>k_is);(case k=>k_keys);(case h1=>k_is);(case h2=>k_is);(case h3=>k_is);(case h4=>k_is)
  have Zm:TB.Mosts (L2.KOf KX) w mg:=by refine⟨?_⟩;dsimp only[L2.KOf];refine' L2.RW KX G ?a ?l ?k ?h1 ?h2 ?h3 ?h4;(case a=>k_is);(case l=>k_is);(case k=>k_keys);(case h1=>k_is);(case h2=>k_is);(case h3=>k_is);(case h4=>k_is)
  have hb:∃C,SX.BadF (L2.KOf KX) mg C:=by dsimp only[L2.KOf];refine' SX.bad_mk KX G ?a ?l ?n1 ?n1e ?n2 ?lq ?eq ?nq ?nqe ?iq ?lf ?cf ?cc ?ck ?sa ?ob ?ga ?gg ?hd ?be ?kp ?y1 ?y2 ?y3;(case a=>k_is);(case l=>k_is);(case n1=>k_is);(case n1e=>rfl);(case n2=>k_is);(case lq=>k_is);(case eq=>rfl);(case nq=>k_is);(case nqe=>rfl);(case iq=>k_is);(case lf=>k_is);(case cf=>rfl);(case cc=>k_is);(case ck=>k_is);(case sa=>k_is);(case ob=>k_is);(case ga=>k_is);(case gg=>k_is);(case hd=>k_is);(case be=>k_is);(case kp=>k_is);(case y1=>k_is);(case y2=>k_is);(case y3=>k_is)
  have hn:∃Cn Qa,SX.NoF (L2.KOf KX) mg "NoStep" "NoStep.__init__" T.m_NoStep___init__ Cn Qa:=by
   dsimp only[L2.KOf];refine' ⟨_,_,SX.no_one KX G ?a ?l ?n1 ?n1e ?n2 ?tl ?lf ?cf ?cc ?ck ?sa ?ob ?ga ?gg ?hd ?be ?kp ?y1 ?bb⟩;(case a=>k_is);(case l=>k_is);(case n1=>k_is);(case n1e=>rfl);(case n2=>k_is);(case lf=>k_is);(case cf=>rfl);(case cc=>k_is);(case ck=>k_is);(case sa=>k_is);(case ob=>k_is);(case ga=>k_is);(case gg=>k_is);(case hd=>k_is);(case be=>k_is);(case kp=>k_is);(case y1=>k_is);(case bb=>exact λ_ _ _ _ _ _ us hl=>by obtain⟨_,_,rfl⟩:=L2.len2 hl;rfl);(case tl=>refine' SX.tail_mk ?lq ?eq ?nq ?nqe ?iq;(case lq=>k_is);(case eq=>rfl);(case nq=>k_is);(case nqe=>rfl);(case iq=>k_is))
  have ht:∃C,SX.TabF (L2.KOf KX) mg C:=by dsimp only[L2.KOf];refine' SX.tab_mk KX G ?aC ?pg ?hd ?po ?sa ?mk ?kc ?y1 ?y2 ?y3 ?y4 ?y5 ?y6 ?y7 ?y8 ?y9 ?a1 ?i1 ?l1 ?c1 ?k1 ?ms;(case aC=>k_is);(case pg=>k_is);(case hd=>k_is);(case po=>k_is);(case sa=>k_is);(case mk=>k_is);(case kc=>k_is);(case y1=>k_is);(case y2=>k_is);(case y3=>k_is);(case y4=>k_is);(case y5=>k_is);(case y6=>k_is);(case y7=>k_is);(case y8=>k_is);(case y9=>k_is);(case a1=>k_is);(case i1=>k_is);(case l1=>k_is);(case c1=>k_is);(case k1=>k_is);(case ms=>constructor<;>(refine' L2.Mg ?za ?zi ?zl ?zc ?zk ?zb;(case za=>k_is);(case zi=>k_is);(case zl=>k_is);(case zc=>k_is);(case zk=>k_is);(case zb=>exact λ_ _ _ _ _ _ us hl=>by first|(obtain⟨_,rfl⟩:=L2.len1 hl;rfl)|(obtain⟨_,_,rfl⟩:=L2.len2 hl;rfl)|(obtain⟨_,_,_,rfl⟩:=L2.len3 hl;rfl)|(obtain⟨_,_,_,_,rfl⟩:=L2.len4 hl;rfl)|(obtain⟨_,_,_,_,_,rfl⟩:=L2.len5 hl;rfl))))
  have hS:∃c0 c1 c2 c3 cb,SX.AllSt (L2.KOf KX) mg c0 c1 c2 c3 cb:=by
   dsimp only[L2.KOf];refine' ⟨_,_,_,_,_,⟨SX.st_mk KX G ?aC_0 ?pg_0 ?hd_0 ?po_0 ?sa_0 ?mk_0 ?kc_0 ?y1_0 ?y2_0 ?y3_0 ?y4_0 ?y5_0 ?a1_0 ?i1_0 ?l1_0 ?c1_0 ?k1_0 ?bb_0 ?ha_0 ?hn_0 ?htk_0 ?hm_0 ?ms_0 (SX.kit_mk ?e_0b ?m_b ?t_b ?u_0b),SX.st_mk KX G ?aC_1 ?pg_1 ?hd_1 ?po_1 ?sa_1 ?mk_1 ?kc_1 ?y1_1 ?y2_1 ?y3_1 ?y4_1 ?y5_1 ?a1_1 ?i1_1 ?l1_1 ?c1_1 ?k1_1 ?bb_1 ?ha_1 ?hn_1 ?htk_1 ?hm_1 ?ms_1 (SX.kit_mk ?e_1b ?m_b ?t_b ?u_1b),SX.st_mk KX G ?aC_2 ?pg_2 ?hd_2 ?po_2 ?sa_2 ?mk_2 ?kc_2 ?y1_2 ?y2_2 ?y3_2 ?y4_2 ?y5_2 ?a1_2 ?i1_2 ?l1_2 ?c1_2 ?k1_2 ?bb_2 ?ha_2 ?hn_2 ?htk_2 ?hm_2 ?ms_2 (SX.kit_mk ?e_2b ?m_b ?t_b ?u_2b),SX.st_mk KX G ?aC_3 ?pg_3 ?hd_3 ?po_3 ?sa_3 ?mk_3 ?kc_3 ?y1_3 ?y2_3 ?y3_3 ?y4_3 ?y5_3 ?a1_3 ?i1_3 ?l1_3 ?c1_3 ?k1_3 ?bb_3 ?ha_3 ?hn_3 ?htk_3 ?hm_3 ?ms_3 (SX.kit_mk ?e_3b ?m_b ?t_b ?u_3b),?kk_0,SX.kit_mk ?e_10 ?hm_0 ?t_0 ?u_10,SX.kit_mk ?e_20 ?hm_0 ?t_0 ?u_20,SX.kit_mk ?e_30 ?hm_0 ?t_0 ?u_30,SX.kit_mk ?e_01 ?hm_1 ?t_1 ?u_01,?kk_1,SX.kit_mk ?e_21 ?hm_1 ?t_1 ?u_21,SX.kit_mk ?e_31 ?hm_1 ?t_1 ?u_31,SX.kit_mk ?e_02 ?hm_2 ?t_2 ?u_02,SX.kit_mk ?e_12 ?hm_2 ?t_2 ?u_12,?kk_2,SX.kit_mk ?e_32 ?hm_2 ?t_2 ?u_32,SX.kit_mk ?e_03 ?hm_3 ?t_3 ?u_03,SX.kit_mk ?e_13 ?hm_3 ?t_3 ?u_13,SX.kit_mk ?e_23 ?hm_3 ?t_3 ?u_23,?kk_3,SX.base_mk (mc:=.type "type") ?bga ?brd ?bfc ?bl1 ?bc1 ?bk1,PySem.W.mg_of KX G ?mb⟩⟩;(case aC_0=>k_is);(case pg_0=>k_is);(case hd_0=>k_is);(case po_0=>k_is);(case sa_0=>k_is);(case mk_0=>k_is);(case kc_0=>k_is);(case y1_0=>k_is);(case y2_0=>k_is);(case y3_0=>k_is);(case y4_0=>k_is);(case y5_0=>k_is);(case a1_0=>k_is);(case i1_0=>k_is);(case l1_0=>k_is);(case c1_0=>k_is);(case k1_0=>k_is);(case ha_0=>k_is);(case hn_0=>k_is);(case htk_0=>k_is);(case hm_0=>k_is);(case bb_0=>exact λ_ _ _ _ _ _ us hl=>by first|(obtain⟨_,rfl⟩:=L2.len1 hl;rfl)|(obtain⟨_,_,rfl⟩:=L2.len2 hl;rfl)|(obtain⟨_,_,_,rfl⟩:=L2.len3 hl;rfl)|(obtain⟨_,_,_,_,rfl⟩:=L2.len4 hl;rfl)|(obtain⟨_,_,_,_,_,rfl⟩:=L2.len5 hl;rfl))
   (case ms_0=>constructor<;>(refine' L2.Mg ?za ?zi ?zl ?zc ?zk ?zb;(case za=>k_is);(case zi=>k_is);(case zl=>k_is);(case zc=>k_is);(case zk=>k_is);(case zb=>exact λ_ _ _ _ _ _ us hl=>by first|(obtain⟨_,rfl⟩:=L2.len1 hl;rfl)|(obtain⟨_,_,rfl⟩:=L2.len2 hl;rfl)|(obtain⟨_,_,_,rfl⟩:=L2.len3 hl;rfl)|(obtain⟨_,_,_,_,rfl⟩:=L2.len4 hl;rfl)|(obtain⟨_,_,_,_,_,rfl⟩:=L2.len5 hl;rfl))))
   (case aC_1=>k_is);(case pg_1=>k_is);(case hd_1=>k_is);(case po_1=>k_is);(case sa_1=>k_is);(case mk_1=>k_is);(case kc_1=>k_is);(case y1_1=>k_is);(case y2_1=>k_is);(case y3_1=>k_is);(case y4_1=>k_is);(case y5_1=>k_is);(case a1_1=>k_is);(case i1_1=>k_is);(case l1_1=>k_is);(case c1_1=>k_is);(case k1_1=>k_is);(case ha_1=>k_is);(case hn_1=>k_is);(case htk_1=>k_is);(case hm_1=>k_is);(case bb_1=>exact λ_ _ _ _ _ _ us hl=>by first|(obtain⟨_,rfl⟩:=L2.len1 hl;rfl)|(obtain⟨_,_,rfl⟩:=L2.len2 hl;rfl)|(obtain⟨_,_,_,rfl⟩:=L2.len3 hl;rfl)|(obtain⟨_,_,_,_,rfl⟩:=L2.len4 hl;rfl)|(obtain⟨_,_,_,_,_,rfl⟩:=L2.len5 hl;rfl))
   (case ms_1=>constructor<;>(refine' L2.Mg ?za ?zi ?zl ?zc ?zk ?zb;(case za=>k_is);(case zi=>k_is);(case zl=>k_is);(case zc=>k_is);(case zk=>k_is);(case zb=>exact λ_ _ _ _ _ _ us hl=>by first|(obtain⟨_,rfl⟩:=L2.len1 hl;rfl)|(obtain⟨_,_,rfl⟩:=L2.len2 hl;rfl)|(obtain⟨_,_,_,rfl⟩:=L2.len3 hl;rfl)|(obtain⟨_,_,_,_,rfl⟩:=L2.len4 hl;rfl)|(obtain⟨_,_,_,_,_,rfl⟩:=L2.len5 hl;rfl))))
   (case aC_2=>k_is);(case pg_2=>k_is);(case hd_2=>k_is);(case po_2=>k_is);(case sa_2=>k_is);(case mk_2=>k_is);(case kc_2=>k_is);(case y1_2=>k_is);(case y2_2=>k_is);(case y3_2=>k_is);(case y4_2=>k_is);(case y5_2=>k_is);(case a1_2=>k_is);(case i1_2=>k_is);(case l1_2=>k_is);(case c1_2=>k_is);(case k1_2=>k_is);(case ha_2=>k_is);(case hn_2=>k_is);(case htk_2=>k_is);(case hm_2=>k_is);(case bb_2=>exact λ_ _ _ _ _ _ us hl=>by first|(obtain⟨_,rfl⟩:=L2.len1 hl;rfl)|(obtain⟨_,_,rfl⟩:=L2.len2 hl;rfl)|(obtain⟨_,_,_,rfl⟩:=L2.len3 hl;rfl)|(obtain⟨_,_,_,_,rfl⟩:=L2.len4 hl;rfl)|(obtain⟨_,_,_,_,_,rfl⟩:=L2.len5 hl;rfl))
   (case ms_2=>constructor<;>(refine' L2.Mg ?za ?zi ?zl ?zc ?zk ?zb;(case za=>k_is);(case zi=>k_is);(case zl=>k_is);(case zc=>k_is);(case zk=>k_is);(case zb=>exact λ_ _ _ _ _ _ us hl=>by first|(obtain⟨_,rfl⟩:=L2.len1 hl;rfl)|(obtain⟨_,_,rfl⟩:=L2.len2 hl;rfl)|(obtain⟨_,_,_,rfl⟩:=L2.len3 hl;rfl)|(obtain⟨_,_,_,_,rfl⟩:=L2.len4 hl;rfl)|(obtain⟨_,_,_,_,_,rfl⟩:=L2.len5 hl;rfl))))
   (case aC_3=>k_is);(case pg_3=>k_is);(case hd_3=>k_is);(case po_3=>k_is);(case sa_3=>k_is);(case mk_3=>k_is);(case kc_3=>k_is);(case y1_3=>k_is);(case y2_3=>k_is);(case y3_3=>k_is);(case y4_3=>k_is);(case y5_3=>k_is);(case a1_3=>k_is);(case i1_3=>k_is);(case l1_3=>k_is);(case c1_3=>k_is);(case k1_3=>k_is);(case ha_3=>k_is);(case hn_3=>k_is);(case htk_3=>k_is);(case hm_3=>k_is);(case bb_3=>exact λ_ _ _ _ _ _ us hl=>by first|(obtain⟨_,rfl⟩:=L2.len1 hl;rfl)|(obtain⟨_,_,rfl⟩:=L2.len2 hl;rfl)|(obtain⟨_,_,_,rfl⟩:=L2.len3 hl;rfl)|(obtain⟨_,_,_,_,rfl⟩:=L2.len4 hl;rfl)|(obtain⟨_,_,_,_,_,rfl⟩:=L2.len5 hl;rfl))
   (case ms_3=>constructor<;>(refine' L2.Mg ?za ?zi ?zl ?zc ?zk ?zb;(case za=>k_is);(case zi=>k_is);(case zl=>k_is);(case zc=>k_is);(case zk=>k_is);(case zb=>exact λ_ _ _ _ _ _ us hl=>by first|(obtain⟨_,rfl⟩:=L2.len1 hl;rfl)|(obtain⟨_,_,rfl⟩:=L2.len2 hl;rfl)|(obtain⟨_,_,_,rfl⟩:=L2.len3 hl;rfl)|(obtain⟨_,_,_,_,rfl⟩:=L2.len4 hl;rfl)|(obtain⟨_,_,_,_,_,rfl⟩:=L2.len5 hl;rfl))))
   (case mb=>k_is);(case m_b=>k_is);(case t_b=>k_is);(case t_0=>k_is);(case t_1=>k_is);(case t_2=>k_is);(case t_3=>k_is);(case kk_0=>unfold PySem.W.kitOne;rw[if_pos (by simp)]);(case kk_1=>unfold PySem.W.kitOne;rw[if_pos (by simp)]);(case kk_2=>unfold PySem.W.kitOne;rw[if_pos (by simp)]);(case kk_3=>unfold PySem.W.kitOne;rw[if_pos (by simp)]);(case e_01=>decide);(case u_01=>k_is);(case e_02=>decide);(case u_02=>k_is);(case e_03=>decide);(case u_03=>k_is);(case e_0b=>decide);(case u_0b=>k_is);(case e_10=>decide);(case u_10=>k_is);(case e_12=>decide);(case u_12=>k_is);(case e_13=>decide);(case u_13=>k_is);(case e_1b=>decide);(case u_1b=>k_is);(case e_20=>decide);(case u_20=>k_is);(case e_21=>decide);(case u_21=>k_is);(case e_23=>decide);(case u_23=>k_is);(case e_2b=>decide);(case u_2b=>k_is);(case e_30=>decide);(case u_30=>k_is);(case e_31=>decide);(case u_31=>k_is);(case e_32=>decide);(case u_32=>k_is);(case e_3b=>decide);(case u_3b=>k_is);(case bga=>k_is);(case brd=>k_is);(case bfc=>k_is);(case bl1=>k_is);(case bc1=>k_is);(case bk1=>k_is)
  refine' SX.law_fd KX G hmg W Gt Zs Zm B D ht hb hn hS ?fa ?fl ?fc ?fk;(case fa=>k_is);(case fl=>k_is);(case fc=>k_is);(case fk=>k_is)
