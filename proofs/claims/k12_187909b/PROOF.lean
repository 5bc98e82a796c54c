import PyProof.Rows.All
import Wide.All
import OpenK.AllK
import Wide.FinOn
import Lean
import PyProof.EqAt
import PyProof.EqKinds
import PyProof.TupleCall
import KE.KIntText
import KE.IntTextLaws
import PyProof.ExcClass3
import PyProof.InstStoreFacts
import PyProof.ExcBaseAll.ValueError
import PyProof.NsDelKeeps
import PyProof.ExcAttrAll.ValueError
import OpenK.KTop
import PyProof.ZipIter
import PyProof.ListNew
import PyProof.ListRange
import PyProof.ReprRoads
import PyProof.Rows.FactsT3
import PyProof.Rows.SumAny
import PyProof.CompUse
import PyProof.EqLayable
import PyProof.CallFns
import PyProof.StrBlock
import PyProof.EnumMake
import PyProof.ReprLen
import PyProof.DictWalks
import PySem.Challenge.RW_homequay_k12_all_steps
open PySem.W renaming Frag→aa,kitOne→ak,findIn→ax,keepIn→aU,nsIn→bc,fnOf→bf,kia_one→bH,emptyDict→bP,codeIn→b7,instObj→cA,hasDictIn→cD,mg_of→cO,kia_tup→c_,mroIn→da,plainGet→dj,callWith_K→dA,methodCall_KW→dH,isFn→dQ,tailIn→dW,nsOkIn→dX,mg_none_of→dY,specialIn→ej,plainOver→eB,makesIn→ft,hideAll→fv,lookIn→fK,hideAll_none→fM,plainGet_of→fS,methodObj→gq,kitx_list→gu,kitx_dict→gv,takerIn→gP,OpenLaw→gQ,kitAny→g8
open PySem renaming wpAny_bind→ae,Shared→ag,wpAny_pure→ao,Spec→az,starEach→aD,mainGlobals→aR,Around→aX,wpAny_field→bt,wpAny_holding→bz,OsState→bB,boot_len→bC,compareOp→bE,bootBuiltins→bF,wpAny_truthy_bool→bJ,FuncData→bN,wpAny_callSpecial?_slot→bR,rawInt→bU,wpAny_setField→bW,wpAny_newObj_type→bX,wpAny_call_entry→cj,backTo→cw,binaryOp→cJ,assignEach→cL,Paired→cU,mem_of_lookup→cV,wpAny_mono→c5,sysModules→c7,wpAny_typeNameOfWhole_itemiter→df,keywordEach→dh,wpAny_Call_Name_kw→di,behindInMarks→dk,Within→dq,wpAny_loadPart_at→dr,NameKind→dz,DictEntry→dB,attributeBase→dE,Builtin→dG,wpAny_getItem_str_slice→dJ,plainObj_wpAny_Assign_Attribute→dR,wpAny_standAt→d5,backToKw→d8,sliceBounds→d9,sizeLine_eq→d_,wpAny_passesOwn→eI,holding→eR,swapsWith→eZ,getMethod→e_,wpAny_seqItems→fo,codeAny→fC,wpAny_pyIter_enum→fE,foldedSetIterable→fF,pyNext→fH,wpAny_attempt→fJ,ZipApart→fQ,tupleKind→fR,codeAny_mono→fX,wpAny_nextOf_list_item→fY,wpAny_isOneOf_itemiter→fZ,wpAny_updateSeq→f9,wpAny_specialOf→f_,wpAny_loadPart'→gf,post_val_or_str→gh,letOwnedTupleGo→gi,Thread→gC,IsPair→gD,callWith→gF,strIterType→gG,firstArgMember→gH,standAt→gI,typeLookup→gX,call_meets→gY,wpAny_pyIter_tuple→gZ,tupleKind_room_in1→g7
open PySem.Challenge renaming pw_homequay_k12_all_steps→af,rw_homequay_k12_all_steps→bL
open List renaming getElem?_map→ah,getElem?_eq_some_iff→aj,mem_map→aq,size_toArray→au,mem_cons_of_mem→av,length_take→aw,length_append→ay,mem_cons→aA,mem_cons_self→aB,map_append→aE,take_length→aF,getElem_mem→aG,not_mem_nil→aJ,mem_of_getElem?→aK,map_cons→aL,length_cons→aN,take_of_length_le→aO,mem_append→aP,mem_singleton→aQ,append_nil→aT,take_succ→aV,mem_append_right→aW,range→aY,length_map→aZ,getElem?_append_left→a8,mem_iff_getElem?→bh,getD_eq_getElem?_getD→bj,mem_append_left→bp,length_filter_le→bu,getElem?_append_right→bD,append_assoc→bG,map_map→bI,length_range→bS,length_zip→bV,all_eq_true→bZ,mem_range→b_,nodup_cons→cu,drop_eq_getElem_cons→cF,mem_flatMap→cY,lookup_cons→cZ,mem_filter→dg,mem_of_mem_take→dm,of_mem_zip→dC,find?_cons→dD,getElem?_set_self→dI,lookup→dM,getElem?_set_ne→dN,range_succ→dS,filterMap_cons→dZ,map_nil→d6,zip_cons_cons→eF,filter_append→eG,take_sublist→eS,nodup_append→eU,sum_cons→fe,any_cons→ff,getElem?_take_of_lt→fh,getElem_map→fw,getElem_inj→fz,length_pos_of_mem→fG,length_set→fL,pairwise_flatMap→fO,getElem?_eq_none→fP,nodup_nil→fT,drop_zero→fU,pairwise_append→fV,drop_eq_nil_iff→fW,map_congr_left→gk,contains_cons→gB,pairwise_map→gK,getElem?_inj→gL,ext_getElem?→gM,length_drop→gR,getElem_zip→gS,cons_append→gT,eq_nil_of_length_eq_zero→g9
open Option.some renaming inj→ar
open PySem.W.Fast renaming tw5923862056798008813→aH,tw4187177175401517315→aI
open Option renaming map_eq_some_iff→a9,map_some→cC,isSome_iff_exists→dw,toList_some→gj
open PySem.Builtin.SmallTypes renaming nextOf→a_,ownedTupleIsFree→bY
open PySem.Builtin renaming bitAnd→bg
open PyProof.Rows renaming boot_isinstance→bo,callWith_type1→br,envOfC→de,AllBare→fD,boot_repr→gU
open PySem.PassesOwn renaming never→bq,leaving→d7
open Or renaming inl→bw,inr→cQ
open Ne renaming symm→bA
open True renaming intro→bK
open PySem.NameKind renaming free→bO,cell→eh
open False renaming elim→bQ
open PySem.F renaming plainAttrs_list→cg,type_list_extend→eN,slot_list_extend→eO,args_tuple_add_2→eQ,entry_tuple_add→eV,slot_tuple_add→fq
open Sum renaming inr→cq,inl→gO
open PySem.Paired renaming length→cv,snoc→fN
open PySem.Builtin.ObjectAttr renaming storeInDict→cz,newKeyGuard→fA
open PySem.SeqAt renaming shaped→cM
open PySem.Builtin.List renaming listExtendWith→c8,listTooLong→dU,listSameRef→gN,listItems→gW
open PySem.Builtin.Str renaming strSliceIndices→c9,occurrences→gV
open ForInStep renaming yield→du
open Array renaming getElem?_eq_getElem→dv,length_toList→f6
open Prod.mk renaming injEq→eJ
open PySem.WalksT renaming enumerateD→eM
open PySem.Builtin.Dict_items renaming pairFromOwner→fj
open PySem.Calls renaming callWith_builtin→fB
open PySem.StrLaws renaming glued_eq_join→gm
open PySem.Around renaming under→gA
open PySem in
abbrev q_b:Str:="_law_box_here"
open PySem in
abbrev q_w:Str:="_law_world_here"
open PySem in
abbrev q_p:Str:="_law_places_here"
open PySem in
abbrev q_s:Str:="_law_strange"
open PySem in
abbrev q_n:Str:="_law_name_here"
open PySem in
abbrev q_t:Str:="_law_table_here"
namespace RG
open PySem PySem.W PyProof.Rows
noncomputable def runG(thr ok:gC->Bool)(st:SharedT->gC->Option (SharedT×gC))(n:Nat):SharedT->gC->Option SharedT:=@Nat.rec (λ_=>SharedT->gC->Option SharedT) (λ_ _=>none) (λ_ ih s t=>@Bool.rec (λ_=>Option SharedT) (@Bool.rec (λ_=>Option SharedT) none (@Option.rec (SharedT×gC) (λ_=>Option SharedT) none (λx=>@Prod.rec SharedT gC (λ_=>Option SharedT) (λs' t'=>ih s' t') x) (st s t)) (ok t)) (some s) (thr t)) n
theorem Q0{tb:String->Option dG}{p:Program}{w:World}{m:Nat}{ann:Option Value}:∀{n:Nat}{s r:SharedT}{t:gC},runG through (stepOk m ann) (stepT (denote tb) p w) n s t=some r->topRun tb p w m ann n s.abs t=some r.abs
|0,_,_,_,h=>by cases h
|n+1,s,r,t,h=>by
  have h':@Bool.rec (λ_=>Option SharedT) (@Bool.rec (λ_=>Option SharedT) none (@Option.rec (SharedT×gC) (λ_=>Option SharedT) none (λx=>@Prod.rec SharedT gC (λ_=>Option SharedT) (λs' t'=>runG through (stepOk m ann) (stepT (denote tb) p w) n s' t') x) (stepT (denote tb) p w s t)) (stepOk m ann t)) (some s) (through t)=some r:=h;unfold topRun;cases ht:through t with
 |true=>rw[ht]at h';cases h';rfl
 |false=>
   rw[ht]at h';cases ho:stepOk m ann t with
  |false=>rw[ho]at h';cases h'
  |true=>
    rw[ho]at h';cases hs:stepT (denote tb) p w s t with
   |none=>rw[hs]at h';cases h'
   |some x=>obtain⟨s',t'⟩:=x;rw[hs]at h';rw[stepT_spec hs];exact Q0 (n:=n) h'
noncomputable def mkT(l:List Obj):BT:=(l.foldl (λ(x:BT×Nat)o=>(x.1.ins x.2 o,x.2+1)) (BT.nil,0)).1
noncomputable def T0(w:World)(os:bB):SharedT:=⟨mkT (boot_heap w.params).objs.toList,11,(boot_heap w.params).life,⟨[]⟩,boot_drawn,boot_toks,os⟩
theorem EV(w:World)(os:bB):(T0 w os).abs=⟨boot_heap w.params,⟨[]⟩,boot_drawn,boot_toks,os⟩:=by kernel_rfl
theorem sz(w:World):((boot_heap w.params).isNs aR&&((⟨[]⟩:Array GenState).size==0),(boot_heap w.params).objs.size,(boot_heap w.params).nsMap aR "__annotations__")=(true,11,some (.ref 6)):=by kernel_rfl
noncomputable def go(p:Program)(n:Nat)(w:World)(os:bB):Option SharedT:=runG through (PySem.W.Fast.tw6613529449190102663 11 (some (.ref 6))) (PySem.W.Fast.tw10156331382660048174 (PySem.W.Fast.tw11892475500146522536 PySem.W.Fast.tw14364793385576792824) p w) n (T0 w os) (topStub p)
theorem go_eq(p:Program)(n:Nat)(w:World)(os:bB):go p n w os=runG through (stepOk 11 (some (.ref 6))) (stepT (denote treeTable) p w) n (T0 w os) (topStub p):=by unfold go;rw[PySem.W.Fast.te6613529449190102663,PySem.W.Fast.te10156331382660048174,PySem.W.Fast.te11892475500146522536,PySem.W.Fast.te14364793385576792824]
noncomputable def chk(p:Program)(w:World)(s:ag):Bool:=staticsOk (importedModules p.main.body) (boot_heap w.params) s.heap&&namesBound p s.heap&&gensDone s&&laidKept (boot_heap w.params) s.heap
noncomputable def lk(p:Program){α:Type}(F:ag->α)(n:Nat)(w:World)(os:bB):Option α:=@Option.rec SharedT (λ_=>Option α) none (λr=>some (F r.abs)) (go p n w os)
noncomputable abbrev lkS(p q:Program)(loose:List Str)(Xt:ag->Bool)(n:Nat)(w:World)(os:bB):=lk p (λs=>(chk p w s,aI q loose (aH p.main.body) Xt true s)) n w os
theorem left{p q:Program}{loose:List Str}{Xt:ag->Bool}{α:Type}{Yf:ag->α}{Ya:World->α}{N:Nat}(row:String)(e1:opening p=plainProg p.main.scope.names)(e2:Nat.ble 600 N=true)(e3:∀s:ag,fenceModules? p s=some s)(hf:∀(w:World)(os:bB),lkS p q loose Xt N (w.withFollow row false) os=some (true,openGood q loose))(ht:∀(w:World)(os:bB),lkS p q loose Xt N (w.withFollow row true) os=some (true,openGood q loose))(kf:∀(w:World)(os:bB),lk p Yf N (w.withFollow row false) os=some (Ya (w.withFollow row false)))(kt:∀(w:World)(os:bB),lk p Yf N (w.withFollow row true) os=some (Ya (w.withFollow row true))):LeftO p q loose Xt Yf Ya N:=λw=>by
 have hw:∀os:bB,lkS p q loose Xt N w os=some (true,openGood q loose):=byRow2 row (P:=λw=>∀os:bB,lkS p q loose Xt N w os=some (true,openGood q loose)) hf ht w;have kw:∀os:bB,lk p Yf N w os=some (Ya w):=byRow2 row (P:=λw=>∀os:bB,lk p Yf N w os=some (Ya w)) kf kt w;obtain⟨⟨h,gs,d,k,os⟩,e,e'⟩:=a9.mp (boot_open e1 e2 e3 w);obtain⟨rfl,rfl,rfl,rfl⟩:h=boot_heap w.params/\gs=⟨[]⟩/\d=boot_drawn/\k=boot_toks:=by simpa using e'
 obtain⟨z1,z2,z3⟩:_/\_/\_:=by simpa only[eJ]using sz w
 have hl:=hw os;have kl:=kw os;unfold lkS lk at hl;unfold lk at kl;rw[<-PySem.W.Fast.te4187177175401517315,<-PySem.W.Fast.te5923862056798008813]at hl;cases hg:go p N w os with
|none=>rw[hg]at hl;cases hl
|some r=>
  rw[hg]at hl kl;have hl':(chk p w r.abs,openSeen q loose (importedModules p.main.body) Xt true r.abs)=(true,openGood q loose):=ar hl;have kl':Yf r.abs=Ya w:=ar kl;obtain⟨l1,l2⟩:=Prod.mk.inj hl';rw[go_eq]at hg;have hr:=Q0 hg;rw[EV]at hr;have t:topFrom treeTable p w N ⟨boot_heap w.params,⟨[]⟩,boot_drawn,boot_toks,os⟩=some r.abs:=by
   unfold topFrom;dsimp only;rw[z1,z2,z3,hr];show(match chk p w r.abs with|true=>some r.abs|false=>none)=_
   rw[l1]
  unfold openEnds;rw[e];show(topFrom treeTable p w N _).map _=_;rw[t];exact congrArg some (Prod.ext l2 kl')
end RG
set_option Elab.async false
set_option linter.all false
set_option maxRecDepth 100000
set_option maxHeartbeats 4000000
namespace RG
open PySem PySem.W PyProof.Rows
noncomputable def tp(i:Nat):Stmt:=af.main.body.getD i (.Pass ⟨0,0,0,0⟩)
noncomputable def QV:Program:={af with main:={af.main with body:=[tp 0,tp 2,tp 3,tp 4,tp 5,tp 6,tp 8,tp 9,tp 10,tp 11,tp 12,tp 13,tp 14,tp 15,tp 16,tp 17,tp 19,tp 20,tp 21,tp 22,tp 23,tp 24,tp 25,tp 26,tp 27,tp 28,tp 30,tp 31,tp 32,tp 33,tp 34,tp 35,tp 36,tp 37,tp 38,tp 39,tp 40,tp 41,tp 42,tp 43,tp 44,tp 45,tp 47,tp 48,tp 49,tp 50,tp 51,tp 52,tp 53,tp 54,tp 55,tp 56,tp 57,tp 58,tp 59,tp 60,tp 61,tp 62,tp 63,tp 64]}}
noncomputable abbrev LO:List Str:=["MOST_ROWS","ROW_SIZES"]
noncomputable abbrev XT:ag->Bool:=λs=>xlAt QV [] s&&recOk (RowW.records (OpenRow.toRowW (bL.row))) s
noncomputable def p1{α β:Type}(x:α×β):α:=@Prod.rec α β (λ_=>α) (λa _=>a) x
noncomputable def p2{α β:Type}(x:α×β):β:=@Prod.rec α β (λ_=>β) (λ_ b=>b) x
theorem u5(w:World)(os:bB):lk af (λs=>p1 (p2 (p2 (p2 (p2 (p2 (aI QV LO (aH af.main.body) XT true s))))))) 12000 (w.withFollow "special-get-raises" false) os=some ((openGood QV LO).2.2.2.2.2.1):=by kernel_rfl
theorem u2(w:World)(os:bB):lk af (λs=>p1 (p2 (p2 (aI QV LO (aH af.main.body) XT true s)))) 12000 (w.withFollow "special-get-raises" false) os=some ((openGood QV LO).2.2.1):=by kernel_rfl
theorem u0(w:World)(os:bB):lk af (λs=>p1 (aI QV LO (aH af.main.body) XT true s)) 12000 (w.withFollow "special-get-raises" false) os=some ((openGood QV LO).1):=by kernel_rfl
theorem u3(w:World)(os:bB):lk af (λs=>p1 (p2 (p2 (p2 (aI QV LO (aH af.main.body) XT true s))))) 12000 (w.withFollow "special-get-raises" false) os=some ((openGood QV LO).2.2.2.1):=by kernel_rfl
theorem u7(w:World)(os:bB):lk af (λs=>p1 (p2 (p2 (p2 (p2 (p2 (p2 (p2 (aI QV LO (aH af.main.body) XT true s))))))))) 12000 (w.withFollow "special-get-raises" false) os=some ((openGood QV LO).2.2.2.2.2.2.2.1):=by kernel_rfl
theorem uA(w:World)(os:bB):lk af (λs=>(p1 (p2 (p2 (p2 (p2 (aI QV LO (aH af.main.body) XT true s))))),p1 (p2 (p2 (p2 (p2 (p2 (p2 (aI QV LO (aH af.main.body) XT true s))))))),p2 (p2 (p2 (p2 (p2 (p2 (p2 (p2 (aI QV LO (aH af.main.body) XT true s)))))))))) 12000 (w.withFollow "special-get-raises" false) os=some (((openGood QV LO).2.2.2.2.1,(openGood QV LO).2.2.2.2.2.2.1,(openGood QV LO).2.2.2.2.2.2.2.2)):=by kernel_rfl
theorem uB(w:World)(os:bB):lk af (λs=>(chk af (w.withFollow "special-get-raises" false) s,p1 (p2 (aI QV LO (aH af.main.body) XT true s)))) 12000 (w.withFollow "special-get-raises" false) os=some ((true,(openGood QV LO).2.1)):=by kernel_rfl
theorem gE(w:World)(os:bB):go af 12000 (w.withFollow "special-get-raises" true) os=go af 12000 (w.withFollow "special-get-raises" false) os:=by kernel_rfl
theorem nine{A B C D E F G H I:Type}(x y:A×B×C×D×E×F×G×H×I)(h0:p1 x=y.1)(h1:p1 (p2 x)=y.2.1)(h2:p1 (p2 (p2 x))=y.2.2.1)(h3:p1 (p2 (p2 (p2 x)))=y.2.2.2.1)(h4:p1 (p2 (p2 (p2 (p2 x))))=y.2.2.2.2.1)(h5:p1 (p2 (p2 (p2 (p2 (p2 x)))))=y.2.2.2.2.2.1)(h6:p1 (p2 (p2 (p2 (p2 (p2 (p2 x))))))=y.2.2.2.2.2.2.1)(h7:p1 (p2 (p2 (p2 (p2 (p2 (p2 (p2 x)))))))=y.2.2.2.2.2.2.2.1)(h8:p2 (p2 (p2 (p2 (p2 (p2 (p2 (p2 x)))))))=y.2.2.2.2.2.2.2.2):x=y:=by obtain⟨a,b,c,d,e,f,g,h,i⟩:=x;obtain⟨a',b',c',d',e',f',g',h',i'⟩:=y;obtain rfl:a=a':=h0;obtain rfl:b=b':=h1;obtain rfl:c=c':=h2;obtain rfl:d=d':=h3;obtain rfl:e=e':=h4;obtain rfl:f=f':=h5;obtain rfl:g=g':=h6;obtain rfl:h=h':=h7;obtain rfl:i=i':=h8;rfl
section
variable {p:Program}{n:Nat}{w:World}{os:bB}{α β:Type}
theorem D8{F:ag->α}{G:ag->β}{x:α}{y:β}(h1:lk p F n w os=some x)(h2:lk p G n w os=some y):lk p (λs=>(F s,G s)) n w os=some (x,y):=by
 unfold lk at h1 h2 ⊢;cases hg:go p n w os with
|none=>rw[hg]at h1;cases h1
|some r=>rw[hg]at h1 h2;exact congrArg some (congr (congrArg Prod.mk (ar h1)) (ar h2))
theorem Sf{F:ag->α}{G:ag->β}{x:α}{y:β}(h:lk p (λs=>(F s,G s)) n w os=some (x,y)):lk p F n w os=some x:=by
 unfold lk at h ⊢;cases hg:go p n w os with
|none=>rw[hg]at h;cases h
|some r=>rw[hg]at h;exact congrArg some (Prod.mk.inj (ar h)).1
theorem Qt{F:ag->α}{G:ag->β}{x:α}{y:β}(h:lk p (λs=>(F s,G s)) n w os=some (x,y)):lk p G n w os=some y:=by
 unfold lk at h ⊢;cases hg:go p n w os with
|none=>rw[hg]at h;cases h
|some r=>rw[hg]at h;exact congrArg some (Prod.mk.inj (ar h)).2
theorem D9{A B C D E F G H I:Type}{X:ag->A×B×C×D×E×F×G×H×I}{y:A×B×C×D×E×F×G×H×I}(h0:lk p (λs=>p1 (X s)) n w os=some y.1)(h1:lk p (λs=>p1 (p2 (X s))) n w os=some y.2.1)(h2:lk p (λs=>p1 (p2 (p2 (X s)))) n w os=some y.2.2.1)(h3:lk p (λs=>p1 (p2 (p2 (p2 (X s))))) n w os=some y.2.2.2.1)(h4:lk p (λs=>p1 (p2 (p2 (p2 (p2 (X s)))))) n w os=some y.2.2.2.2.1)(h5:lk p (λs=>p1 (p2 (p2 (p2 (p2 (p2 (X s))))))) n w os=some y.2.2.2.2.2.1)(h6:lk p (λs=>p1 (p2 (p2 (p2 (p2 (p2 (p2 (X s)))))))) n w os=some y.2.2.2.2.2.2.1)(h7:lk p (λs=>p1 (p2 (p2 (p2 (p2 (p2 (p2 (p2 (X s))))))))) n w os=some y.2.2.2.2.2.2.2.1)(h8:lk p (λs=>p2 (p2 (p2 (p2 (p2 (p2 (p2 (p2 (X s))))))))) n w os=some y.2.2.2.2.2.2.2.2):lk p X n w os=some y:=by
 unfold lk at *;cases hg:go p n w os with
|none=>rw[hg]at h0;cases h0
|some r=>rw[hg]at h0 h1 h2 h3 h4 h5 h6 h7 h8;exact congrArg some (nine _ _ (ar h0) (ar h1) (ar h2) (ar h3) (ar h4) (ar h5) (ar h6) (ar h7) (ar h8))
end
theorem lg(w:World)(os:bB):lk af (λs=>aI QV LO (aH af.main.body) XT true s) 12000 (w.withFollow "special-get-raises" false) os=some (openGood QV LO):=D9 (u0 w os) (Qt (uB w os)) (u2 w os) (u3 w os) (Sf (uA w os)) (u5 w os) (Sf (Qt (uA w os))) (u7 w os) (Qt (Qt (uA w os)))
theorem lf(w:World)(os:bB):lkS af QV LO XT 12000 (w.withFollow "special-get-raises" false) os=some (true,openGood QV LO):=D8 (Sf (uB w os)) (lg w os)
theorem HP{p:Program}{n:Nat}{w w':World}{os:bB}{α:Type}{F:ag->α}(h:go p n w os=go p n w' os):lk p F n w os=lk p F n w' os:=by unfold lk;rw[h]
theorem lkE{α:Type}(F:ag->α)(w:World)(os:bB):lk af F 12000 (w.withFollow "special-get-raises" true) os=lk af F 12000 (w.withFollow "special-get-raises" false) os:=HP (gE w os)
theorem chkE(w:World):chk af (w.withFollow "special-get-raises" true)=chk af (w.withFollow "special-get-raises" false):=rfl
theorem lt(w:World)(os:bB):lkS af QV LO XT 12000 (w.withFollow "special-get-raises" true) os=some (true,openGood QV LO):=by have h:=lf w os;unfold lkS at h ⊢;rw[lkE,chkE];exact h
theorem HQ{α:Type}{Yf:ag->α}{Ya:World->α}(e1:opening af=plainProg af.main.scope.names)(e3:∀s:ag,fenceModules? af s=some s)(kf:∀(w:World)(os:bB),lk af Yf 12000 (w.withFollow "special-get-raises" false) os=some (Ya (w.withFollow "special-get-raises" false)))(hv:∀w:World,Ya (w.withFollow "special-get-raises" true)=Ya (w.withFollow "special-get-raises" false)):LeftO af QV LO XT Yf Ya 12000:=left "special-get-raises" e1 (by decide) e3 lf lt kf λw os=>by rw[lkE,kf w os,hv w]
end RG
section
open PySem PySem.W PyProof.Rows
set_option hygiene false in
local macro_rules
|`(tactic| o_head $H)=>`(tactic| (have HH:=$H;exact z.elim))
set_option maxRecDepth 100000 in
set_option maxHeartbeats 0 in
theorem RG.hk(z:False):bL.Holds:=by w_on;o_law;k_head
end
namespace RG
open PySem PySem.W PyProof.Rows
noncomputable def AS:List Addr:=[2,3,15,17,18,20,21,22,29,30,31,32,35,42,44,45,47,48,49,50,51,54,61,63,64,66,67,68,69,70,73,80,82,83,85,86,87,88,89,92,99,101,102,104,105,106,107,108,111,113,114,116,117,118,120,121,123,124,125,128,129,130,132,133,135,136,137,139,140,142,143,151,153,154,156,157,158,160,161,163,164,165,167,168,170,171,172,174,175,177,178,179,181,182,184,185,186,188,189,191,192,193,194,195,196,197,200,207,209,210,212,213,214,215,216,219,226,228,229,231,232,233,234,235,238,245,247,248,250,251,252,253,254,257,264,266,267,269,270,271,272,273,276,279,280,281,284,285,286,289,290,291,294,295,296,298,299,301,302,303,304,305,307,308,310,311,312,314,315,317,318,319,321,322,324,325,326,328,329,331,332,333,335,336,338,339,340,342,343,345,346,347,349,350,352,353,354,356,357,359,360,361,363,364,366,367,375,377,378,380,381,382,384,385,387,388,389,391,392,394,395,396,398,399,401,402,403,405,406,408,409,410,412,413,415,416,417,419,420,422,423,424,426,427,429,430,431,433,434,436,437,438,440,441,443,444,445,447,448,450,451,452,454,455,457,458,459,462,463,464,466,467,469,470,471,473,474,476,477,478,480,481,483,484,485,488,489,490,492,493,495,496,497,500,501,502,504,505,507,508,509,511,512,514,515,516,519,520,521,523,524,526,527,528,530,531,533,534,535,538,539,540,541,542,543,544,554,556,557,559,560,561,563,564,566,567,568,571,572,573,575,576,578,579,580,582,583,585,586,587,590,591,592,594,595,597,598,599,601,602,604,605,606,608,609,611,612,613,616,617,618,620,621,623,624,625,627,628,630,631,632,635,636,637,640,641,642,645,646,647,650,651,652,654,655,657,658]
theorem eK(P:Params):AS=(RG.hk.heap_39 P).map (·.1):=by kernel_rfl
theorem kfE(w:World)(os:bB):lk af (λs=>AS.map s.heap.get?) 12000 (w.withFollow "special-get-raises" false) os=some ((RG.hk.heap_39 (w.withFollow "special-get-raises" false).params).map λp=>some p.2):=by kernel_rfl
end RG
namespace L2
open PySem PySem.Spec PyProof.Rows
noncomputable abbrev Key:=Sum Int Str
noncomputable def Py:Key->Value->Bool
|.inl k,v=>Value.isInt k v
|.inr x,v=>Value.isStrOf x v
noncomputable def keyH(w:World):Key->Int
|.inl k=>hashInt k
|.inr x=>hashStr w x
theorem Yq:∀{k:Key}{v:Value},Py k v=true->(∃i t,k=gO i/\v=Value.int i t)\/(∃x t,k=cq x/\v=Value.str x t)
|.inl i,v,h=>by obtain⟨t,e⟩:=Value.isInt_shape (k:=i) (v:=v) h;exact .inl ⟨i,t,rfl,e⟩
|.inr x,v,h=>by obtain⟨t,e⟩:=Value.isStrOf_shape (x:=x) (v:=v) h;exact .inr ⟨x,t,rfl,e⟩
theorem WO(i:Int)(t:Tok):Py (.inl i) (.int i t)=true:=by simp[Py,Value.isInt]
theorem WN(x:Str)(t:Tok):Py (.inr x) (.str x t)=true:=by simp[Py,Value.isStrOf]
theorem FJ(a b:Int):decide ((gO a:Key)=gO b)=(a==b):=by
 by_cases e:a=b
 ·subst e;simp
 ·have h:¬(gO a:Key)=gO b:=λq=>e (Sum.inl.inj q);rw[decide_eq_false h];exact(beq_eq_false_iff_ne.mpr e).symm
theorem FG(a b:Str):decide ((cq a:Key)=cq b)=decide (a=b):=by
 by_cases e:a=b
 ·subst e;simp
 ·have h:¬(cq a:Key)=cq b:=λq=>e (Sum.inr.inj q);rw[decide_eq_false h,decide_eq_false e]
theorem FI(a:Int)(b:Str):decide ((gO a:Key)=cq b)=false:=decide_eq_false (λq=>nomatch q)
theorem FH(a:Str)(b:Int):decide ((cq a:Key)=gO b)=false:=decide_eq_false (λq=>nomatch q)
noncomputable def Yv(prog:Program)(w:World):PySem.KeyKind prog w Key where
 is:=Py
 hash:=keyH w
 inj:=λv a b ha hb=>by
  rcases Yq ha with⟨i,t,rfl,rfl⟩|⟨x,t,rfl,rfl⟩
  ·rcases Yq hb with⟨j,u,rfl,e⟩|⟨y,u,rfl,e⟩
   ·injection e with e1 _;rw[e1]
   ·exact nomatch e
  ·rcases Yq hb with⟨j,u,rfl,e⟩|⟨y,u,rfl,e⟩
   ·exact nomatch e
   ·injection e with e1 _;rw[e1]
 byValue:=λk v h=>by rcases Yq h with⟨i,t,rfl,rfl⟩|⟨x,t,rfl,rfl⟩<;>rfl
 pyHash:=λhv h=>by
  rcases Yq hv with⟨i,t,rfl,rfl⟩|⟨x,t,rfl,rfl⟩
  ·exact wpAny_pyHash_int h
  ·exact wpAny_pyHash_str h
 eqBool:=λhu hv h=>by
  rcases Yq hu with⟨i,t,rfl,rfl⟩|⟨x,t,rfl,rfl⟩
  ·rcases Yq hv with⟨j,u,rfl,rfl⟩|⟨y,u,rfl,rfl⟩
   ·rw[FJ]at h;exact wpAny_eqBool_int h
   ·rw[FI]at h;exact SeqAt.EqAt.int_str i t y u _ _ _ _ h
  ·rcases Yq hv with⟨j,u,rfl,rfl⟩|⟨y,u,rfl,rfl⟩
   ·rw[FH]at h;exact SeqAt.EqAt.str_int x t j u _ _ _ _ h
   ·rw[FG]at h;exact wpAny_eqBool_str h
 «strs»:=λk x t v h=>by
  rcases Yq h with⟨i,u,rfl,e⟩|⟨y,u,rfl,e⟩
  ·exact nomatch e
  ·injection e with e1 _
   subst e1
   cases v<;>rfl
theorem Rh(prog:Program)(w:World)(i:Int)(t:Tok):(Yv prog w).is (.inl i) (.int i t)=true:=WO i t
theorem Rg(prog:Program)(w:World)(x:Str)(t:Tok):(Yv prog w).is (.inr x) (.str x t)=true:=WN x t
open PySem PySem.Spec PyProof.Rows
inductive V where
|non|bl (b:Bool)|int (i:Int)|str (x:Str)|byt (b:Array UInt8)|flt (b:UInt64)|ref (a:Addr)|ty (n:String)
 deriving DecidableEq
noncomputable def RelV:V->Value->Prop
|.non,u=>u=Value.none
|.bl b,u=>u=Value.bool b
|.int i,u=>∃t,u=Value.int i t
|.str x,u=>∃t,u=Value.str x t
|.byt b,u=>∃t,u=Value.bytes b t
|.flt b,u=>∃t,u=Value.float b t
|.ref a,u=>u=Value.ref a
|.ty n,u=>u=Value.type n
noncomputable abbrev Vals:List V->List Value->Prop:=cU RelV
theorem Vals.length{xs:List V}{us:List Value}(r:Vals xs us):xs.length=us.length:=cv r
theorem Vals.get:∀{xs:List V}{us:List Value}{i:Nat}{x:V},Vals xs us->xs[i]?=some x->∃u,us[i]?=some u/\RelV x u
|_,_,_,_,.nil,e=>by simp at e
|_,_,0,_,.cons r _,e=>by simp at e;subst e;exact⟨_,rfl,r⟩
|_,_,i+1,x,.cons _ t,e=>by obtain⟨u,h1,h2⟩:=Vals.get (i:=i) (x:=x) t (by simpa using e);exact⟨u,by simpa using h1,h2⟩
theorem Vals.set{x:V}{u:Value}(r:RelV x u):∀{xs:List V}{us:List Value}(i:Nat),Vals xs us->Vals (xs.set i x) (us.set i u)
|_,_,_,.nil=>.nil
|_,_,0,.cons _ t=>.cons r t
|_,_,i+1,.cons q t=>.cons q (Vals.set r i t)
theorem Vals.append:∀{xs ys:List V}{us ws:List Value},Vals xs us->Vals ys ws->Vals (xs++ys) (us++ws)
|_,_,_,_,.nil,s=>s
|_,_,_,_,.cons r t,s=>.cons r (Vals.append t s)
theorem Vals.take:∀{xs:List V}{us:List Value}(n:Nat),Vals xs us->Vals (xs.take n) (us.take n)
|_,_,0,_=>.nil
|_,_,_+1,.nil=>.nil
|_,_,n+1,.cons r t=>.cons r (Vals.take n t)
theorem Vals.drop:∀{xs:List V}{us:List Value}(n:Nat),Vals xs us->Vals (xs.drop n) (us.drop n)
|_,_,0,r=>r
|_,_,_+1,.nil=>.nil
|_,_,n+1,.cons _ t=>Vals.drop n t
noncomputable def RelO:Option V->Option Value->Prop
|some v,some u=>RelV v u
|none,none=>True
|_,_=>False
noncomputable def KV{κ:Type}:List (κ×V)->List (κ×Value)->Prop:=cU λ(p:κ×V)(q:κ×Value)=>p.1=q.1/\RelV p.2 q.2
noncomputable def kV:Key->V
|.inl i=>.int i
|.inr x=>.str x
inductive HO where
|lst (xs:List V)
|tup (xs:List V)
|dK (kvs:List (Key×V))|dT (kvs:List (List Key×V))
|set (S:Int->Bool) (n:Nat)
|ins (C dx:Addr) (fs:List (Str×V))
|own (x:Addr)
|xd (fs:List (Str×V))
|met (f x:Addr)
|rng (lo hi:Int)
|frz (o:Obj) (u:HO)
|tbl (ps:Array Value)
|ext (φ:Heap->Prop)
noncomputable abbrev Hp:=Addr->Option HO
noncomputable def upd(H:Hp)(a:Addr)(o:HO):Hp:=λb=>if b=a then some o else H b
theorem Zd{H:Hp}{a:Addr}{o:HO}:upd H a o a=some o:=by unfold upd;rw[if_pos rfl]
theorem Zh{H:Hp}{a b:Addr}{o:HO}(h:b≠a):upd H a o b=H b:=by unfold upd;rw[if_neg h]
theorem Dt{H:Hp}{a:Addr}{o u:HO}:upd (upd H a o) a u=upd H a u:=by funext b;unfold upd;split<;>rfl
theorem ne_of{H:Hp}{a b:Addr}{o u:HO}(h:H a=some o)(h':H b=some u)(d:o≠u):a≠b:=by intro e;subst e;rw[h]at h';exact d (ar h')
theorem Zk{H:Hp}{a b:Addr}{o:HO}(h:H a=some o)(h':H b=none):a≠b:=by intro e;subst e;rw[h]at h';cases h'
section
variable (P:Program)(w:World)
noncomputable def ZP(H:Hp)(h:Heap)(a:Addr):HO->Prop
|.lst xs=>xs.length<=sizeLine/\∃(its:List Value)(n:Nat),Vals xs its/\h.get? a=some {cls:=.type "list",data:=.seq its.toArray n}
|.tup xs=>xs.length<=sizeLine/\∃its:List Value,Vals xs its/\IsTup h a its.toArray
|.dK kvs=>kvs.length<=sizeLine/\(a==c7)=false/\∃vs,KV kvs vs/\h.DictOf (Yv P w) a vs
|.dT kvs=>kvs.length<=sizeLine/\(a==c7)=false/\∃xs:List (List Key×Addr×Value),cU (λ(p:List Key×V)(q:List Key×Addr×Value)=>p.1=q.1/\H q.2.1=some (.tup (p.1.map kV))/\RelV p.2 q.2.2) kvs xs /\∃o es ep,h.get? a=some o/\o.ExactDict/\o.data=.dict es ep/\es.toList=xs.map (entryOfKey (fR (Yv P w)))/\(xs.map (·.1)).Nodup
|.set S n=>h.SetOf (intKind P w) a S n
|.ins C dx fs=>H dx=some (.own a)/\fs.length<=1000/\dx≠a/\h.get? a=some (cA C dx) /\∃mA,h.Ns1 dx mA/\(∀f,RelO (fs.lookup f) (mA f))/\dq mA (fs.map (·.1))
|.own _=>∃o,h.get? a=some o
|.xd fs=>∃mA,h.Ns1 a mA/\∀f,RelO (fs.lookup f) (mA f)
|.rng lo hi=>∃t u v,h.get? a=some {cls:=.type "range",data:=.fields #[.int lo t,.int hi u,.int 1 v]}
|.frz o u=>h.get? a=some o/\ZP H h a u
|.tbl ps=>h.get? a=some {cls:=.none,data:=.fields ps}
|.met f x=>h.get? a=some (gq (.ref f) (.ref x))
|.ext φ=>φ h/\(∃o,h.get? a=some o)/\∀h1 h2:Heap,φ h1->(∀o,h1.get? a=some o->h2.get? a=some o)->φ h2
def HOk(H:Hp)(h:Heap):Prop:=∀a o,H a=some o->ZP P w H h a o
end
section
variable {P:Program}{w:World}{H H':Hp}{h h':Heap}{a:Addr}{o:HO}
theorem ZP.lt(x:ZP P w H h a o):a<h.objs.size:=by
 cases o with
|lst xs=>obtain⟨_,_,_,_,e⟩:=x;exact Heap.lt_size e
|tup xs=>obtain⟨_,_,_,p⟩:=x;exact p.lt
|dK kvs=>obtain⟨_,_,_,_,o,_,_,e,_⟩:=x;exact Heap.lt_size e
|dT kvs=>obtain⟨_,_,_,_,o,_,_,e,_⟩:=x;exact Heap.lt_size e
|set S n=>obtain⟨o,_,_,_,e,_⟩:=x;exact Heap.lt_size e
|ins C dx fs=>obtain⟨_,_,_,e,_⟩:=x;exact Heap.lt_size e
|own y=>obtain⟨_,e⟩:=x;exact Heap.lt_size e
|xd fs=>obtain⟨_,⟨_,_,_,e,_⟩,_⟩:=x;exact Heap.lt_size e
|rng lo hi=>obtain⟨_,_,_,e⟩:=x;exact Heap.lt_size e
|frz ob u=>obtain⟨e,_⟩:=x;exact Heap.lt_size e
|tbl ps=>exact Heap.lt_size (show h.get? a=some _ from x)
|met f y=>exact Heap.lt_size (show h.get? a=some _ from x)
|ext φ=>obtain⟨_,⟨_,e⟩,_⟩:=x;exact Heap.lt_size e
theorem Paired.mapP{α β:Type}{F G:α->β->Prop}:∀{l₁:List α}{l₂:List β},cU F l₁ l₂->(∀a b,F a b->G a b)->cU G l₁ l₂
|_,_,.nil,_=>.nil
|_,_,.cons r t,f=>.cons (f _ _ r) (Paired.mapP t f)
theorem ZP.stay(x:ZP P w H h a o)(k:∀b u,(b=a\/H b=some (.own a))->h.get? b=some u->h'.get? b=some u)(ho:∀b,H b=some (.own a)->H' b=some (.own a))(ht:∀b xs,H b=some (.tup xs)->H' b=some (.tup xs)):ZP P w H' h' a o:=by
 induction o with
|lst xs=>obtain⟨z,its,n,r,e⟩:=x;exact⟨z,its,n,r,k _ _ (.inl rfl) e⟩
|tup xs=>obtain⟨z,its,r,ob,e,c⟩:=x;exact⟨z,its,r,ob,k _ _ (.inl rfl) e,c⟩
|dK kvs=>obtain⟨z,y,vs,r,ob,es,ep,e,c⟩:=x;exact⟨z,y,vs,r,ob,es,ep,k _ _ (.inl rfl) e,c⟩
|dT kvs=>obtain⟨z,y,xs,r,ob,es,ep,e,c⟩:=x;exact⟨z,y,xs,Paired.mapP r λp q z=>⟨z.1,ht _ _ z.2.1,z.2.2⟩,ob,es,ep,k _ _ (.inl rfl) e,c⟩
|set S n=>obtain⟨ob,es,ep,t,e,c⟩:=x;exact⟨ob,es,ep,t,k _ _ (.inl rfl) e,c⟩
|ins C dx fs=>obtain⟨d,z,ne,e,mA,⟨od,es,ep,e2,c⟩,r⟩:=x;exact⟨ho _ d,z,ne,k _ _ (.inl rfl) e,mA,⟨od,es,ep,k _ _ (.inr d) e2,c⟩,r⟩
|own y=>obtain⟨ob,e⟩:=x;exact⟨ob,k _ _ (.inl rfl) e⟩
|xd fs=>obtain⟨mA,⟨od,es,ep,e,c⟩,r⟩:=x;exact⟨mA,⟨od,es,ep,k _ _ (.inl rfl) e,c⟩,r⟩
|rng lo hi=>obtain⟨t,u,v,e⟩:=x;exact⟨t,u,v,k _ _ (.inl rfl) e⟩
|frz ob u ih=>obtain⟨e,q⟩:=x;exact⟨k _ _ (.inl rfl) e,ih q⟩
|tbl ps=>have e:h.get? a=some {cls:=.none,data:=.fields ps}:=x;show h'.get? a=some {cls:=.none,data:=.fields ps};exact k a _ (.inl rfl) e
|met f y=>have e:h.get? a=some (gq (.ref f) (.ref y)):=x;show h'.get? a=some (gq (.ref f) (.ref y));exact k a _ (.inl rfl) e
|ext φ=>obtain⟨p,⟨o,e⟩,st⟩:=x;exact⟨st _ _ p λo q=>k _ _ (.inl rfl) q,⟨o,k _ _ (.inl rfl) e⟩,st⟩
theorem HOk.lt(x:HOk P w H h)(e:H a=some o):a<h.objs.size:=(x a o e).lt
theorem HOk.fresh(x:HOk P w H h)(e:h.objs.size<=a):H a=none:=by
 cases q:H a with
|none=>rfl
|some u=>exact absurd (Nat.lt_of_lt_of_le (x.lt q) e) (Nat.lt_irrefl _)
theorem HOk.kept(x:HOk P w H h)(k:∀b u,h.get? b=some u->h'.get? b=some u):HOk P w H h':=λa o e=>(x a o e).stay (λb u _ q=>k b u q) (λ_ q=>q) λ_ _ q=>q
theorem HOk.laid(x:HOk P w H h)(k:∀b u,h.get? b=some u->h'.get? b=some u)(hp:h.objs.size<=a)(new:ZP P w (upd H a o) h' a o):HOk P w (upd H a o) h':=λb u e=>by
 have hn:=x.fresh hp;by_cases hb:b=a
 ·subst hb;rw[Zd]at e;cases e;exact new
 ·rw[Zh hb]at e;exact(x b u e).stay (λc v _ q=>k c v q) (λc q=>by rw[Zh (Zk q hn)];exact q) λc xs q=>by rw[Zh (Zk q hn)];exact q
end
def Rd(H:Hp)(a:Addr)(u:HO):Prop:=H a=some u\/∃o,H a=some (.frz o u)
theorem Rd.ok{P:Program}{w:World}{H:Hp}{h:Heap}{a:Addr}{u:HO}(r:Rd H a u)(x:HOk P w H h):ZP P w H h a u:=by
 rcases r with r|⟨o,r⟩
 ·exact x a u r
 ·obtain⟨_,q⟩:=x a _ r;exact q
noncomputable def Mut:Option HO->Prop
|some (.lst _)=>True
|some (.dK _)=>True
|some (.dT _)=>True
|some (.set _ _)=>True
|some (.ins _ _ _)=>True
|some (.ext _)=>True
|_=>False
section
variable {P:Program}{w:World}{H:Hp}{h h':Heap}{x e:Addr}{o':HO}
theorem HOk.write(ok:HOk P w H h)(mu:Mut (H x))(he:e=x\/H e=some (.own x))(k:∀b u,b≠e->h.get? b=some u->h'.get? b=some u)(heo:∃u,h'.get? e=some u)(new:ZP P w (upd H x o') h' x o'):HOk P w (upd H x o') h':=λb u q=>by
 have nown:∀c y,H c=some (.own y)->c≠x:=λc y r z=>by subst z;rw[r]at mu;exact mu
 have ntup:∀c xs,H c=some (.tup xs)->c≠x:=λc xs r z=>by subst z;rw[r]at mu;exact mu
 by_cases hb:b=x
 ·subst hb;rw[Zd]at q;cases q;exact new
 ·rw[Zh hb]at q;by_cases hbe:b=e
  ·have q':H b=some (.own x):=by
    rcases he with z|z
    ·exact absurd (hbe.trans z) hb
    ·rw[hbe];exact z
   rw[q]at q';cases q';obtain⟨v,hv⟩:=heo;exact⟨v,by rw[hbe];exact hv⟩
  ·refine(ok b u q).stay (λc v hc r=>k c v ?_ r) (λc r=>by rw[Zh (nown c b r)];exact r) λc xs r=>by rw[Zh (ntup c xs r)];exact r
   rcases hc with rfl|hc
   ·exact hbe
   ·rintro rfl;rcases he with z|z
    ·exact nown c b hc z
    ·rw[hc]at z;cases z;exact hb rfl
end
structure Un(fs ex:List Addr)(H H':Hp)(h h':Heap):Prop where
 keep:∀b o,h.get? b=some o->H b=none->b∉fs->b∉ex->h'.get? b=some o
 slot:∀b o,h.get? b=some o->H b=none->b∈fs->b∉ex->∃sl,h'.get? b=some {o with slots:=sl}
 free:∀b o,h.get? b=some o->H b=none->b∉ex->H' b=none
 there:∀b o,h.get? b=some o->b∉ex->∃o',h'.get? b=some o'
 tups:∀b xs,H b=some (.tup xs)->H' b=some (.tup xs)
 frzs:∀b o u,H b=some (.frz o u)->H' b=some (.frz o u)
 tbls:∀b ps,H b=some (.tbl ps)->∃more,H' b=some (.tbl (ps++more))
section
variable {fs fs' ex ex':List Addr}{H H1 H2:Hp}{h h1 h2 h':Heap}{a x e:Addr}{o:HO}
theorem Un.any(u:Un fs ex H H1 h h1){b:Addr}{ob:Obj}(q:h.get? b=some ob)(n:H b=none)(hx:b∉ex):∃sl,h1.get? b=some {ob with slots:=sl}:=by
 by_cases hb:b∈fs
 ·exact u.slot b ob q n hb hx
 ·exact⟨ob.slots,u.keep b ob q n hb hx⟩
theorem Un.kept(k:∀b u,h.get? b=some u->h'.get? b=some u):Un fs ex H H h h':=⟨λb ob q _ _ _=>k b ob q,λb ob q _ _ _=>⟨ob.slots,k b ob q⟩,λ_ _ _ n _=>n,λb ob q _=>⟨ob,k b ob q⟩,λ_ _ q=>q,λ_ _ _ q=>q,λ_ ps q=>⟨#[],by rw[q];simp⟩⟩
theorem Un.refl:Un fs ex H H h h:=Un.kept λ_ _ q=>q
theorem Un.laid(k:∀b u,h.get? b=some u->h'.get? b=some u)(hp:h.objs.size<=a)(hn:H a=none):Un fs ex H (upd H a o) h h' where
 keep:=λb u q _ _ _=>k b u q
 slot:=λb u q _ _ _=>⟨u.slots,k b u q⟩
 free:=λb u q n _=>by rw[Zh (Nat.ne_of_lt (Nat.lt_of_lt_of_le (Heap.lt_size q) hp))];exact n
 there:=λb u q _=>⟨u,k b u q⟩
 tups:=λb xs q=>by rw[Zh (Zk q hn)];exact q
 frzs:=λb u xs q=>by rw[Zh (Zk q hn)];exact q
 tbls:=λb ps q=>⟨#[],by rw[Zh (Zk q hn),q];simp⟩
theorem Un.write(mu:Mut (H x))(he:e=x\/H e=some (.own x))(k:∀b u,b≠e->h.get? b=some u->h'.get? b=some u)(heo:∃u,h'.get? e=some u):Un fs ex H (upd H x o) h h':=by
 have hx:∀b,H b=none->b≠x:=λb n z=>by subst z;rw[n]at mu;exact mu
 have hb:∀b,H b=none->b≠e:=λb n z=>by
  subst z;rcases he with r|r
  ·exact hx b n r
  ·rw[n]at r;cases r
 have hm:∀b u,H b=some u->¬Mut (some u)->b≠x:=λb u q nm z=>by subst z;rw[q]at mu;exact nm mu
 refine⟨λb u q n _ _=>k b u (hb b n) q,λb u q n _ _=>⟨u.slots,k b u (hb b n) q⟩,λb u q n _=>by rw[Zh (hx b n)];exact n,λb u q _=>?_,
  λb xs q=>by rw[Zh (hm b _ q λz=>z)];exact q,λb u xs q=>by rw[Zh (hm b _ q λz=>z)];exact q,λb ps q=>⟨#[],by rw[Zh (hm b _ q λz=>z),q];simp⟩⟩;by_cases hbe:b=e
 ·subst hbe;exact heo
 ·exact⟨u,k b u hbe q⟩
end
noncomputable def trk(h:Heap)(H:Hp):List Addr:=(aY h.objs.size).filter λa=>(H a).isSome
noncomputable def hidT(h:Heap)(H:Hp):Heap:=fv h (trk h H)
theorem WS(h:Heap)(H:Hp):(hidT h H).objs.size=h.objs.size:=PySem.W.hideAll_size _ _
theorem LL{h:Heap}{H:Hp}{b:Addr}{o:Obj}(e:h.get? b=some o)(n:H b=none):(hidT h H).get? b=some o:=PySem.W.hideAll_get _ e λhm=>by have q:(H b).isSome=true:=(dg.mp hm).2;rw[n]at q;simp at q
theorem DW{h:Heap}{H:Hp}{b:Addr}{o:Obj}(e:(hidT h H).get? b=some o):h.get? b=some o/\H b=none:=by
 have e':h.get? b=some o:=PySem.W.of_hideAll (trk h H) e;refine⟨e',?_⟩;cases q:H b with
|none=>rfl
|some x=>have hm:b∈trk h H:=dg.mpr ⟨b_.mpr (Heap.lt_size e'),by simp[q]⟩;have z:(hidT h H).get? b=none:=fM (trk h H) hm;rw[z]at e;cases e
noncomputable def Er(g h:Heap)(L:Addr):List (Addr×Obj):=(aY h.objs.size).filterMap λa=>if a=L\/(g.get? a).isSome=true then none else(h.get? a).map λo=>(a,o)
noncomputable def rest(g h:Heap)(L d:Addr):List (Addr×Obj):=(Er g h L).filter λp=>decide (p.1≠d)
open PySem PySem.Spec PyProof.Rows
structure Mod(K:aa)(mg:Str->Option Value)(base:Heap):Prop where
 kin:K.In base
 glob:base.Ns aR mg
 blt:∃mb,base.Ns builtinsNs mb/\∀x:Str,x≠"__name__"->mb x=bF x
 nolimit:base.NoLimit
structure Cx where
 prog:Program
 w:World
 K:aa
 mg:Str->Option Value
 base:Heap
 A:aX
 N:List Str
 s₀:ag
 H₀:Hp
 env:Env
 outer:List Env
 stack:List Env
 ex:List Addr
 fn:Str->Bool
 calm:Bool
 pn:List (Addr×Obj)
 xe:Value->ag->Prop
noncomputable def frs(l:List Env):List Addr:=l.filterMap (·.frame)
noncomputable abbrev Cx.fs(X:Cx):List Addr:=frs X.outer
def Vis(sc:Scope)(x:Str):Prop:=sc.names.lookup x=some .local\/sc.names.lookup x=some .cell\/sc.names.lookup x=some .free
def Loc(sc:Scope)(x:Str):Prop:=sc.names.lookup x=some .local\/sc.names.lookup x=some .cell
def Look(env:Env)(h:Heap)(m:Str->Option Value)(x:Str)(u:Value):Prop:=(env.kindOf x=some .local/\m x=some u)\/((env.kindOf x=some .cell\/env.kindOf x=some .free)/\∃c,env.cells.lookup x=some c/\h.IsCell c (some u))
structure Cx.Ok(X:Cx):Prop where
 mod:Mod X.K X.mg X.base
 kind:X.env.scope.kind=.function
 glob:X.env.globals=aR
 blt:X.env.builtins=builtinsNs
 above:X.s₀.heap.objs.size<=X.env.locals
 inj:∀x y c,X.env.cells.lookup x=some c->X.env.cells.lookup y=some c->x=y
 has:∀x,(X.env.kindOf x=some .cell\/X.env.kindOf x=some .free)->∃c,X.env.cells.lookup x=some c
 cab:∀x c,X.fn x=true->X.env.cells.lookup x=some c->X.s₀.heap.objs.size<=c
 hd:X.calm=true->X.A.handled=none
 frames:X.A.frames=some X.stack
 stk:X.stack=X.outer\/(X.stack=X.env::X.outer/\X.env.frame=some X.env.locals)
 exf:∀b∈X.ex,b≠X.env.locals/\∀x c,X.env.cells.lookup x=some c->c≠b
 bs:∀b o,X.base.get? b=some o->X.s₀.heap.get? b=some o/\X.H₀ b=none
 bsz:X.base.objs.size<=X.s₀.heap.objs.size
 noex:∀b o,X.base.get? b=some o->b∉X.ex
 exfs:∀b∈X.ex,b∉X.fs
 funs:X.s₀.heap.FunFrames X.base X.outer
 frf:∀b∈X.fs,X.H₀ b=none
structure Inv(X:Cx)(pins:List (Addr×Obj))(σ:List (Option V))(H:Hp)(s:ag):Prop where
 ok:X.Ok
 os:s.os=X.s₀.os
 bare:fD s.gens
 base:Un X.fs X.ex X.H₀ H X.s₀.heap s.heap
 loc:∃m,s.heap.Ns X.env.locals m/\∀(i:Nat)(x:Str)(v:V),X.N[i]?=some x->σ[i]?=some (some v)->Vis X.env.scope x->∃u,RelV v u/\Look X.env s.heap m x u
 cell:∀x c,X.env.cells.lookup x=some c->∃v,s.heap.IsCell c v
 free:H X.env.locals=none
 freeC:∀x c,X.env.cells.lookup x=some c->H c=none
 pin:∀p∈X.pn++pins,s.heap.get? p.1=some p.2/\H p.1=none/\p.1≠X.env.locals/\p.1∉X.fs/\∀v,p.2.data≠.cell v
 hok:HOk X.prog X.w H s.heap
 len:σ.length=X.N.length
section
variable {X:Cx}{pins:List (Addr×Obj)}{σ:List (Option V)}{H H':Hp}{s:ag}{h':Heap}
theorem Cx.Ok.nofr(ok:X.Ok){b:Addr}{o:Obj}(e:X.base.get? b=some o):b∉X.fs:=λhb=>by have:=(ok.funs.mem hb).1;rw[e]at this;cases this
theorem Inv.bs(I:Inv X pins σ H s):∀b o,X.base.get? b=some o->s.heap.get? b=some o/\H b=none:=λb o e=>⟨I.base.keep b o (I.ok.bs b o e).1 (I.ok.bs b o e).2 (I.ok.nofr e) (I.ok.noex b o e),I.base.free b o (I.ok.bs b o e).1 (I.ok.bs b o e).2 (I.ok.noex b o e)⟩
theorem Inv.bk(I:Inv X pins σ H s):∀b o,X.base.get? b=some o->s.heap.get? b=some o:=λb o e=>(I.bs b o e).1
theorem Inv.mod(I:Inv X pins σ H s):Mod X.K X.mg X.base:=I.ok.mod
theorem Inv.kIn(I:Inv X pins σ H s):X.K.In s.heap:=I.ok.mod.kin.keeps I.bk
theorem Inv.lt(I:Inv X pins σ H s):X.env.locals<s.heap.objs.size:=let ⟨_,hn,_⟩:=I.loc;hn.lt
theorem Inv.sz(I:Inv X pins σ H s):X.s₀.heap.objs.size<=s.heap.objs.size:=Nat.le_trans I.ok.above (Nat.le_of_lt I.lt)
theorem Inv.nofs(I:Inv X pins σ H s){a:Addr}(h:s.heap.objs.size<=a):a∉X.fs:=λhb=>by obtain⟨_,o,ho,_⟩:=I.ok.funs.mem hb;exact absurd (Nat.lt_of_lt_of_le (Heap.lt_size ho) (Nat.le_trans I.sz h)) (Nat.lt_irrefl _)
theorem Inv.cne(I:Inv X pins σ H s):∀x c,X.env.cells.lookup x=some c->c≠X.env.locals:=λx c e z=>by obtain⟨v,o,ho,hd⟩:=I.cell x c e;obtain⟨m,⟨o',es,ep,ho',hd',_⟩,_⟩:=I.loc;rw[z,ho']at ho;cases ho;rw[hd']at hd;cases hd
theorem Inv.funs(I:Inv X pins σ H s):s.heap.FunFrames X.base X.outer:=by
 have all:∀(l:List Env),(∀b∈frs l,b∈X.fs)->X.s₀.heap.FunFrames X.base l->s.heap.FunFrames X.base l:=by
  intro l;induction l with
 |nil=>intro _ _;trivial
 |cons env r ih=>intro hs hl;obtain⟨hk,⟨L,o,hf,hn,ho,hd⟩,hr⟩:=hl;have hL:L∈X.fs:=hs L (by unfold frs;rw[dZ,hf];exact aB);obtain⟨sl,e⟩:=I.base.slot L o ho (I.ok.frf L hL) hL λz=>I.ok.exfs L z hL;exact⟨hk,⟨L,_,hf,hn,e,hd⟩,ih (λb hb=>hs b (by unfold frs;rw[dZ,hf];exact av _ hb)) hr⟩
 exact all X.outer (λ_ hb=>hb) I.ok.funs
theorem Inv.stack(I:Inv X pins σ H s):s.heap.FunFrames X.base X.stack:=by
 rcases I.ok.stk with e|⟨e,hf⟩
 ·rw[e];exact I.funs
 ·rw[e];obtain⟨m,hn,_⟩:=I.loc;refine .cons (by rw[I.ok.kind];decide) hf hn ?_ I.funs;exact Heap.get?_none_of_le (Nat.le_trans I.ok.bsz I.ok.above)
theorem Inv.stkSub(I:Inv X pins σ H s):∀b∈frs X.stack,b∈X.env.locals::X.fs:=λb hb=>by
 rcases I.ok.stk with e|⟨e,hf⟩
 ·rw[e]at hb;exact av _ hb
 ·rw[e]at hb;unfold frs at hb;rw[dZ,hf]at hb;exact hb
theorem Inv.stkFree(I:Inv X pins σ H s):∀b∈frs X.stack,H b=none:=λb hb=>by
 rcases aA.mp (I.stkSub b hb)with e|hb
 ·rw[e];exact I.free
 ·obtain⟨_,o,ho,_⟩:=I.ok.funs.mem hb;exact I.base.free b o ho (I.ok.frf b hb) λz=>I.ok.exfs b z hb
theorem Inv.step{g':Array GenState}{t':Nat}{d':Drawn}{ch:List Addr}(I:Inv X pins σ H s)(hch:∀b∈ch,(b∈X.ex\/X.s₀.heap.objs.size<=b)/\b≠X.env.locals/\(∀x c,X.env.cells.lookup x=some c->c≠b)/\∀p∈X.pn++pins,p.1≠b)(keep:∀b o,b≠X.env.locals->b∉X.fs->b∉ch->s.heap.get? b=some o->H b=none->h'.get? b=some o)(slot:∀b o,b≠X.env.locals->b∈X.fs->b∉ch->s.heap.get? b=some o->H b=none->∃sl,h'.get? b=some {o with slots:=sl})(free:∀b o,b∉ch->s.heap.get? b=some o->H b=none->H' b=none)(there:∀b o,b∉ch->s.heap.get? b=some o->∃o',h'.get? b=some o')(tups:∀b xs,H b=some (.tup xs)->H' b=some (.tup xs))(frzs:∀b o u,H b=some (.frz o u)->H' b=some (.frz o u))(tbls:∀b ps,H b=some (.tbl ps)->∃more,H' b=some (.tbl (ps++more)))(ns:∀m,s.heap.Ns X.env.locals m->h'.Ns X.env.locals m)(hok:HOk X.prog X.w H' h')(hg:fD g'):Inv X pins σ H' {s with heap:=h',gens:=g',drawn:=d',toks:=t'}:=by
 have neL:∀b o,X.s₀.heap.get? b=some o->b≠X.env.locals:=λb o e=>Nat.ne_of_lt (Nat.lt_of_lt_of_le (Heap.lt_size e) I.ok.above);have neC:∀b o,X.s₀.heap.get? b=some o->b∉X.ex->b∉ch:=λb o e hx hb=>by
  rcases(hch b hb).1 with z|z
  ·exact hx z
  ·exact absurd (Nat.lt_of_lt_of_le (Heap.lt_size e) z) (Nat.lt_irrefl _)
 have cellK:∀x c,X.env.cells.lookup x=some c->∀v,s.heap.IsCell c v->h'.IsCell c v:=λx c e v⟨o,ho,hd⟩=>by
  have nch:c∉ch:=λz=>(hch c z).2.2.1 x c e rfl;by_cases hc:c∈X.fs
  ·obtain⟨sl,q⟩:=slot c o (I.cne x c e) hc nch ho (I.freeC x c e);exact⟨_,q,hd⟩
  ·exact⟨o,keep c o (I.cne x c e) hc nch ho (I.freeC x c e),hd⟩
 refine⟨I.ok,I.os,hg,⟨λb o e n hb hx=>?_,λb o e n hb hx=>?_,λb o e n hx=>?_,λb o e hx=>?_,λb xs e=>tups b xs (I.base.tups b xs e),λb o xs e=>frzs b o xs (I.base.frzs b o xs e),λb ps e=>?_⟩,?_,λx c e=>?_,?_,λx c e=>?_,λp hp=>?_,hok,I.len⟩
 ·exact keep b o (neL b o e) hb (neC b o e hx) (I.base.keep b o e n hb hx) (I.base.free b o e n hx)
 ·obtain⟨sl,e1⟩:=I.base.slot b o e n hb hx;obtain⟨sl',e2⟩:=slot b _ (neL b o e) hb (neC b o e hx) e1 (I.base.free b o e n hx);exact⟨sl',e2⟩
 ·obtain⟨o',e1⟩:=I.base.there b o e hx;exact free b o' (neC b o e hx) e1 (I.base.free b o e n hx)
 ·obtain⟨o',e1⟩:=I.base.there b o e hx;exact there b o' (neC b o e hx) e1
 ·obtain⟨m1,e1⟩:=I.base.tbls b ps e;obtain⟨m2,e2⟩:=tbls b _ e1;exact⟨m1++m2,by rw[e2,Array.append_assoc]⟩
 ·obtain⟨m,hn,hl⟩:=I.loc;refine⟨m,ns m hn,λi x v e1 e2 e3=>?_⟩;obtain⟨u,r,l⟩:=hl i x v e1 e2 e3;refine⟨u,r,?_⟩;rcases l with l|⟨k,c,e,z⟩
  ·exact .inl l
  ·exact .inr ⟨k,c,e,cellK x c e _ z⟩
 ·obtain⟨v,z⟩:=I.cell x c e;exact⟨v,cellK x c e v z⟩
 ·obtain⟨m,⟨o,_,_,ho,_⟩,_⟩:=I.loc;exact free _ o (λz=>(hch _ z).2.1 rfl) ho I.free
 ·obtain⟨v,o,ho,hd⟩:=I.cell x c e;exact free c o (λz=>(hch c z).2.2.1 x c e rfl) ho (I.freeC x c e)
 ·obtain⟨e,n,ne,nf,d⟩:=I.pin p hp;have nch:p.1∉ch:=λz=>(hch p.1 z).2.2.2 p hp rfl;exact⟨keep p.1 p.2 ne nf nch e n,free p.1 p.2 nch e n,ne,nf,d⟩
theorem Inv.un{t':Nat}(I:Inv X pins σ H s)(u:Un X.fs [] H H' s.heap h')(hok:HOk X.prog X.w H' h'):Inv X pins σ H' {s with heap:=h',toks:=t'}:=by
 obtain⟨m,⟨o,es,ep,ho,r⟩,_⟩:=id I.loc;obtain⟨sl,hL⟩:=u.any ho I.free (by simp);exact I.step (g':=s.gens) (d':=s.drawn) (ch:=[]) (λ_ z=>nomatch z) (λb o _ hb _ e n=>u.keep b o e n hb (by simp)) (λb o _ hb _ e n=>u.slot b o e n hb (by simp)) (λb o _ e n=>u.free b o e n (by simp)) (λb o _ e=>u.there b o e (by simp)) u.tups u.frzs u.tbls (λm' hm=>by obtain⟨o',es',ep',ho',r'⟩:=hm;rw[ho]at ho';cases ho';exact⟨_,es',ep',hL,r'⟩) hok I.bare
theorem Inv.call{g':Array GenState}{t':Nat}{d':Drawn}{ch:List Addr}(I:Inv X pins σ H s)(u:Un (frs X.stack) ch H H' s.heap h')(hok:HOk X.prog X.w H' h')(hg:fD g')(hch:∀b∈ch,(b∈X.ex\/X.s₀.heap.objs.size<=b)/\b≠X.env.locals/\(∀x c,X.env.cells.lookup x=some c->c≠b)/\∀p∈X.pn++pins,p.1≠b):Inv X pins σ H' {s with heap:=h',gens:=g',drawn:=d',toks:=t'}:=by
 obtain⟨m,⟨o,es,ep,ho,r⟩,_⟩:=id I.loc;obtain⟨sl,hL⟩:=u.any ho I.free λz=>(hch _ z).2.1 rfl;exact I.step (ch:=ch) hch (λb o hL hb hc e n=>u.keep b o e n (λz=>(aA.mp (I.stkSub b z)).elim hL hb) hc) (λb o _ _ hc e n=>u.any e n hc) (λb o hc e n=>u.free b o e n hc) (λb o hc e=>u.there b o e hc) u.tups u.frzs u.tbls (λm' hm=>by obtain⟨o',es',ep',ho',r'⟩:=hm;rw[ho]at ho';cases ho';exact⟨_,es',ep',hL,r'⟩) hok hg
theorem Inv.turned{t':Nat}{it:Addr}(I:Inv X pins σ H s)(k:∀b o,b≠it->s.heap.get? b=some o->h'.get? b=some o)(hn:H it=none)(hL:it≠X.env.locals)(h1:it∈X.ex\/X.s₀.heap.objs.size<=it)(h2:∀x c,X.env.cells.lookup x=some c->c≠it)(h3:∀p∈X.pn++pins,p.1≠it):Inv X pins σ H {s with heap:=h',toks:=t'}:=by
 have nit:∀b u,H b=some u->b≠it:=λb u e z=>by rw[z,hn]at e;cases e
 refine I.step (g':=s.gens) (d':=s.drawn) (ch:=[it]) (λb hb=>?_) (λb o _ _ hc e _=>k b o (λz=>hc (by simp[z])) e) (λb o _ _ hc e _=>⟨o.slots,k b o (λz=>hc (by simp[z])) e⟩) (λ_ _ _ _ n=>n) (λb o hc e=>⟨o,k b o (λz=>hc (by simp[z])) e⟩) (λ_ _ e=>e) (λ_ _ _ e=>e) (λb ps e=>⟨#[],by rw[e];simp⟩) (λm hm=>?_) (λb u e=>?_) I.bare
 ·have e:b=it:=by simpa using hb
  subst e;exact⟨h1,hL,h2,h3⟩
 ·obtain⟨o,es,ep,ho,r⟩:=hm;exact⟨o,es,ep,k _ o (bA hL) ho,r⟩
 ·refine(I.hok b u e).stay (λc v hc q=>k c v ?_ q) (λ_ q=>q) λ_ _ q=>q;rcases hc with z|z
  ·rw[z];exact nit b u e
  ·exact nit c _ z
theorem Inv.tok(I:Inv X pins σ H s)(t:Nat):Inv X pins σ H {s with toks:=t}:=I.un (h':=s.heap) (t':=t) Un.refl I.hok
theorem Inv.kept{t':Nat}(I:Inv X pins σ H s)(k:∀b u,s.heap.get? b=some u->h'.get? b=some u):Inv X pins σ H {s with heap:=h',toks:=t'}:=I.un (Un.kept k) (I.hok.kept k)
theorem Inv.laid{a:Addr}{o:HO}{t':Nat}(I:Inv X pins σ H s)(k:∀b u,s.heap.get? b=some u->h'.get? b=some u)(hp:s.heap.objs.size<=a)(new:ZP X.prog X.w (upd H a o) h' a o):Inv X pins σ (upd H a o) {s with heap:=h',toks:=t'}:=I.un (Un.laid k hp (I.hok.fresh hp)) (I.hok.laid k hp new)
theorem Inv.write{x e:Addr}{o:HO}{t':Nat}(I:Inv X pins σ H s)(mu:Mut (H x))(he:e=x\/H e=some (.own x))(k:∀b u,b≠e->s.heap.get? b=some u->h'.get? b=some u)(heo:∃u,h'.get? e=some u)(new:ZP X.prog X.w (upd H x o) h' x o):Inv X pins σ (upd H x o) {s with heap:=h',toks:=t'}:=I.un (Un.write mu he k heo) (I.hok.write mu he k heo new)
theorem Inv.pins_of{pins':List (Addr×Obj)}(I:Inv X pins σ H s)(h:∀p∈pins',s.heap.get? p.1=some p.2/\H p.1=none/\p.1≠X.env.locals/\p.1∉X.fs/\∀v,p.2.data≠.cell v):Inv X pins' σ H s:=⟨I.ok,I.os,I.bare,I.base,I.loc,I.cell,I.free,I.freeC,λp hp=>(aP.mp hp).elim (λz=>I.pin p (bp _ z)) (h p),I.hok,I.len⟩
theorem Rc{N:List Str}(hN:N.Nodup){i j:Nat}{x:Str}(a:N[i]?=some x)(b:N[j]?=some x):i=j:=by obtain⟨h1,e1⟩:=aj.mp a;obtain⟨h2,e2⟩:=aj.mp b;exact(fz hN).mp (e1.trans e2.symm)
theorem Po{M:Model}{A:aX}{E:Value->ag->Prop}{i:Nat}{x:Str}{v:V}{u:Value}{Q:Unit->ag->Prop}(I:Inv X pins σ H s)(hN:X.N.Nodup)(hi:X.N[i]?=some x)(hx:Loc X.env.scope x)(r:RelV v u)(h:∀s',Inv X pins (σ.set i (some v)) H s'->(∃a,Heap.SameBut a s.heap s'.heap/\(a=X.env.locals\/X.env.cells.lookup x=some a))->Q () s')(hf:X.fn x=true\/X.env.scope.names.lookup x=some .local:=by first|exact .inl rfl|exact .inr rfl|assumption):wpAny M A (storeName X.env x u) Q E s:=by
 obtain⟨m,hn,hl⟩:=id I.loc;have hcls:(X.env.scope.kind==.class||(X.env.scope.kind==.module&&X.env.locals != X.env.globals))=false:=by rw[I.ok.kind];rfl
 have hiσ:i<σ.length:=by rw[I.len];exact(aj.mp hi).1
 have cne:=I.cne;have tracked:∀{a:Addr}{h':Heap},(∃o,s.heap.get? a=some o/\H a=none)->Heap.SameBut a s.heap h'->HOk X.prog X.w H h':=λ{a h'}ha hs b ob e=>by
  obtain⟨_,_,hfree⟩:=ha;refine(I.hok b ob e).stay (λc w' hc q=>(hs.2 c ?_).trans q) (λ_ q=>q) λ_ _ q=>q;rintro rfl;rcases hc with rfl|hc
  ·rw[hfree]at e;cases e
  ·rw[hfree]at hc;cases hc
 rcases hx with hk|hk
 ·refine wpAny_storeName_local hk hn (λh' hn' hs=>?_) hcls;obtain⟨oL,_,_,hoL,_⟩:=id hn;refine h _ ⟨I.ok,I.os,I.bare,⟨λb o e n hb hx=>?_,λb o e n hb hx=>?_,I.base.free,λb o e hx=>?_,I.base.tups,I.base.frzs,I.base.tbls⟩,⟨_,hn',λj y v' e1 e2 e3=>?_⟩,λy c e=>?_,I.free,I.freeC,λp hp=>?_,tracked ⟨oL,hoL,I.free⟩ hs,by simpa using I.len⟩ ⟨_,hs,.inl rfl⟩
  ·exact(hs.2 b (Nat.ne_of_lt (Nat.lt_of_lt_of_le (Heap.lt_size e) I.ok.above))).trans (I.base.keep b o e n hb hx)
  ·obtain⟨sl,e1⟩:=I.base.slot b o e n hb hx;exact⟨sl,(hs.2 b (Nat.ne_of_lt (Nat.lt_of_lt_of_le (Heap.lt_size e) I.ok.above))).trans e1⟩
  ·obtain⟨o',e1⟩:=I.base.there b o e hx;exact⟨o',(hs.2 b (Nat.ne_of_lt (Nat.lt_of_lt_of_le (Heap.lt_size e) I.ok.above))).trans e1⟩
  ·by_cases hj:j=i
   ·subst hj;rw[hi]at e1;cases e1;rw[dI hiσ]at e2;cases e2;exact⟨u,r,.inl ⟨hk,by simp⟩⟩
   ·rw[dN (bA hj)]at e2;obtain⟨u',r',q⟩:=hl j y v' e1 e2 e3;refine⟨u',r',?_⟩;rcases q with⟨k,e⟩|⟨k,c,e,z⟩
    ·refine .inl ⟨k,?_⟩;have:y≠x:=λe=>hj (Rc hN e1 (e▸hi));simp[this,e]
    ·exact .inr ⟨k,c,e,z.sameBut hs (cne y c e)⟩
  ·obtain⟨w',z⟩:=I.cell y c e;exact⟨w',z.sameBut hs (cne y c e)⟩
  ·obtain⟨e,n,ne,nf,d⟩:=I.pin p hp;exact⟨(hs.2 p.1 ne).trans e,n,ne,nf,d⟩
 ·have hfn:X.fn x=true:=by
   rcases hf with z|z
   ·exact z
   ·rw[z]at hk;cases hk
  obtain⟨c,hc⟩:=I.ok.has x (.inl hk);obtain⟨w',z⟩:=I.cell x c hc;refine wpAny_storeName_cell I.ok.kind hk hc z (λh' hc' hs=>?_);obtain⟨oc,hoc,hocd⟩:=id z;refine h {s with heap:=h'} ⟨I.ok,I.os,I.bare,⟨λb o e n hb hx=>?_,λb o e n hb hx=>?_,I.base.free,λb o e hx=>?_,I.base.tups,I.base.frzs,I.base.tbls⟩,⟨m,hn.sameBut hs (bA (cne x c hc)),λj y v' e1 e2 e3=>?_⟩,λy c' e=>?_,I.free,I.freeC,λp hp=>?_,tracked ⟨oc,hoc,I.freeC x c hc⟩ hs,by simpa using I.len⟩ ⟨c,hs,.inr hc⟩
  ·exact(hs.2 b (Nat.ne_of_lt (Nat.lt_of_lt_of_le (Heap.lt_size e) (I.ok.cab x c hfn hc)))).trans (I.base.keep b o e n hb hx)
  ·obtain⟨sl,e1⟩:=I.base.slot b o e n hb hx;exact⟨sl,(hs.2 b (Nat.ne_of_lt (Nat.lt_of_lt_of_le (Heap.lt_size e) (I.ok.cab x c hfn hc)))).trans e1⟩
  ·obtain⟨o',e1⟩:=I.base.there b o e hx;exact⟨o',(hs.2 b (Nat.ne_of_lt (Nat.lt_of_lt_of_le (Heap.lt_size e) (I.ok.cab x c hfn hc)))).trans e1⟩
  ·by_cases hj:j=i
   ·subst hj;rw[hi]at e1;cases e1;rw[dI hiσ]at e2;cases e2;exact⟨u,r,.inr ⟨.inl hk,c,hc,hc'⟩⟩
   ·rw[dN (bA hj)]at e2;obtain⟨u',r',q⟩:=hl j y v' e1 e2 e3;refine⟨u',r',?_⟩;rcases q with q|⟨k,c',e,z'⟩
    ·exact .inl q
    ·refine .inr ⟨k,c',e,z'.sameBut hs ?_⟩;rintro rfl;exact hj (Rc hN e1 (I.ok.inj _ _ _ e hc▸hi))
  ·by_cases hcc:c'=c
   ·subst hcc;exact⟨_,hc'⟩
   ·obtain⟨w2,z2⟩:=I.cell y c' e;exact⟨w2,z2.sameBut hs hcc⟩
  ·obtain⟨e,n,ne,nf,d⟩:=I.pin p hp;refine⟨(hs.2 p.1 ?_).trans e,n,ne,nf,d⟩;intro q;rw[q,hoc]at e;have q':oc=p.2:=ar e;exact d w' (by rw[<-q'];exact hocd)
theorem QM{M:Model}{A:aX}{E:Value->ag->Prop}{i:Nat}{x:Str}{v:V}{u:Value}{Q:Unit->ag->Prop}(I:Inv X pins σ H s)(hN:X.N.Nodup)(hi:X.N[i]?=some x)(hx:Loc X.env.scope x)(r:RelV v u)(h:∀s',Inv X pins (σ.set i (some v)) H s'->Q () s')(hf:X.fn x=true\/X.env.scope.names.lookup x=some .local:=by first|exact .inl rfl|exact .inr rfl|assumption):wpAny M A (storeName X.env x u) Q E s:=Po I hN hi hx r (λs' I' _=>h s' I') hf
theorem Inv.call'{s':ag}{ch:List Addr}(I:Inv X pins σ H s)(ho:s'.os=s.os)(u:Un (frs X.stack) ch H H' s.heap s'.heap)(hok:HOk X.prog X.w H' s'.heap)(hg:fD s'.gens)(hch:∀b∈ch,(b∈X.ex\/X.s₀.heap.objs.size<=b)/\b≠X.env.locals/\(∀x c,X.env.cells.lookup x=some c->c≠b)/\∀p∈X.pn++pins,p.1≠b):Inv X pins σ H' s':=by obtain⟨h',g',d',t',o'⟩:=s';have e:o'=s.os:=ho;subst e;exact I.call (g':=g') (t':=t') (d':=d') u hok hg hch
end
noncomputable abbrev XK:=Value->Option Addr->Hp->Prop
noncomputable abbrev St:=List (Option V)
noncomputable abbrev VK:=V->Hp->Prop
noncomputable abbrev TE:=St->Hp->VK->Prop
noncomputable abbrev TT:=St->Hp->(Bool->Hp->Prop)->Prop
noncomputable abbrev TA:=St->Hp->(List V->Hp->Prop)->Prop
structure Ends where
 nx:St->Hp->Prop
 rt:VK
 bk:St->Hp->Prop:=λ_ _=>False
 ct:St->Hp->Prop:=λ_ _=>False
noncomputable abbrev TS:=Ends->St->Hp->Prop
def EP(X:Cx)(pins:List (Addr×Obj))(σ:St)(Q:VK)(u:Value)(s':ag):Prop:=∃v H',Inv X pins σ H' s'/\RelV v u/\Q v H'
def TP(X:Cx)(pins:List (Addr×Obj))(σ:St)(Q:Bool->Hp->Prop)(b:Bool)(s':ag):Prop:=∃H',Inv X pins σ H' s'/\Q b H'
def AP(X:Cx)(pins:List (Addr×Obj))(σ:St)(Q:List V->Hp->Prop)(us:List Value)(s':ag):Prop:=∃vs H',Inv X pins σ H' s'/\Vals vs us/\Q vs H'
def SP(X:Cx)(pins:List (Addr×Obj))(D:Ends)(f:Flow)(s':ag):Prop:=match f with
|.next=>∃σ' H',Inv X pins σ' H' s'/\D.nx σ' H'
|.brk=>∃σ' H',Inv X pins σ' H' s'/\D.bk σ' H'
|.cont=>∃σ' H',Inv X pins σ' H' s'/\D.ct σ' H'
|.ret u=>∃v σ' H',Inv X pins σ' H' s'/\RelV v u/\D.rt v H'
def PE(X:Cx)(e:Expr)(t:TE):Prop:=∀(pins:List (Addr×Obj))(s:ag)(σ:St)(H:Hp)(Q:VK),Inv X pins σ H s->t σ H Q->wpAny (model X.prog X.w) X.A (eval e X.env) (EP X pins σ Q) X.xe s
def PT(X:Cx)(e:Expr)(t:TT):Prop:=∀(pins:List (Addr×Obj))(s:ag)(σ:St)(H:Hp)(Q:Bool->Hp->Prop),Inv X pins σ H s->t σ H Q->wpAny (model X.prog X.w) X.A (isTrue e X.env (eval e X.env)) (TP X pins σ Q) X.xe s
def PW(X:Cx)(e:Expr)(t:TT):Prop:=∀(whole:Sem Value)(pins:List (Addr×Obj))(s:ag)(σ:St)(H:Hp)(Q:Bool->Hp->Prop),Inv X pins σ H s->t σ H Q->wpAny (model X.prog X.w) X.A (isTrue e X.env whole) (TP X pins σ Q) X.xe s
theorem PW.pt{X:Cx}{e:Expr}{t:TT}(h:PW X e t):PT X e t:=h _
def PA(X:Cx)(es:List Expr)(t:TA):Prop:=∀(pos:Pos)(pins:List (Addr×Obj))(s:ag)(σ:St)(H:Hp)(Q:List V->Hp->Prop),Inv X pins σ H s->t σ H Q->wpAny (model X.prog X.w) X.A (spliced (cw pos (aD es X.env))) (AP X pins σ Q) X.xe s
def PS(X:Cx)(st:Stmt)(t:TS):Prop:=∀(pins:List (Addr×Obj))(s:ag)(σ:St)(H:Hp)(D:Ends),Inv X pins σ H s->t D σ H->wpAny (model X.prog X.w) X.A (exec st X.env) (SP X pins D) X.xe s
def PSs(X:Cx)(st:List Stmt)(t:TS):Prop:=∀(pins:List (Addr×Obj))(s:ag)(σ:St)(H:Hp)(D:Ends),Inv X pins σ H s->t D σ H->wpAny (model X.prog X.w) X.A (execs st X.env) (SP X pins D) X.xe s
theorem thn{α:Type}{t:Sem α}{Q Q':α->ag->Prop}{M:Model}{A:aX}{E:Value->ag->Prop}{s:ag}(h:wpAny M A t Q E s)(hQ:∀a s,Q a s->Q' a s):wpAny M A t Q' E s:=c5 h hQ λ_ _ x=>x
open PySem PySem.Spec PyProof.Rows
section
variable {X:Cx}
theorem bin{a b:Expr}{ta tb:TE}(ha:PE X a ta)(hb:PE X b tb){pins:List (Addr×Obj)}{s:ag}{σ:St}{H:Hp}{R:V->V->Hp->Prop}(I:Inv X pins σ H s)(h:ta σ H λx H1=>tb σ H1 λy H2=>R x y H2){α:Type}{Q:α->ag->Prop}{f:Value->Value->Sem α}(hf:∀v u s2 x y H2,Inv X pins σ H2 s2->RelV x v->RelV y u->R x y H2->wpAny (model X.prog X.w) X.A (f v u) Q X.xe s2):wpAny (model X.prog X.w) X.A (eval a X.env) (λv s₁=>wpAny (model X.prog X.w) X.A (eval b X.env) (λu s₂=>wpAny (model X.prog X.w) X.A (f v u) Q X.xe s₂) X.xe s₁) X.xe s:=by refine thn (ha pins s σ H _ I h) λv s1 hZ=>?_;obtain⟨x,H1,I1,r1,q1⟩:=hZ;refine thn (hb pins s1 σ H1 _ I1 q1) λu s2 hZ=>?_;obtain⟨y,H2,I2,r2,q2⟩:=hZ;exact hf v u s2 x y H2 I2 r1 r2 q2
def tVar(i:Nat):TE:=λσ H Q=>∃v,σ[i]?=some (some v)/\Q v H
def tC(v:V):TE:=λ_ H Q=>Q v H
theorem JX{i:Nat}{x:Str}{pos:Pos}(hN:X.N[i]?=some x)(hv:Vis X.env.scope x)(hd:(x==("__debug__":Str))=false:=by decide)(hcd:(x==("__classdict__":Str))=false:=by decide):PE X (.Name x pos) (tVar i):=by
 intro pins s σ H Q I h;obtain⟨v,e,h⟩:=h;obtain⟨m,hn,hl⟩:=I.loc;obtain⟨u,r,l⟩:=hl i x v hN e hv;have fin:EP X pins σ Q u s:=⟨v,H,I,r,h⟩;rcases l with⟨hk,hm⟩|⟨hk,c,hc,hcell⟩
 ·exact wpAny_Name (wpAny_loadName_local I.ok.kind hk hn hm fin) hd
 ·rcases hk with hk|hk
  ·exact wpAny_Name (wpAny_loadName_cell I.ok.kind hk hc hcell fin) hd
  ·exact wpAny_Name (wpAny_loadName_free I.ok.kind hk hc hcell fin hcd) hd
theorem Zc{i j pos}:PE X (.Constant (.int i) j pos) (tC (.int i)):=λ_ _ _ H _ I h=>wpAny_Constant_int ⟨.int i,H,I.tok _,⟨_,rfl⟩,h⟩
theorem MM{b j pos}:PE X (.Constant (.bool b) j pos) (tC (.bl b)):=λ_ _ _ H _ I h=>Constant_bool ⟨.bl b,H,I,rfl,h⟩
theorem Yc{j pos}:PE X (.Constant .none j pos) (tC .non):=λ_ _ _ H _ I h=>Constant_none ⟨.non,H,I,rfl,h⟩
theorem Zu{x j pos}:PE X (.Constant (.str x) j pos) (tC (.str x)):=λ_ _ _ H _ I h=>Calls.Constant_str ⟨.str x,H,I.tok _,⟨_,rfl⟩,h⟩
def Gl(X:Cx)(x:Str):Prop:=X.env.kindOf x=some .globalImplicit
theorem Na{E:Value->ag->Prop}{pins:List (Addr×Obj)}{s:ag}{σ:St}{H:Hp}{x:Str}{u:Value}{pos:Pos}{Q:Value->ag->Prop}(I:Inv X pins σ H s)(hg:Gl X x)(hm:X.mg x=some u)(h:Q u s)(hd:(x==("__debug__":Str))=false:=by decide):wpAny (model X.prog X.w) X.A (eval (.Name x pos) X.env) Q E s:=Calls.Name_function_global I.ok.kind hg (Calls.loadGlobal_global (by rw[I.ok.glob];exact I.mod.glob.keeps I.bk) hm h) hd
theorem J1{E:Value->ag->Prop}{pins:List (Addr×Obj)}{s:ag}{σ:St}{H:Hp}{x:Str}{u:Value}{pos:Pos}{Q:Value->ag->Prop}(I:Inv X pins σ H s)(hg:Gl X x)(hm:X.mg x=none)(hv:bF x=some u)(h:Q u s)(hn:x≠"__name__":=by decide)(hd:(x==("__debug__":Str))=false:=by decide):wpAny (model X.prog X.w) X.A (eval (.Name x pos) X.env) Q E s:=by obtain⟨mb,h1,h2⟩:=I.mod.blt;exact Calls.Name_function_global I.ok.kind hg (Calls.loadGlobal_builtin (by rw[I.ok.glob];exact I.mod.glob.keeps I.bk) hm (by rw[I.ok.blt];exact h1.keeps I.bk) ((h2 x hn).trans hv) h) hd
theorem ZR{x:Str}{v:V}{u:Value}{pos:Pos}(hg:Gl X x)(hm:X.mg x=some u)(r:RelV v u)(hd:(x==("__debug__":Str))=false:=by decide):PE X (.Name x pos) (tC v):=λ_ _ _ H _ I h=>Na I hg hm ⟨v,H,I,r,h⟩ hd
theorem Qr{x:Str}{v:V}{u:Value}{pos:Pos}(hg:Gl X x)(hm:X.mg x=none)(hv:bF x=some u)(r:RelV v u)(hn:x≠"__name__":=by decide)(hd:(x==("__debug__":Str))=false:=by decide):PE X (.Name x pos) (tC v):=λ_ _ _ H _ I h=>J1 I hg hm hv ⟨v,H,I,r,h⟩ hn hd
variable {a b:Expr}{ta tb:TE}{pos:Pos}
def PC(X:Cx)(op:CmpOp)(a b:Expr)(t:TE):Prop:=∀(pins:List (Addr×Obj))(s:ag)(σ:St)(H:Hp)(Q:VK),Inv X pins σ H s->t σ H Q ->wpAny (model X.prog X.w) X.A (eval a X.env) (λv s₁=>wpAny (model X.prog X.w) X.A (eval b X.env) (λu s₂=>wpAny (model X.prog X.w) X.A (bE op v u) (EP X pins σ Q) X.xe s₂) X.xe s₁) X.xe s
theorem Rf(b:Expr){op:CmpOp}(h:op≠.In)(h2:op≠.NotIn):dk op b=false:=by
 have e1:(op==CmpOp.In)=false:=by cases op<;>first|rfl|exact absurd rfl h
 have e2:(op==CmpOp.NotIn)=false:=by cases op<;>first|rfl|exact absurd rfl h2
 cases b<;>simp[dk,e1,e2]
def tB(t:TE):TT:=λσ H Q=>t σ H λx H1=>∃c,x=.bl c/\Q c H1
theorem E7{op:CmpOp}{t:TE}(h:PC X op a b t)(h1:dk op b=false:=by first|exact Rf _ (by decide) (by decide)|rfl):PE X (.Compare a [op] [b] pos) t:=λpins s σ H Q I hw=>wpAny_Compare1 (h pins s σ H Q I hw) h1
theorem E4{op:CmpOp}{t:TE}(h:PC X op a b t)(h1:dk op b=false:=by first|exact Rf _ (by decide) (by decide)|rfl):PT X (.Compare a [op] [b] pos) (tB t):=by intro pins s σ H Q I hw;refine wpAny_isTrue_Compare1 (thn (h pins s σ H _ I hw) λv s1 h1=>thn h1 λu s2 h2=>thn h2 λc s3 hZ=>?_) h1;obtain⟨x,H1,I1,r1,q1⟩:=hZ;obtain⟨d,rfl,q⟩:=q1;cases r1;exact bJ ⟨H1,I1,q⟩
theorem Z1{e:Expr}{t:TE}(h:PE X e t)(he:∀whole,isTrue e X.env whole=(do let v <-whole;gI e.pos;eR [v] (truthy v)):=by intro _;rfl):PT X e (tB t):=by
 intro pins s σ H Q I hw
 refine isTrue_plain (thn (h pins s σ H _ I hw) λv s1 hZ=>?_) (he _);obtain⟨x,H1,I1,r1,q1⟩:=hZ
 obtain⟨d,rfl,q⟩:=q1
 cases r1
 exact bJ ⟨H1,I1,q⟩
variable {tA tB':TT}{rest:List Expr}
def tAnd(t u:TT):TT:=λσ H Q=>t σ H λc H1=>if c=true then u σ H1 Q else Q false H1
def tOr(t u:TT):TT:=λσ H Q=>t σ H λc H1=>if c=true then Q true H1 else u σ H1 Q
def tNot(t:TT):TT:=λσ H Q=>t σ H λc H1=>Q (!c) H1
theorem TF(ha:PT X a tA):PW X (.BoolOp .And [a] pos) tA:=by
 intro wh pins s σ H Q I h;refine isTrue_and (thn (ha pins s σ H Q I h) λc s1 e=>?_);cases c with
|true=>exact isTrue_and_nil e
|false=>exact e
theorem Xj(ha:PT X a tA):PW X (.BoolOp .Or [a] pos) tA:=by
 intro wh pins s σ H Q I h;refine isTrue_or (thn (ha pins s σ H Q I h) λc s1 e=>?_);cases c with
|false=>exact isTrue_or_nil e
|true=>exact e
theorem K9(ha:PT X a tA)(hb:PW X (.BoolOp .And (b::rest) pos) tB'):PW X (.BoolOp .And (a::b::rest) pos) (tAnd tA tB'):=by
 intro wh pins s σ H Q I h;refine isTrue_and (thn (ha pins s σ H _ I h) λc s1⟨H1,I1,q1⟩=>?_);cases c with
|true=>exact hb wh pins s1 σ H1 Q I1 q1
|false=>exact⟨H1,I1,q1⟩
theorem JH(ha:PT X a tA)(hb:PW X (.BoolOp .Or (b::rest) pos) tB'):PW X (.BoolOp .Or (a::b::rest) pos) (tOr tA tB'):=by
 intro wh pins s σ H Q I h;refine isTrue_or (thn (ha pins s σ H _ I h) λc s1⟨H1,I1,q1⟩=>?_);cases c with
|true=>exact⟨H1,I1,q1⟩
|false=>exact hb wh pins s1 σ H1 Q I1 q1
theorem Z8(ha:PT X a tA):PT X (.UnaryOp .Not a pos) (tNot tA):=by intro pins s σ H Q I h;exact isTrue_not (ha pins s σ H (λc H1=>Q (!c) H1) I h)
def Hm(ta tb:TE):TE:=λσ H Q=>ta σ H λx H1=>∃c,x=.bl c/\if c=true then tb σ H1 Q else Q (.bl false) H1
def Hg(ta:TE):TE:=λσ H Q=>ta σ H λx H1=>∃c,x=.bl c/\Q (.bl (!c)) H1
theorem Ju{op}{t:TE}(h:PE X a t):PE X (.BoolOp op [a] pos) t:=λpins s σ H Q I hw=>BoolOp_one (h pins s σ H Q I hw)
theorem Mc(ha:PE X a ta)(hb:PE X (.BoolOp .And (b::rest) pos) tb):PE X (.BoolOp .And (a::b::rest) pos) (Hm ta tb):=by
 intro pins s σ H Q I h;refine BoolOp_and (thn (ha pins s σ H _ I h) λv s1 hZ=>?_);obtain⟨x,H1,I1,r1,q1⟩:=hZ;obtain⟨c,rfl,q1⟩:=q1;cases r1;refine bJ ?_;cases c with
|true=>exact hb pins s1 σ H1 Q I1 q1
|false=>exact⟨.bl false,H1,I1,rfl,q1⟩
theorem E6(ha:PE X a ta):PE X (.UnaryOp .Not a pos) (Hg ta):=by intro pins s σ H Q I h;refine UnaryOp_ (thn (ha pins s σ H _ I h) λv s1 hZ=>?_);obtain⟨x,H1,I1,r1,q1⟩:=hZ;obtain⟨c,rfl,q1⟩:=q1;cases r1;exact not_of (bJ ⟨.bl (!c),H1,I1,rfl,q1⟩)
def tIf(t:TT)(ta tb:TE):TE:=λσ H Q=>t σ H λc H1=>if c=true then ta σ H1 Q else tb σ H1 Q
theorem VE{c:Expr}(hc:PT X c tA)(ha:PE X a ta)(hb:PE X b tb):PE X (.IfExp c a b pos) (tIf tA ta tb):=by
 intro pins s σ H Q I h;refine wpAny_IfExp (thn (hc pins s σ H _ I h) λd s1⟨H1,I1,q1⟩=>?_);cases d with
|true=>exact ha pins s1 σ H1 Q I1 q1
|false=>exact hb pins s1 σ H1 Q I1 q1
end
open PySem PySem.Spec PyProof.Rows
def SqL(K:aa)(H:Hp)(a:Addr)(xs:List V):Prop:=Rd H a (.lst xs) \/∃(o:Obj)(its:Array Value)(n:Nat),K.lookup a=some o/\o.cls=.type "list"/\o.dict=none/\o.data=.seq its n/\its.size<=sizeLine/\Vals xs its.toList
def SqT(K:aa)(H:Hp)(a:Addr)(xs:List V):Prop:=Rd H a (.tup xs) \/∃(o:Obj)(its:Array Value)(n:Nat),K.lookup a=some o/\o.cls=.type "tuple"/\o.data=.seq its n/\its.size<=sizeLine/\Vals xs its.toList
noncomputable def absV:Value->Option V
|.none=>some .non
|.bool b=>some (.bl b)
|.int i _=>some (.int i)
|.str x _=>some (.str x)
|.bytes b _=>some (.byt b)
|.float b _=>some (.flt b)
|.ref a=>some (.ref a)
|.type n=>some (.ty n)
|_=>none
theorem RelV.abs{x:V}{u:Value}(r:RelV x u):absV u=some x:=by
 cases x with
|non=>cases r;rfl
|bl _=>cases r;rfl
|int _=>obtain⟨t,rfl⟩:=r;rfl
|str _=>obtain⟨t,rfl⟩:=r;rfl
|byt _=>obtain⟨t,rfl⟩:=r;rfl
|flt _=>obtain⟨t,rfl⟩:=r;rfl
|ref _=>cases r;rfl
|ty _=>cases r;rfl
theorem RelV.inj{x y:V}{u:Value}(r:RelV x u)(q:RelV y u):x=y:=ar (r.abs.symm.trans q.abs)
theorem Vals.inj:∀{xs ys:List V}{us:List Value},Vals xs us->Vals ys us->xs=ys
|_,_,_,.nil,.nil=>rfl
|_,_,_,.cons r t,.cons r' t'=>by rw[r.inj r',Vals.inj t t']
section
variable {X:Cx}{pins:List (Addr×Obj)}{σ:St}{H:Hp}{s:ag}{a:Addr}{xs ys:List V}
theorem SqL.of{K:aa}(h:H a=some (.lst xs)):SqL K H a xs:=.inl (.inl h)
theorem SqT.of{K:aa}(h:H a=some (.tup xs)):SqT K H a xs:=.inl (.inl h)
theorem Inv.list(I:Inv X pins σ H s)(h:SqL X.K H a xs):∃its:List Value,Vals xs its/\PlainL s.heap a its.toArray/\xs.length<=sizeLine:=by
 rcases h with h|⟨o,its,n,hk,hc,hd,hs,hz,r⟩
 ·obtain⟨z,its,n,r,e⟩:=h.ok I.hok;exact⟨its,r,⟨_,n,e,rfl,rfl,rfl⟩,z⟩
 ·refine⟨its.toList,r,⟨o,n,I.kIn a o hk,hc,hd,by simpa using hs⟩,?_⟩;have e:=r.length;simp only[f6]at e;omega
theorem Inv.tuple(I:Inv X pins σ H s)(h:SqT X.K H a xs):∃its:List Value,Vals xs its/\IsTup s.heap a its.toArray/\xs.length<=sizeLine:=by
 rcases h with h|⟨o,its,n,hk,hc,hs,hz,r⟩
 ·obtain⟨z,its,r,p⟩:=h.ok I.hok;exact⟨its,r,p,z⟩
 ·refine⟨its.toList,r,⟨o,I.kIn a o hk,hc,n,by simpa using hs⟩,?_⟩;have e:=r.length;simp only[f6]at e;omega
theorem Inv.list_inj(I:Inv X pins σ H s)(h:SqL X.K H a xs)(h':SqL X.K H a ys):xs=ys:=by
 obtain⟨its,r,⟨o,n,e,_,_,d⟩,_⟩:=I.list h;obtain⟨its',r',⟨o',n',e',_,_,d'⟩,_⟩:=I.list h';rw[e]at e';cases e';rw[d]at d';injection d' with d1 _;have:its=its':=by simpa using congrArg Array.toList d1
 subst this;exact r.inj r'
theorem Inv.tuple_inj(I:Inv X pins σ H s)(h:SqT X.K H a xs)(h':SqT X.K H a ys):xs=ys:=by
 obtain⟨its,r,⟨o,e,_,n,d⟩,_⟩:=I.tuple h;obtain⟨its',r',⟨o',e',_,n',d'⟩,_⟩:=I.tuple h';rw[e]at e';cases e';rw[d]at d';injection d' with d1 _;have:its=its':=by simpa using congrArg Array.toList d1
 subst this;exact r.inj r'
end
noncomputable abbrev Cx.wish(X:Cx)(E:Value->ag->Prop):Cx:={X with xe:=E}
noncomputable abbrev Cx.nox(X:Cx):Cx:=X.wish λ_ _=>False
theorem Cx.Ok.wish{X:Cx}(ok:X.Ok)(E:Value->ag->Prop):(X.wish E).Ok:=⟨ok.mod,ok.kind,ok.glob,ok.blt,ok.above,ok.inj,ok.has,ok.cab,ok.hd,ok.frames,ok.stk,ok.exf,ok.bs,ok.bsz,ok.noex,ok.exfs,ok.funs,ok.frf⟩
theorem Cx.Ok.unwish{X:Cx}{E:Value->ag->Prop}(ok:(X.wish E).Ok):X.Ok:=⟨ok.mod,ok.kind,ok.glob,ok.blt,ok.above,ok.inj,ok.has,ok.cab,ok.hd,ok.frames,ok.stk,ok.exf,ok.bs,ok.bsz,ok.noex,ok.exfs,ok.funs,ok.frf⟩
section
variable {X:Cx}{pins:List (Addr×Obj)}{σ:St}{H:Hp}{s:ag}{E:Value->ag->Prop}
theorem Inv.wish(I:Inv X pins σ H s)(E:Value->ag->Prop):Inv (X.wish E) pins σ H s:=⟨I.ok.wish E,I.os,I.bare,I.base,I.loc,I.cell,I.free,I.freeC,I.pin,I.hok,I.len⟩
theorem Inv.unwish(I:Inv (X.wish E) pins σ H s):Inv X pins σ H s:=⟨I.ok.unwish,I.os,I.bare,I.base,I.loc,I.cell,I.free,I.freeC,I.pin,I.hok,I.len⟩
theorem SP.unwish{D:Ends}{f:Flow}{s':ag}(h:SP (X.wish E) pins D f s'):SP X pins D f s':=by
 cases f with
|next=>obtain⟨σ',H',I,q⟩:=h;exact⟨σ',H',I.unwish,q⟩
|brk=>obtain⟨σ',H',I,q⟩:=h;exact⟨σ',H',I.unwish,q⟩
|cont=>obtain⟨σ',H',I,q⟩:=h;exact⟨σ',H',I.unwish,q⟩
|ret u=>obtain⟨v,σ',H',I,r,q⟩:=h;exact⟨v,σ',H',I.unwish,r,q⟩
theorem PSs.nox{st:List Stmt}{t:TS}(h:PSs X.nox st t):PSs X st t:=λpins s σ H D I hw=>c5 (h pins s σ H D (I.wish _) hw) (λ_ _ q=>q.unwish) λ_ _ z=>bQ z
end
section
variable {X:Cx}{st:Stmt}{rest:List Stmt}{t u:TS}{e:Expr}{te:TE}{pos:Pos}
def KC:TS:=λD σ H=>D.nx σ H
def tSeq(t u:TS):TS:=λD σ H=>t {D with nx:=u D} σ H
theorem Zy:PSs X [] KC:=λ_ _ σ H _ I h=>wpAny_execs_nil ⟨σ,H,I,h⟩
theorem Ze(h1:PS X st t)(h2:PSs X rest u):PSs X (st::rest) (tSeq t u):=by
 intro pins s σ H D I h;refine wpAny_execs_cons (thn (h1 pins s σ H {D with nx:=u D} I h) λf s1 q=>?_);cases f with
|next=>obtain⟨σ',H',I',q⟩:=q;exact h2 pins s1 σ' H' D I' q
|ret v=>exact q
|brk=>exact q
|cont=>exact q
theorem Zi(h1:PS X st t):PSs X [st] t:=by
 intro pins s σ H D I h;refine wpAny_execs_cons (thn (h1 pins s σ H D I h) λf s1 q=>?_);cases f with
|next=>exact wpAny_execs_nil q
|ret v=>exact q
|brk=>exact q
|cont=>exact q
theorem Inv.quiet{pins:List (Addr×Obj)}{σ:St}{H:Hp}{s:ag}(I:Inv X pins σ H s):interactive X.env=false:=by simp[interactive,I.ok.kind]
def Hk(te:TE):TS:=λD σ H=>te σ H λ_ H1=>D.nx σ H1
theorem Yp(he:PE X e te)(hs:eZ e none pos.line X.env=pure false:=by rfl):PS X (.Expr e pos) (Hk te):=by intro pins s σ H D I h;exact wpAny_Expr_any (thn (he pins s σ H _ I h) λv s1⟨x,H1,I1,r1,q1⟩=>⟨σ,H1,I1,q1⟩) I.quiet hs
def tRet(te:TE):TS:=λD σ H=>te σ H D.rt
theorem Zo(he:PE X e te):PS X (.Return (some e) pos) (tRet te):=by intro pins s σ H D I h;exact wpAny_Return_some (thn (he pins s σ H _ I h) λv s1⟨x,H1,I1,r1,q1⟩=>⟨x,σ,H1,I1,r1,q1⟩)
def tIfS(c:TT)(t u:TS):TS:=λD σ H=>c σ H λb H1=>if b=true then t D σ H1 else u D σ H1
theorem ZO{c:Expr}{a b:List Stmt}{tc:TT}(hc:PT X c tc)(ha:PSs X a t)(hb:PSs X b u):PS X (.If c a b pos) (tIfS tc t u):=by
 intro pins s σ H D I h;refine wpAny_If (thn (hc pins s σ H _ I h) λd s1⟨H1,I1,q1⟩=>?_);cases d with
|true=>exact ha pins s1 σ H1 D I1 q1
|false=>exact hb pins s1 σ H1 D I1 q1
end
noncomputable abbrev TG:=V->St->Hp->(St->Hp->Prop)->Prop
noncomputable abbrev TGs:=List V->St->Hp->(St->Hp->Prop)->Prop
def PG(X:Cx)(target:Expr)(t:TG):Prop:=∀(pins:List (Addr×Obj))(s:ag)(σ:St)(H:Hp)(v:V)(u:Value)(Q:St->Hp->Prop),Inv X pins σ H s->RelV v u->t v σ H Q ->wpAny (model X.prog X.w) X.A (assign target X.env u) (λ_ s'=>∃σ' H',Inv X pins σ' H' s'/\Q σ' H') X.xe s
def PGs(X:Cx)(ts:List Expr)(t:TGs):Prop:=∀(pins:List (Addr×Obj))(s:ag)(σ:St)(H:Hp)(vs:List V)(us:List Value)(Q:St->Hp->Prop),Inv X pins σ H s->Vals vs us->t vs σ H Q ->wpAny (model X.prog X.w) X.A (assignInOrder ((cL ts X.env).map (·.2)) us) (λ_ s'=>∃σ' H',Inv X pins σ' H' s'/\Q σ' H') X.xe s
noncomputable abbrev TSet:=V->V->V->Hp->(Hp->Prop)->Prop
def PSet(X:Cx)(t:TSet):Prop:=∀(pins:List (Addr×Obj))(s:ag)(σ:St)(H:Hp)(o i v:V)(ov iv u:Value)(Q:Hp->Prop),Inv X pins σ H s->RelV o ov->RelV i iv->RelV v u->t o i v H Q ->wpAny (model X.prog X.w) X.A (setItem ov iv u) (λ_ s'=>∃H',Inv X pins σ H' s'/\Q H') X.xe s
section
variable {X:Cx}{pos:Pos}
def XQ(i:Nat):TG:=λv σ H Q=>Q (σ.set i (some v)) H
theorem VV{i:Nat}{x:Str}(hN:X.N.Nodup)(hi:X.N[i]?=some x)(hx:Loc X.env.scope x)(hf:X.fn x=true\/X.env.scope.names.lookup x=some .local:=by first|exact .inl rfl|exact .inr rfl|assumption):PG X (.Name x pos) (XQ i):=by intro pins s σ H v u Q I r h;exact wpAny_assign_Name (QM I hN hi hx r (λs' I'=>⟨_,H,I',h⟩) hf)
noncomputable def gNil:TGs:=λvs σ H Q=>vs=[]/\Q σ H
noncomputable def HX(t:TG)(u:TGs):TGs:=λvs σ H Q=>∃v r,vs=v::r/\t v σ H λσ' H'=>u r σ' H' Q
theorem ZL:PGs X [] gNil:=by intro pins s σ H vs us Q I r h;obtain⟨e,h⟩:=h;subst e;cases r;exact assignInOrder_nil ⟨σ,H,I,h⟩
theorem Zl{e:Expr}{es:List Expr}{t:TG}{u:TGs}(h1:PG X e t)(h2:PGs X es u)(hs:(cL (e::es) X.env).map (·.2)=assign e X.env::(cL es X.env).map (·.2):=by rfl):PGs X (e::es) (HX t u):=by
 intro pins s σ H vs us Q I r h;obtain⟨v,vr,e1,h⟩:=h;subst e1;cases r with
|cons r rr=>rw[hs];refine assignInOrder_cons (thn (h1 pins s σ H _ _ _ I r h) λ_ s1 hZ=>?_);obtain⟨σ1,H1,I1,q1⟩:=hZ;exact h2 pins s1 σ1 H1 _ _ Q I1 rr q1
def gTup(K:aa)(n:Nat)(t:TGs):TG:=λv σ H Q=>∃a xs,v=.ref a/\SqT K H a xs/\xs.length=n/\t xs σ H Q
theorem XM{es:List Expr}{k:Nat}{t:TGs}{n:Nat}(hc:X.calm=true)(h:PGs X es t)(hn:(cL es X.env).length=n:=by rfl)(hst:(cL es X.env).findIdx? (·.1)=none:=by rfl):PG X (.Tuple es k pos) (gTup X.K n t):=by intro pins s σ H v u Q I r hw;obtain⟨a,xs,e1,hq,hl,hw⟩:=hw;subst e1;cases r;obtain⟨its,rv,ht,hz⟩:=I.tuple hq;refine assign_Tuple_tuple (I.ok.hd hc) ht (by simp[hn,<-hl,rv.length]) hst λh' hx=>?_;have I1:Inv X pins σ H {s with heap:=h'}:=I.kept (t':=s.toks) λb o e=>hx b o (Nat.ne_of_lt (Heap.lt_size e)) e;exact h pins _ σ H xs _ Q I1 (by simpa using rv) hw
def gSub(to ti:TE)(t:TSet):TG:=λv σ H Q=>to σ H λo H1=>ti σ H1 λi H2=>t o i v H2 λH3=>Q σ H3
theorem Ld{o i:Expr}{to ti:TE}{t:TSet}(ho:PE X o to)(hi:PE X i ti)(hs:PSet X t)
  (ha:∀v,assign (.Subscript o i pos) X.env v=(do
   let ov <-eR [v] (eval o X.env)
   let iv <-eR [v,ov] (eval i X.env)
   gI pos
   eR [v,ov,iv] (setItem ov iv v)
   release [v,ov,iv] []):=by intro _;rfl):PG X (.Subscript o i pos) (gSub to ti t):=by
 intro pins s σ H v u Q I r h
 rw[ha]
 refine ae (bz (thn (ho pins s σ H _ I h) λov s1 hZ=>?_));obtain⟨x,H1,I1,r1,q1⟩:=hZ
 refine ae (bz (thn (hi pins s1 σ H1 _ I1 q1) λiv s2 hZ=>?_));obtain⟨y,H2,I2,r2,q2⟩:=hZ
 refine ae (d5 (ae (bz (thn (hs pins s2 σ H2 x y v ov iv u _ I2 r1 r2 r q2) λ_ s3⟨H3,I3,q3⟩=>?_))))
 exact wpAny_release ⟨σ,H3,I3,q3⟩
def tAsg(te:TE)(g:TG):TS:=λD σ H=>te σ H λx H1=>g x σ H1 D.nx
theorem Jt{tg e:Expr}{te:TE}{g:TG}(he:PE X e te)(hg:PG X tg g)(hs:swapsWithSole [tg] e pos.line X.env=pure false:=by rfl)(hw:swappedStores [tg] e X.env=pure none:=by rfl)(h1:(cL [tg] X.env).map (·.2)=[assign tg X.env]:=by rfl):PS X (.Assign [tg] e pos) (tAsg te g):=by intro pins s σ H D I h;refine wpAny_Assign_stores (thn (he pins s σ H _ I h) λv s1 hZ=>?_) hs hw;obtain⟨x,H1,I1,r1,q1⟩:=hZ;rw[h1];exact thn (hg pins s1 σ H1 x v _ I1 r1 q1) λ_ s2 q=>q
theorem Z9{i:Nat}{x:Str}{e:Expr}{te:TE}{pos':Pos}(hN:X.N.Nodup)(hi:X.N[i]?=some x)(hx:Loc X.env.scope x)(he:PE X e te)(hs:eZ e (some (.Name x pos')) pos.line X.env=pure false:=by rfl)(hf:X.fn x=true\/X.env.scope.names.lookup x=some .local:=by first|exact .inl rfl|exact .inr rfl|assumption):PS X (.Assign [.Name x pos'] e pos) (tAsg te (XQ i)):=by intro pins s σ H D I h;refine wpAny_Assign_Name (thn (he pins s σ H _ I h) λv s1 hZ=>?_) hs;obtain⟨y,H1,I1,r1,q1⟩:=hZ;exact QM I1 hN hi hx r1 (λs2 I2=>⟨_,H1,I2,q1⟩) hf
end
structure It where
 go:Nat->Hp->Prop
 yld:Nat->Hp->V->Hp->Prop
 stop:Nat->Hp->Prop
def FpOk(X:Cx)(pins:List (Addr×Obj))(H:Hp)(b:Addr):Prop:=H b=none/\b≠X.env.locals/\b∉X.fs/\(b∈X.ex\/X.s₀.heap.objs.size<=b)/\(∀x c,X.env.cells.lookup x=some c->c≠b)/\∀p∈X.pn++pins,p.1≠b
theorem Inv.fpOk{X:Cx}{pins:List (Addr×Obj)}{σ:St}{H H':Hp}{s:ag}{b:Addr}(I:Inv X pins σ H s)(hb:s.heap.objs.size<=b)(hn:H' b=none):FpOk X pins H' b:=by
 refine⟨hn,Nat.ne_of_gt (Nat.lt_of_lt_of_le I.lt hb),I.nofs hb,.inr (Nat.le_trans I.sz hb),λx c e z=>?_,λp hp z=>?_⟩
 ·obtain⟨v,q⟩:=I.cell x c e;exact absurd (Nat.lt_of_lt_of_le q.lt (by rw[z];exact hb)) (Nat.lt_irrefl _)
 ·exact absurd (Nat.lt_of_lt_of_le (Heap.lt_size (I.pin p hp).1) (by rw[z];exact hb)) (Nat.lt_irrefl _)
structure Turn(P:Program)(w:World)(K:aa)(tg:Expr)(J:It)(fp:List Addr)(it:Addr)(tn:Nat->Heap->Prop):Prop where
 mem:it∈fp
 obj:∀i h,tn i h->∀b∈fp,∃o,h.get? b=some o/\∀v,o.data≠.cell v
 keep:∀i h h',tn i h->(∀b∈fp,∀o,h.get? b=some o->h'.get? b=some o)->tn i h'
 item:∀(X:Cx),X.prog=P->X.w=w->X.K=K->X.calm=true->∀(i:Nat)(pins:List (Addr×Obj))(s:ag)(σ:St)(H:Hp)(E:Value->ag->Prop),Inv X pins σ H s->(∀b∈fp,FpOk X pins H b)->tn i s.heap->J.go i H ->
  wpAny (model P w) X.A (fH (.ref it)) (λr s1=>∃u,r=some u /\
   wpAny (model P w) X.A (gi tg (.ref it) u) (λ_ s2=>∃x H',Inv X pins σ H' s2/\RelV x u/\J.yld i H x H'/\tn (i+1) s2.heap/\∀b∈fp,H' b=none) E s1) E s
 done:∀(X:Cx),X.prog=P->X.w=w->X.K=K->X.calm=true->∀(i:Nat)(pins:List (Addr×Obj))(s:ag)(σ:St)(H:Hp)(E:Value->ag->Prop),Inv X pins σ H s->(∀b∈fp,FpOk X pins H b)->tn i s.heap->J.stop i H ->
  wpAny (model P w) X.A (fH (.ref it)) (λr s1=>r=none/\Inv X pins σ H s1) E s
 self:∀(A:aX)(i:Nat)(s:ag)(Q:Value->ag->Prop)(E:Value->ag->Prop),tn i s.heap->Q (.ref it) s->wpAny (model P w) A (pyIter (.ref it)) Q E s
noncomputable abbrev TI:=St->Hp->(It->Hp->Prop)->Prop
def PIE(X:Cx)(pins:List (Addr×Obj))(σ:St)(tg:Expr)(R:It->Hp->Prop)(itv:Value)(s2:ag):Prop:=∃(it:Addr)(fp:List Addr)(tn:Nat->Heap->Prop)(J:It)(H':Hp),itv=.ref it/\Inv X pins σ H' s2/\Turn X.prog X.w X.K tg J fp it tn/\tn 0 s2.heap/\(∀b∈fp,FpOk X pins H' b)/\R J H'
def PI(X:Cx)(tg iter:Expr)(wi:TI):Prop:=∀(pins:List (Addr×Obj))(s:ag)(σ:St)(H:Hp)(R:It->Hp->Prop),Inv X pins σ H s->wi σ H R ->wpAny (model X.prog X.w) X.A (eval iter X.env) (λv s1=>wpAny (model X.prog X.w) X.A (pyIter v) (PIE X pins σ tg R) X.xe s1) X.xe s
theorem T6{M:Model}{A:aX}{E:Value->ag->Prop}{s:ag}{tg:Expr}{it:Addr}{u:Value}{o:Obj}{n:String}{vs:Array Value}{Q:Unit->ag->Prop}(ho:s.heap.get? it=some o)(hc:o.cls=.type n)(hd:o.data=.fields vs)(hn:["enumerate","zip","dict_itemiterator","dict_reverseitemiterator","odict_iterator","itertools.zip_longest","itertools.pairwise"].contains n=false)(hQ:Q () s):wpAny M A (gi tg (.ref it) u) Q E s:=by
 unfold gi;cases tg<;>first
 |exact ao hQ
 |(cases u<;>first
   |exact ao hQ
   |(refine ae (wpAny_load ho ?_);rw[hc,hd];show wpAny M A (if(["enumerate","zip","dict_itemiterator","dict_reverseitemiterator","odict_iterator","itertools.zip_longest","itertools.pairwise"].contains n&&vs[0]?==some (bU _))=true then _ else _) Q E s;rw[if_neg (by intro h;rw[hn,Bool.false_and]at h;cases h)];exact ao hQ))
noncomputable def Itl(K:aa)(a:Addr):It:=⟨λi H=>∃xs x,SqL K H a xs/\xs[i]?=some x,λi H x H'=>H'=H/\∀xs,SqL K H a xs->xs[i]?=some x,λi H=>∃xs,SqL K H a xs/\xs.length<=i⟩
noncomputable def Itt(K:aa)(a:Addr):It:=⟨λi H=>∃xs x,SqT K H a xs/\xs[i]?=some x,λi H x H'=>H'=H/\∀xs,SqT K H a xs->xs[i]?=some x,λi H=>∃xs,SqT K H a xs/\xs.length<=i⟩
noncomputable def Itr(lo:Int)(n:Nat):It:=⟨λi _=>i<n,λi H x H'=>H'=H/\x=.int (lo+i),λi _=>n<=i⟩
theorem Wq{P:Program}{w:World}{K:aa}{tg:Expr}(a it:Addr):Turn P w K tg (Itl K a) [it] it (λi h=>h.IsListIter it a i) where
 mem:=by simp
 obj:=λi h st b hb=>by
  have e:b=it:=by simpa using hb
  subst e
  obtain⟨o,e,c,d⟩:=st
  exact⟨o,e,λv z=>by rw[d]at z;cases z⟩
 keep:=λi h h' st k=>st.at λo e=>k it (by simp) o e
 item:=by
  intro X hP hw hK hc i pins s σ H E I hf st hg
  subst hP hw hK
  obtain⟨xs,x,hq,hx⟩:=hg
  obtain⟨its,rv,p,hz⟩:=I.list hq
  obtain⟨u,hu,ru⟩:=rv.get hx
  obtain⟨f0,f1,f2,f3,f4,f5⟩:=hf it (by simp)
  refine wpAny_pyNext_list_item st p.isList (x:=u) (by simpa using hu) λh' st' sb=>?_
  have I1:Inv X pins σ H {s with heap:=h'}:=I.turned (t':=s.toks) (λb o hb e=>(sb.2 b hb).trans e) f0 f1 f3 f4 f5
  obtain⟨o,e,c,d⟩:=id st'
  exact⟨u,rfl,T6 (s:={s with heap:=h'}) e c d (by decide) ⟨x,H,I1,ru,⟨rfl,λys hy=>by rw[I.list_inj hy hq];exact hx⟩,st',λb hb=>(hf b hb).1⟩⟩
 done:=by
  intro X hP hw hK hc i pins s σ H E I hf st hg
  subst hP hw hK
  obtain⟨xs,hq,hx⟩:=hg
  obtain⟨its,rv,p,hz⟩:=I.list hq
  obtain⟨f0,f1,f2,f3,f4,f5⟩:=hf it (by simp)
  have hl:=rv.length
  exact wpAny_pyNext_list_end (I.ok.hd hc) st p.isList (by simp;omega) λh' eb=>⟨rfl,I.turned (t':=s.toks) (λb o hb e=>eb b o hb e) f0 f1 f3 f4 f5⟩
 self:=λ_ _ _ _ _ st h=>wpAny_pyIter_listiter st h
theorem RC{P:Program}{w:World}{K:aa}{tg:Expr}(a it:Addr):Turn P w K tg (Itt K a) [it] it (λi h=>h.IsTupleIter it a i) where
 mem:=by simp
 obj:=λi h st b hb=>by
  have e:b=it:=by simpa using hb
  subst e
  obtain⟨o,e,c,d⟩:=st
  exact⟨o,e,λv z=>by rw[d]at z;cases z⟩
 keep:=λi h h' st k=>st.at λo e=>k it (by simp) o e
 item:=by
  intro X hP hw hK hc i pins s σ H E I hf st hg
  subst hP hw hK
  obtain⟨xs,x,hq,hx⟩:=hg
  obtain⟨its,rv,p,hz⟩:=I.tuple hq
  obtain⟨u,hu,ru⟩:=rv.get hx
  obtain⟨f0,f1,f2,f3,f4,f5⟩:=hf it (by simp)
  refine wpAny_pyNext_tuple_item st (show s.heap.IsTuple a its.toArray from p) (x:=u) (by simpa using hu) λh' st' sb=>?_
  have I1:Inv X pins σ H {s with heap:=h'}:=I.turned (t':=s.toks) (λb o hb e=>(sb.2 b hb).trans e) f0 f1 f3 f4 f5
  obtain⟨o,e,c,d⟩:=id st'
  exact⟨u,rfl,T6 (s:={s with heap:=h'}) e c d (by decide) ⟨x,H,I1,ru,⟨rfl,λys hy=>by rw[I.tuple_inj hy hq];exact hx⟩,st',λb hb=>(hf b hb).1⟩⟩
 done:=by
  intro X hP hw hK hc i pins s σ H E I hf st hg
  subst hP hw hK
  obtain⟨xs,hq,hx⟩:=hg
  obtain⟨its,rv,p,hz⟩:=I.tuple hq
  obtain⟨f0,f1,f2,f3,f4,f5⟩:=hf it (by simp)
  have hl:=rv.length
  exact wpAny_pyNext_tuple_end (I.ok.hd hc) st (show s.heap.IsTuple a its.toArray from p) (by simp;omega) λh' eb=>⟨rfl,I.turned (t':=s.toks) (λb o hb e=>eb b o hb e) f0 f1 f3 f4 f5⟩
 self:=λ_ _ _ _ _ st h=>wpAny_pyIter_tupleiter st h
theorem RD{P:Program}{w:World}{K:aa}{tg:Expr}(it:Addr)(lo:Int)(n:Nat):Turn P w K tg (Itr lo n) [it] it (λi h=>IsRangeIter h it (lo+(i:Nat)*1) ((n:Int)-(i:Nat)) 1) where
 mem:=by simp
 obj:=λi h st b hb=>by
  have e:b=it:=by simpa using hb
  subst e
  exact⟨_,st,λv z=>by
   have z':Data.fields _=Data.cell v:=z
   cases z'⟩
 keep:=λi h h' st k=>k it (by simp) _ st
 item:=by
  intro X hP hw hK hc i pins s σ H E I hf st hg
  subst hP hw hK
  obtain⟨f0,f1,f2,f3,f4,f5⟩:=hf it (by simp)
  have W:=Walks.range (prog:=X.prog) (w:=X.w) (I.ok.hd hc) it lo 1 n
  refine W.item i s _ _ hg st λv h' tk hv st' kk=>?_
  obtain⟨t,rfl⟩:=hv
  have I1:Inv X pins σ H {s with heap:=h',toks:=tk}:=I.turned (λb o hb e=>kk b o (by simpa using hb) e) f0 f1 f3 f4 f5
  refine⟨_,rfl,T6 (s:={s with heap:=h',toks:=tk}) (n:="range_iterator") st' rfl rfl (by decide) ⟨.int (lo+i),H,I1,⟨t,?_⟩,⟨rfl,rfl⟩,st',λb hb=>(hf b hb).1⟩⟩
  rw[Int.mul_one]
 done:=by
  intro X hP hw hK hc i pins s σ H E I hf st hg
  subst hP hw hK
  obtain⟨f0,f1,f2,f3,f4,f5⟩:=hf it (by simp)
  exact wpAny_pyNext_range_end (I.ok.hd hc) st (by have:n<=i:=hg;omega) λh' eb=>⟨rfl,I.turned (t':=s.toks) (λb o hb e=>eb b o hb e) f0 f1 f3 f4 f5⟩
 self:=λ_ _ _ _ _ st h=>wpAny_pyIter_rangeiter st h
open PySem PySem.Spec PyProof.Rows
section
variable {X:Cx}{tg:Expr}
noncomputable def HW(K:aa)(tl:TE):TI:=λσ H R=>tl σ H λx H1=>∃a,x=.ref a/\(∃xs,SqL K H1 a xs)/\R (Itl K a) H1
noncomputable def iTup(K:aa)(tl:TE):TI:=λσ H R=>tl σ H λx H1=>∃a,x=.ref a/\(∃xs,SqT K H1 a xs)/\R (Itt K a) H1
theorem Z3{l:Expr}{tl:TE}(hl:PE X l tl):PI X tg l (HW X.K tl):=by
 intro pins s σ H R I h;refine thn (hl pins s σ H _ I h) λv s1 hZ=>?_;obtain⟨x,H1,I1,r1,q1⟩:=hZ;obtain⟨a,e,⟨xs,hq⟩,q⟩:=q1;subst e;cases r1;obtain⟨its,rv,p,hz⟩:=I1.list hq;refine wpAny_pyIter_list p.isList ?_;refine⟨s1.heap.objs.size,[s1.heap.objs.size],_,_,H1,rfl,I1.kept (t':=s1.toks) λb o e=>Heap.get?_push_of_some _ e,Wq a _,⟨_,Heap.get?_push_size _ rfl,rfl,rfl⟩,λb hb=>?_,q⟩;have e:b=s1.heap.objs.size:=by simpa using hb
 subst e;exact I1.fpOk (Nat.le_refl _) (I1.hok.fresh (Nat.le_refl _))
theorem VD{l:Expr}{tl:TE}(hl:PE X l tl):PI X tg l (iTup X.K tl):=by
 intro pins s σ H R I h;refine thn (hl pins s σ H _ I h) λv s1 hZ=>?_;obtain⟨x,H1,I1,r1,q1⟩:=hZ;obtain⟨a,e,⟨xs,hq⟩,q⟩:=q1;subst e;cases r1;obtain⟨its,rv,p,hz⟩:=I1.tuple hq;refine gZ (show s1.heap.IsTuple a its.toArray from p) ?_;refine⟨s1.heap.objs.size,[s1.heap.objs.size],_,_,H1,rfl,I1.kept (t':=s1.toks) λb o e=>Heap.get?_push_of_some _ e,RC a _,⟨_,Heap.get?_push_size _ rfl,rfl,rfl⟩,λb hb=>?_,q⟩;have e:b=s1.heap.objs.size:=by simpa using hb
 subst e;exact I1.fpOk (Nat.le_refl _) (I1.hok.fresh (Nat.le_refl _))
theorem Q3{pins:List (Addr×Obj)}{σ:St}{H:Hp}{s:ag}{R:It->Hp->Prop}{E:Value->ag->Prop}{lo hi:Int}{t u v:Tok}{tk:Nat}(I:Inv X pins σ H s)(h1:-(2 ^ 62)<=lo)(h2:lo<2 ^ 62)(h3:-(2 ^ 62)<=hi)(h4:hi<2 ^ 62)(q:R (Itr lo (hi-lo).toNat) H):wpAny (model X.prog X.w) X.A (pyIter (.ref s.heap.objs.size)) (PIE X pins σ tg R) E {s with heap:=s.heap.push {cls:=.type "range",data:=.fields #[.int lo t,.int hi u,.int 1 v]},toks:=tk}:=by
 refine wpAny_pyIter_range (IsRange.new ..) (small_one h1 h2 h3 h4) ?_;have I1:Inv X pins σ H {s with heap:=s.heap.push {cls:=.type "range",data:=.fields #[.int lo t,.int hi u,.int 1 v]},toks:=tk}:=I.kept λb o e=>Heap.get?_push_of_some _ e;refine⟨(s.heap.push {cls:=.type "range",data:=.fields #[.int lo t,.int hi u,.int 1 v]}).objs.size,[(s.heap.push {cls:=.type "range",data:=.fields #[.int lo t,.int hi u,.int 1 v]}).objs.size],_,_,H,rfl,I1.kept (t':=tk) λb o e=>Heap.get?_push_of_some _ e,RD _ lo (hi-lo).toNat,?_,λb hb=>?_,q⟩
 ·have e1:lo+((0:Nat):Int)*1=lo:=by simp
  have e2:(((hi-lo).toNat:Nat):Int)-((0:Nat):Int)=Builtin.Range.rangeSize lo hi 1:=by rw[rangeSize_one];split<;>omega
  show IsRangeIter _ _ (lo+((0:Nat):Int)*1) ((((hi-lo).toNat:Nat):Int)-((0:Nat):Int)) 1;rw[e1,e2];exact Heap.get?_push_size _ rfl
 ·have e:b=(s.heap.push {cls:=.type "range",data:=.fields #[.int lo t,.int hi u,.int 1 v]}).objs.size:=by simpa using hb
  subst e;exact I1.fpOk (Nat.le_refl _) (I1.hok.fresh (Nat.le_refl _))
noncomputable def HV(ta:TA):TI:=λσ H R=>ta σ H λvs H1=>∃j:Int,vs=[.int j]/\-(2 ^ 62)<=j/\j<2 ^ 62/\R (Itr 0 j.toNat) H1
noncomputable def HU(ta:TA):TI:=λσ H R=>ta σ H λvs H1=>∃i j:Int,vs=[.int i,.int j]/\(-(2 ^ 62)<=i/\i<2 ^ 62/\-(2 ^ 62)<=j/\j<2 ^ 62)/\R (Itr i (j-i).toNat) H1
theorem Yn{a:Expr}{ta:TA}{p pos:Pos}(hg:Gl X "range")(hm:X.mg "range"=none)(ha:PA X [a] ta)(hs:aD [a] X.env=[(false,eval a X.env)]:=by rfl):PI X tg (.Call (.Name "range" p) [a] [] pos) (HV ta):=by
 intro pins s σ H R I h;refine Call_ (J1 I hg hm boot_range (br (thn (ha pos pins s σ H _ I h) λus s1 hZ=>?_) hs rfl));obtain⟨vs,H1,I1,r1,q1⟩:=hZ;obtain⟨j,e,q1,q2,q⟩:=q1;subst e;cases r1 with
|cons r rr=>cases rr;obtain⟨t,rfl⟩:=r;exact call_range_1 (Q3 I1 (by omega) (by omega) q1 q2 (by simpa using q))
theorem Pt{a b:Expr}{ta:TA}{p pos:Pos}(hg:Gl X "range")(hm:X.mg "range"=none)(ha:PA X [a,b] ta)(hs:aD [a,b] X.env=[(false,eval a X.env),(false,eval b X.env)]:=by rfl)(hs2:aD [b] X.env=[(false,eval b X.env)]:=by rfl):PI X tg (.Call (.Name "range" p) [a,b] [] pos) (HU ta):=by
 intro pins s σ H R I h;refine Call_ (J1 I hg hm boot_range (br (thn (ha pos pins s σ H _ I h) λus s1⟨vs,H1,I1,r1,q1⟩=>?_) (by rw[hs,hs2]) (by rw[hs2];rfl)));obtain⟨i,j,e,⟨q1,q2,q3,q4⟩,q⟩:=q1;subst e;cases r1 with
|cons r rr=>
  cases rr with
 |cons r' rr=>cases rr;obtain⟨t,rfl⟩:=r;obtain⟨t',rfl⟩:=r';exact call_range_2 (Q3 I1 q1 q2 q3 q4 q)
def tFor(wi:TI)(g:TG)(tb:TS):TS:=λD σ H=>wi σ H λJ H1=>∃W:Nat->Nat->St->Hp->Prop,(∃m,W 0 m σ H1)/\∀i m σ H,W i m σ H ->(J.stop i H/\D.nx σ H)\/(J.go i H/\∃N:St->Hp->Prop,(∀σ' H',N σ' H'->∃m',m'<m/\W (i+1) m' σ' H')/\∀x H',J.yld i H x H'->g x σ H' λσ2 H2=>tb {D with nx:=N,ct:=N,bk:=D.nx} σ2 H2)
noncomputable def NC(fp:List Addr)(h:Heap):List (Addr×Obj):=fp.filterMap λb=>(h.get? b).map λo=>(b,o)
theorem mem_pinsAt{fp:List Addr}{h:Heap}{b:Addr}{o:Obj}(hb:b∈fp)(e:h.get? b=some o):(b,o)∈NC fp h:=List.mem_filterMap.mpr ⟨b,hb,by rw[e];rfl⟩
theorem WI{fp:List Addr}{h:Heap}{p:Addr×Obj}(hp:p∈NC fp h):p.1∈fp/\h.get? p.1=some p.2:=by
 obtain⟨b,hb,e⟩:=List.mem_filterMap.mp hp;cases q:h.get? b with
|none=>rw[q]at e;cases e
|some o=>rw[q]at e;have e':(b,o)=p:=ar e;subst e';exact⟨hb,q⟩
theorem Inv.pinned{pins:List (Addr×Obj)}{σ:St}{H:Hp}{s:ag}{fp:List Addr}(I:Inv X pins σ H s)(hf:∀b∈fp,FpOk X pins H b)(ho:∀b∈fp,∃o,s.heap.get? b=some o/\∀v,o.data≠.cell v):Inv X (pins++NC fp s.heap) σ H s:=I.pins_of λp hp=>(aP.mp hp).elim (λz=>I.pin p (aW _ z)) λz=>by obtain⟨hb,e⟩:=WI z;obtain⟨f0,f1,f2,_⟩:=hf p.1 hb;obtain⟨o,e',d⟩:=ho p.1 hb;rw[e]at e';cases e';exact⟨e,f0,f1,f2,d⟩
theorem Inv.unpinned{pins pl:List (Addr×Obj)}{σ:St}{H:Hp}{s:ag}(I:Inv X (pins++pl) σ H s):Inv X pins σ H s:=I.pins_of λp hp=>I.pin p (aW _ (bp _ hp))
theorem YJ{iter:Expr}{body:List Stmt}{wi:TI}{g:TG}{tb:TS}{pos:Pos}(hp:PassesOwn (model X.prog X.w) X.A X.env X.xe)(hc:X.calm=true)(hi:PI X tg iter wi)(hg:PG X tg g)(hb:PSs X body tb)(hs:∀x,fF iter X.env x=pure x:=by intro _;rfl):PS X (.For tg iter body [] pos) (tFor wi g tb):=by
 intro pins s σ H D I h;refine wpAny_For (thn (hi pins s σ H _ I h) λv s1 h1=>thn h1 λitv s2 h2=>?_) hs;obtain⟨it,fp,tn,J,H2,e,I2,T,st2,f2,W,⟨m0,w0⟩,turn⟩:=h2;subst e;have stat:∀{H':Hp},(∀b∈fp,H' b=none)->∀b∈fp,FpOk X pins H' b:=λhn b hb=>⟨hn b hb,(f2 b hb).2⟩;refine codeAny_forLoop_any (λn s'=>∃i σ' H',Inv X pins σ' H' s'/\tn i s'.heap/\(∀b∈fp,H' b=none)/\W i n σ' H') ?_ m0 ⟨0,σ,H2,I2,st2,λb hb=>(f2 b hb).1,w0⟩;rintro n s3 ⟨i,σ3,H3,I3,st3,fr3,w3⟩;rcases turn i n σ3 H3 w3 with⟨stop,qn⟩|⟨go,N,hN,step⟩
 ·refine eI hp (thn (T.done X rfl rfl rfl hc i pins s3 σ3 H3 X.xe I3 (stat fr3) st3 stop) λr s4⟨hr,I4⟩=>?_);subst hr;exact wpAny_execs_nil ⟨σ3,H3,I4,qn⟩
 ·refine eI hp (thn (T.item X rfl rfl rfl hc i pins s3 σ3 H3 X.xe I3 (stat fr3) st3 go) λr s4⟨u,hr,h4⟩=>?_);subst hr;refine eI hp (thn h4 λ_ s5 hZ=>?_);obtain⟨x,H5,I5,r5,y5,st5,fr5⟩:=hZ;have I5':=I5.pinned (stat fr5) (T.obj _ _ st5);refine eI hp (thn (hg _ s5 σ3 H5 x u _ I5' r5 (step x H5 y5)) λ_ s6 hZ=>?_);obtain⟨σ6,H6,I6,q6⟩:=hZ;refine eI hp (thn (hb _ s6 σ6 H6 _ I6 q6) λf s7 q7=>?_);have again:∀{σ7:St}{H7:Hp},Inv X (pins++NC fp s5.heap) σ7 H7 s7->N σ7 H7->∃m,m<n/\∃i σ' H',Inv X pins σ' H' s7/\tn i s7.heap/\(∀b∈fp,H' b=none)/\W i m σ' H':=λ{σ7 H7}I7 n7=>by obtain⟨m',hm,w7⟩:=hN σ7 H7 n7;refine⟨m',hm,i+1,σ7,H7,I7.unpinned,T.keep _ _ _ st5 λb hb o e=>(I7.pin (b,o) (aW _ (aW _ (mem_pinsAt hb e)))).1,λb hb=>?_,w7⟩;obtain⟨o,e,d⟩:=T.obj _ _ st5 b hb;exact(I7.pin (b,o) (aW _ (aW _ (mem_pinsAt hb e)))).2.1
  cases f with
 |next=>obtain⟨σ7,H7,I7,n7⟩:=q7;exact again I7 n7
 |cont=>obtain⟨σ7,H7,I7,n7⟩:=q7;exact again I7 n7
 |brk=>obtain⟨σ7,H7,I7,q7⟩:=q7;exact⟨σ7,H7,I7.unpinned,q7⟩
 |ret v=>obtain⟨x7,σ7,H7,I7,r7,q7⟩:=q7;exact⟨x7,σ7,H7,I7.unpinned,r7,q7⟩
end
theorem LQ{K:aa}{a:Addr}{xs:List V}{g:TG}{tb:TS}{D:Ends}{σ:St}{H:Hp}(Pv:Nat->St->Hp->Prop)(h0:Pv 0 σ H)(hl:∀i σ H,i<=xs.length->Pv i σ H->SqL K H a xs)(hs:∀i x σ H,xs[i]?=some x->Pv i σ H->g x σ H λσ2 H2=>tb {D with nx:=Pv (i+1),ct:=Pv (i+1),bk:=D.nx} σ2 H2)(hd:∀σ H,Pv xs.length σ H->D.nx σ H):∃W:Nat->Nat->St->Hp->Prop,(∃m,W 0 m σ H)/\∀i m σ H,W i m σ H ->((Itl K a).stop i H/\D.nx σ H)\/((Itl K a).go i H/\∃N:St->Hp->Prop,(∀σ' H',N σ' H'->∃m',m'<m/\W (i+1) m' σ' H')/\∀x H',(Itl K a).yld i H x H'->g x σ H' λσ2 H2=>tb {D with nx:=N,ct:=N,bk:=D.nx} σ2 H2):=by
 refine⟨λi m σ H=>m=xs.length-i/\i<=xs.length/\Pv i σ H,⟨xs.length,by simp,Nat.zero_le _,h0⟩,?_⟩;rintro i m σ H ⟨rfl,hi,p⟩;have q:=hl i σ H hi p;by_cases hlt:i<xs.length
 ·refine .inr ⟨⟨xs,xs[i],q,by simp[hlt]⟩,Pv (i+1),λσ' H' p'=>⟨xs.length-(i+1),by omega,rfl,hlt,p'⟩,λx H' y=>?_⟩;obtain⟨e,y⟩:=y;subst e;exact hs i x σ _ (y xs q) p
 ·have e:i=xs.length:=by omega
  subst e;exact .inl ⟨⟨xs,q,Nat.le_refl _⟩,hd σ H p⟩
theorem V4{lo:Int}{n:Nat}{g:TG}{tb:TS}{D:Ends}{σ:St}{H:Hp}(Pv:Nat->St->Hp->Prop)(h0:Pv 0 σ H)(hs:∀i σ H,i<n->Pv i σ H->g (.int (lo+i)) σ H λσ2 H2=>tb {D with nx:=Pv (i+1),ct:=Pv (i+1),bk:=D.nx} σ2 H2)(hd:∀σ H,Pv n σ H->D.nx σ H):∃W:Nat->Nat->St->Hp->Prop,(∃m,W 0 m σ H)/\∀i m σ H,W i m σ H ->((Itr lo n).stop i H/\D.nx σ H)\/((Itr lo n).go i H/\∃N:St->Hp->Prop,(∀σ' H',N σ' H'->∃m',m'<m/\W (i+1) m' σ' H')/\∀x H',(Itr lo n).yld i H x H'->g x σ H' λσ2 H2=>tb {D with nx:=N,ct:=N,bk:=D.nx} σ2 H2):=by
 refine⟨λi m σ H=>m=n-i/\i<=n/\Pv i σ H,⟨n,by simp,Nat.zero_le _,h0⟩,?_⟩;rintro i m σ H ⟨rfl,hi,p⟩;by_cases hlt:i<n
 ·refine .inr ⟨hlt,Pv (i+1),λσ' H' p'=>⟨n-(i+1),by omega,rfl,hlt,p'⟩,λx H' y=>?_⟩;obtain⟨e,y⟩:=y;subst e y;exact hs i σ _ hlt p
 ·have e:i=n:=by omega
  subst e;exact .inl ⟨Nat.le_refl _,hd σ H p⟩
open PySem PySem.Spec PyProof.Rows
noncomputable abbrev R2:=V->V->Hp->VK->Prop
def OpR(X:Cx)(f:Value->Value->Sem Value)(r:R2):Prop:=∀(pins:List (Addr×Obj))(s:ag)(σ:St)(H:Hp)(x y:V)(v u:Value)(Q:VK),Inv X pins σ H s->RelV x v->RelV y u->r x y H Q ->wpAny (model X.prog X.w) X.A (f v u) (EP X pins σ Q) X.xe s
def UnR(X:Cx)(f:Value->Sem Value)(r:V->Hp->VK->Prop):Prop:=∀(pins:List (Addr×Obj))(s:ag)(σ:St)(H:Hp)(x:V)(v:Value)(Q:VK),Inv X pins σ H s->RelV x v->r x H Q ->wpAny (model X.prog X.w) X.A (f v) (EP X pins σ Q) X.xe s
def Jh(X:Cx)(f:Value)(r:List V->Hp->VK->Prop):Prop:=∀(pins:List (Addr×Obj))(s:ag)(σ:St)(H:Hp)(xs:List V)(us:List Value)(Q:VK),Inv X pins σ H s->Vals xs us->r xs H Q ->wpAny (model X.prog X.w) X.A (call f us) (EP X pins σ Q) X.xe s
def TruR(X:Cx)(r:V->Hp->(Bool->Hp->Prop)->Prop):Prop:=∀(pins:List (Addr×Obj))(s:ag)(σ:St)(H:Hp)(x:V)(v:Value)(Q:Bool->Hp->Prop),Inv X pins σ H s->RelV x v->r x H Q ->wpAny (model X.prog X.w) X.A (truthy v) (TP X pins σ Q) X.xe s
def tOp(r:R2)(ta tb:TE):TE:=λσ H Q=>ta σ H λx H1=>tb σ H1 λy H2=>r x y H2 Q
def tUn(r:V->Hp->VK->Prop)(ta:TE):TE:=λσ H Q=>ta σ H λx H1=>r x H1 Q
def rI(C:Int->Int->Prop)(g:Int->Int->V):R2:=λx y H Q=>∃i j,x=.int i/\y=.int j/\C i j/\Q (g i j) H
def rI0(g:Int->Int->V):R2:=λx y H Q=>∃i j,x=.int i/\y=.int j/\Q (g i j) H
noncomputable def rU(g:Int->V):V->Hp->VK->Prop:=λx H Q=>∃i,x=.int i/\Q (g i) H
section
variable {X:Cx}{a b c:Expr}{ta tb tc:TE}{pos:Pos}
theorem binT(ha:PE X a ta)(hb:PE X b tb){pins:List (Addr×Obj)}{s:ag}{σ:St}{H:Hp}{R:V->V->Hp->Prop}(I:Inv X pins σ H s)(h:ta σ H λx H1=>tb σ H1 λy H2=>R x y H2){Q:Value->ag->Prop}{f:Value->Value->Sem Value}(hf:∀v u s2 x y H2,Inv X pins σ H2 s2->RelV x v->RelV y u->R x y H2->wpAny (model X.prog X.w) X.A (f v u) Q X.xe s2):wpAny (model X.prog X.w) X.A (eval a X.env) (λv s₁=>wpAny (model X.prog X.w) X.A (eval b X.env) (λu s₂=>wpAny (model X.prog X.w) X.A (f v u) Q X.xe s₂) X.xe s₁) X.xe s:=by refine thn (ha pins s σ H _ I h) λv s1 hZ=>?_;obtain⟨x,H1,I1,r1,q1⟩:=hZ;refine thn (hb pins s1 σ H1 _ I1 q1) λu s2 hZ=>?_;obtain⟨y,H2,I2,r2,q2⟩:=hZ;exact hf v u s2 x y H2 I2 r1 r2 q2
theorem Zv{op:Operator}{r:R2}(ho:OpR X (cJ op) r)(ha:PE X a ta)(hb:PE X b tb):PE X (.BinOp a op b pos) (tOp r ta tb):=by intro pins s σ H Q I h;exact wpAny_BinOp (binT ha hb I h λv u s2 x y H2 I2 rx ry q=>ho pins s2 σ H2 x y v u Q I2 rx ry q)
theorem EA{op:UnaryOp}{r:V->Hp->VK->Prop}(ho:UnR X (unaryOp op) r)(ha:PE X a ta):PE X (.UnaryOp op a pos) (tUn r ta):=by intro pins s σ H Q I h;exact UnaryOp_ (thn (ha pins s σ H _ I h) λv s1⟨x,H1,I1,r1,q1⟩=>ho pins s1 σ H1 x v Q I1 r1 q1)
theorem opI{f:Value->Value->Sem Value}{C:Int->Int->Prop}{g:Int->Int->Int}(rule:∀(i j:Int)(t u:Tok)(s:ag)(Q:Value->ag->Prop)(E:Value->ag->Prop),C i j->Q (.int (g i j) s.toks) {s with toks:=s.toks+1}->wpAny (model X.prog X.w) X.A (f (.int i t) (.int j u)) Q E s):OpR X f (rI C λi j=>.int (g i j)):=by intro pins s σ H x y v u Q I rx ry h;obtain⟨i,j,rfl,rfl,hc,q⟩:=h;obtain⟨t,rfl⟩:=rx;obtain⟨t',rfl⟩:=ry;exact rule i j t t' s _ _ hc ⟨.int (g i j),H,I.tok _,⟨_,rfl⟩,q⟩
theorem opI0{f:Value->Value->Sem Value}{g:Int->Int->Int}(rule:∀(i j:Int)(t u:Tok)(s:ag)(Q:Value->ag->Prop)(E:Value->ag->Prop),Q (.int (g i j) s.toks) {s with toks:=s.toks+1}->wpAny (model X.prog X.w) X.A (f (.int i t) (.int j u)) Q E s):OpR X f (rI0 λi j=>.int (g i j)):=by intro pins s σ H x y v u Q I rx ry h;obtain⟨i,j,rfl,rfl,q⟩:=h;obtain⟨t,rfl⟩:=rx;obtain⟨t',rfl⟩:=ry;exact rule i j t t' s _ _ ⟨.int (g i j),H,I.tok _,⟨_,rfl⟩,q⟩
theorem opB0{f:Value->Value->Sem Value}{g:Int->Int->Bool}(rule:∀(i j:Int)(t u:Tok)(s:ag)(Q:Value->ag->Prop)(E:Value->ag->Prop),Q (.bool (g i j)) s->wpAny (model X.prog X.w) X.A (f (.int i t) (.int j u)) Q E s):OpR X f (rI0 λi j=>.bl (g i j)):=by intro pins s σ H x y v u Q I rx ry h;obtain⟨i,j,rfl,rfl,q⟩:=h;obtain⟨t,rfl⟩:=rx;obtain⟨t',rfl⟩:=ry;exact rule i j t t' s _ _ ⟨.bl (g i j),H,I,rfl,q⟩
def CDiv(i j:Int):Prop:=0<j/\j<1073741824
def CPow(i j:Int):Prop:=0<=j/\j<=1000000/\i.natAbs<2 ^ 64
def CMul(i j:Int):Prop:=(-(2 ^ 64)<i/\i<2 ^ 64)\/(-(2 ^ 64)<j/\j<2 ^ 64)
theorem CMul.ok{i j:Int}(h:CMul i j):IntMulOk i j:=by
 rcases h with⟨h1,h2⟩|⟨h1,h2⟩
 ·exact .of_left (intBits_le_64 h1 h2)
 ·exact .of_right (intBits_le_64 h1 h2)
theorem RB(k:Nat):(0:Int)<=2 ^ k:=by rw[two_pow_cast];exact Int.natCast_nonneg _
theorem ZT:OpR X (cJ .Add) (rI0 λi j=>.int (i+j)):=opI0 λ_ _ _ _ _ _ _ q=>add_int q
theorem Jv:OpR X (cJ .Sub) (rI0 λi j=>.int (i-j)):=opI0 λ_ _ _ _ _ _ _ q=>sub_int q
theorem Me:OpR X (cJ .Mult) (rI CMul λi j=>.int (i*j)):=opI λ_ _ _ _ _ _ _ hc q=>mul_int q hc.ok
theorem DP:OpR X (cJ .FloorDiv) (rI CDiv λi j=>.int (i / j)):=opI λi j _ _ _ _ _ hc q=>by have h1:(0:Int)<j:=hc.1;have h2:j<1073741824:=hc.2;exact floordiv_int (by omega) (by rw[Int.fdiv_eq_ediv_of_nonneg i (by omega)];exact q) (.inl (PyProof.noPylong_small (by omega)))
theorem Jw:OpR X (cJ .Mod) (rI (λ_ j=>0<j) λi j=>.int (i % j)):=opI λi j _ _ _ _ _ hc q=>by have h1:(0:Int)<j:=hc;exact mod_int' (by omega) (by rw[Int.fmod_eq_emod_of_nonneg i (by omega)];exact q)
theorem Fc:OpR X (cJ .Pow) (rI CPow λi j=>.int (i ^ j.toNat)):=opI λ_ _ _ _ _ _ _ hc q=>pow_int_small hc.1 hc.2.1 hc.2.2 q
theorem R4:OpR X (cJ .LShift) (rI CPow λi j=>.int (i*2 ^ j.toNat)):=opI λ_ _ _ _ _ _ _ hc q=>lshift_int_small hc.1 hc.2.1 hc.2.2 q
theorem E9:OpR X (cJ .RShift) (rI (λ_ j=>0<=j) λi j=>.int (i / 2 ^ j.toNat)):=opI λi j _ _ _ _ _ hc q=>rshift_int hc (by rw[Int.fdiv_eq_ediv_of_nonneg i (RB _)];exact q)
theorem Lo:OpR X (cJ .BitAnd) (rI0 λi j=>.int (bg i j)):=opI0 λ_ _ _ _ _ _ _ q=>and_int q
theorem unI{f:Value->Sem Value}{g:Int->Int}(rule:∀(i:Int)(t:Tok)(s:ag)(Q:Value->ag->Prop)(E:Value->ag->Prop),Q (.int (g i) s.toks) {s with toks:=s.toks+1}->wpAny (model X.prog X.w) X.A (f (.int i t)) Q E s):UnR X f (rU λi=>.int (g i)):=by intro pins s σ H x v Q I rx h;obtain⟨i,rfl,q⟩:=h;obtain⟨t,rfl⟩:=rx;exact rule i t s _ _ ⟨.int (g i),H,I.tok _,⟨_,rfl⟩,q⟩
theorem Kx:UnR X (unaryOp .USub) (rU λi=>.int (-i)):=unI λ_ _ _ _ _ q=>neg_int q
noncomputable def scal:V->V->Bool
|.non,.non=>true|.non,.int _=>true|.int _,.non=>true|.non,.bl _=>true|.bl _,.non=>true|.non,.str _=>true|.str _,.non=>true
|.int _,.int _=>true|.bl _,.bl _=>true|.str _,.str _=>true|.byt _,.byt _=>true
|.int _,.str _=>true|.str _,.int _=>true|.bl _,.str _=>true|.str _,.bl _=>true
|_,_=>false
def rEq:R2:=λx y H Q=>scal x y=true/\Q (.bl (decide (x=y))) H
def rNe:R2:=λx y H Q=>scal x y=true/\Q (.bl (!decide (x=y))) H
theorem We{i j:Int}:decide (V.int i=V.int j)=(i==j):=by rw[Bool.eq_iff_iff];simp
theorem LY{i j:Bool}:decide (V.bl i=V.bl j)=(i==j):=by rw[Bool.eq_iff_iff];simp
theorem Wc{i j:Str}:decide (V.str i=V.str j)=(i==j):=by rw[Bool.eq_iff_iff];simp
theorem Wf{i j:Array UInt8}:decide (V.byt i=V.byt j)=(i.toList==j.toList):=by rw[Bool.eq_iff_iff];cases i;cases j;simp
theorem ZN{pins:List (Addr×Obj)}{σ:St}{H:Hp}{s:ag}{Q:VK}{k k':Bool}(I:Inv X pins σ H s)(q:Q (.bl k) H)(e:k=k'):EP X pins σ Q (.bool k') s:=by subst e;exact⟨.bl k,H,I,rfl,q⟩
theorem YR:OpR X (bE .Eq) rEq:=by
 intro pins s σ H x y v u Q I rx ry h;obtain⟨hs,q⟩:=h;cases x with
|non=>
  cases rx;cases y with
 |non=>cases ry;exact PySem.EqNone.eq_none_none (ZN I q (by simp))
 |bl j=>cases ry;exact PySem.EqNone.eq_none_bool (ZN I q (by simp))
 |int j=>obtain⟨t',rfl⟩:=ry;exact PySem.EqNone.eq_none_int (ZN I q (by simp))
 |str j=>obtain⟨t',rfl⟩:=ry;exact PySem.EqNone.eq_none_str (ZN I q (by simp))
 |_=>exact absurd (show false=true from hs) Bool.false_ne_true
|bl i=>
  cases rx;cases y with
 |non=>cases ry;exact PySem.EqNone.eq_bool_none (ZN I q (by simp))
 |bl j=>cases ry;exact eq_bool (ZN I q LY)
 |str j=>obtain⟨t',rfl⟩:=ry;exact PySem.EqMixed.eq_bool_str (ZN I q (by simp))
 |_=>exact absurd (show false=true from hs) Bool.false_ne_true
|int i=>
  obtain⟨t,rfl⟩:=rx;cases y with
 |non=>cases ry;exact PySem.EqNone.eq_int_none (ZN I q (by simp))
 |int j=>obtain⟨t',rfl⟩:=ry;exact eq_int (ZN I q We)
 |str j=>obtain⟨t',rfl⟩:=ry;exact PySem.EqMixed.eq_int_str (ZN I q (by simp))
 |_=>exact absurd (show false=true from hs) Bool.false_ne_true
|str i=>
  obtain⟨t,rfl⟩:=rx;cases y with
 |non=>cases ry;exact PySem.EqNone.eq_str_none (ZN I q (by simp))
 |bl j=>cases ry;exact PySem.EqMixed.eq_str_bool (ZN I q (by simp))
 |int j=>obtain⟨t',rfl⟩:=ry;exact PySem.EqMixed.eq_str_int (ZN I q (by simp))
 |str j=>obtain⟨t',rfl⟩:=ry;exact eq_str (ZN I q Wc)
 |_=>exact absurd (show false=true from hs) Bool.false_ne_true
|byt i=>
  obtain⟨t,rfl⟩:=rx;cases y with
 |byt j=>obtain⟨t',rfl⟩:=ry;exact PySem.W.eq_bytes (ZN I q Wf)
 |_=>exact absurd (show false=true from hs) Bool.false_ne_true
|_=>cases y<;>exact absurd (show false=true from hs) Bool.false_ne_true
theorem Ra:OpR X (bE .NotEq) rNe:=by
 intro pins s σ H x y v u Q I rx ry h;obtain⟨hs,q⟩:=h;cases x with
|non=>
  cases rx;cases y with
 |non=>cases ry;exact PySem.EqNone.ne_none_none (ZN I q (by simp))
 |bl j=>cases ry;exact PySem.EqNone.ne_none_bool (ZN I q (by simp))
 |int j=>obtain⟨t',rfl⟩:=ry;exact PySem.EqNone.ne_none_int (ZN I q (by simp))
 |str j=>obtain⟨t',rfl⟩:=ry;exact PySem.EqNone.ne_none_str (ZN I q (by simp))
 |_=>exact absurd (show false=true from hs) Bool.false_ne_true
|bl i=>
  cases rx;cases y with
 |non=>cases ry;exact PySem.EqNone.ne_bool_none (ZN I q (by simp))
 |bl j=>cases ry;exact ne_bool (ZN I q (congrArg not LY))
 |str j=>obtain⟨t',rfl⟩:=ry;exact PySem.EqMixed.ne_bool_str (ZN I q (by simp))
 |_=>exact absurd (show false=true from hs) Bool.false_ne_true
|int i=>
  obtain⟨t,rfl⟩:=rx;cases y with
 |non=>cases ry;exact PySem.EqNone.ne_int_none (ZN I q (by simp))
 |int j=>obtain⟨t',rfl⟩:=ry;exact ne_int (ZN I q (congrArg not We))
 |str j=>obtain⟨t',rfl⟩:=ry;exact PySem.EqMixed.ne_int_str (ZN I q (by simp))
 |_=>exact absurd (show false=true from hs) Bool.false_ne_true
|str i=>
  obtain⟨t,rfl⟩:=rx;cases y with
 |non=>cases ry;exact PySem.EqNone.ne_str_none (ZN I q (by simp))
 |bl j=>cases ry;exact PySem.EqMixed.ne_str_bool (ZN I q (by simp))
 |int j=>obtain⟨t',rfl⟩:=ry;exact PySem.EqMixed.ne_str_int (ZN I q (by simp))
 |str j=>obtain⟨t',rfl⟩:=ry;exact ne_str (ZN I q (congrArg not Wc))
 |_=>exact absurd (show false=true from hs) Bool.false_ne_true
|byt i=>
  obtain⟨t,rfl⟩:=rx;cases y with
 |byt j=>obtain⟨t',rfl⟩:=ry;exact PySem.W.ne_bytes (ZN I q (congrArg not Wf))
 |_=>exact absurd (show false=true from hs) Bool.false_ne_true
|_=>cases y<;>exact absurd (show false=true from hs) Bool.false_ne_true
theorem EB:OpR X (bE .Lt) (rI0 λi j=>.bl (decide (i<j))):=opB0 λ_ _ _ _ _ _ _ q=>lt_int q
theorem TN:OpR X (bE .LtE) (rI0 λi j=>.bl (decide (i<=j))):=opB0 λ_ _ _ _ _ _ _ q=>le_int q
theorem Ll:OpR X (bE .Gt) (rI0 λi j=>.bl (decide (j<i))):=opB0 λ_ _ _ _ _ _ _ q=>gt_int q
theorem Mf:OpR X (bE .In) (λx y H Q=>∃i j,x=.str i/\y=.str j/\Q (.bl (!(gV j i 0 j.length 1).isEmpty)) H):=by intro pins s σ H x y v u Q I rx ry h;obtain⟨i,j,rfl,rfl,q⟩:=h;obtain⟨t,rfl⟩:=rx;obtain⟨t',rfl⟩:=ry;exact in_str (ZN I q rfl)
theorem NJ:OpR X (bE .Is) (λx y H Q=>y=.non/\Q (.bl (decide (x=.non))) H):=by
 intro pins s σ H x y v u Q I rx ry h;obtain⟨rfl,q⟩:=h;cases ry;refine is_none_gen (ZN I q ?_);cases x<;>first
 |(cases rx;rfl)
 |(obtain⟨t,rfl⟩:=rx;rfl)
theorem VX:OpR X (bE .IsNot) (λx y H Q=>y=.non/\Q (.bl (!decide (x=.non))) H):=by
 intro pins s σ H x y v u Q I rx ry h;obtain⟨rfl,q⟩:=h;cases ry;refine isnot_none_gen (ZN I q ?_);cases x<;>first
 |(cases rx;rfl)
 |(obtain⟨t,rfl⟩:=rx;rfl)
theorem ZC(b:Expr){op:CmpOp}(h:op≠.In:=by decide)(h2:op≠.NotIn:=by decide):dk op b=false:=by
 have e1:(op==CmpOp.In)=false:=by cases op<;>first|rfl|exact absurd rfl h
 have e2:(op==CmpOp.NotIn)=false:=by cases op<;>first|rfl|exact absurd rfl h2
 cases b<;>simp[dk,e1,e2]
theorem JY{op:CmpOp}{r:R2}(ho:OpR X (bE op) r)(ha:PE X a ta)(hb:PE X b tb)(hm:dk op b=false):PE X (.Compare a [op] [b] pos) (tOp r ta tb):=by intro pins s σ H Q I h;exact wpAny_Compare1 (binT ha hb I h λv u s2 x y H2 I2 rx ry q=>ho pins s2 σ H2 x y v u Q I2 rx ry q) hm
def Et(t:TE):TT:=λσ H Q=>t σ H λx H'=>∃k,x=.bl k/\Q k H'
theorem Zw{op:CmpOp}{r:R2}(ho:OpR X (bE op) r)(ha:PE X a ta)(hb:PE X b tb)(hm:dk op b=false):PT X (.Compare a [op] [b] pos) (Et (tOp r ta tb)):=by
 intro pins s σ H Q I h;refine wpAny_isTrue_Compare1 (thn (ha pins s σ H _ I h) λv s1⟨x,H1,I1,r1,q1⟩=>thn (hb pins s1 σ H1 _ I1 q1) λu s2⟨y,H2,I2,r2,q2⟩=>thn (ho pins s2 σ H2 x y v u _ I2 r1 r2 q2) λc s3 hZ=>?_) hm;obtain⟨z,H3,I3,r3,k,e,q3⟩:=hZ;subst e;cases r3;exact bJ ⟨H3,I3,q3⟩
def KG(r r':R2)(ta tb tc:TE):TE:=λσ H Q=>ta σ H λx H1=>tb σ H1 λy H2=>r x y H2 λz H3=>∃k,z=.bl k /\(if k=true then tc σ H3 λw' H4=>r' y w' H4 Q else Q (.bl false) H3)
theorem Lg{op op':CmpOp}{r r':R2}(ho:OpR X (bE op) r)(ho':OpR X (bE op') r')(ha:PE X a ta)(hb:PE X b tb)(hc:PE X c tc)(hm:lastMarks [op,op'] [b,c]=false:=by with_unfolding_all rfl):PE X (.Compare a [op,op'] [b,c] pos) (KG r r' ta tb tc):=by
 intro pins s σ H Q I h;refine Compare_chain (thn (ha pins s σ H _ I h) λv s1⟨x,H1,I1,r1,q1⟩=>chain_link (thn (hb pins s1 σ H1 _ I1 q1) λu s2⟨y,H2,I2,r2,q2⟩=>
  thn (ho pins s2 σ H2 x y v u _ I2 r1 r2 q2) λd s3⟨z,H3,I3,r3,k,e,q3⟩=>?_)) hm;subst e;cases r3;refine bJ ?_;cases k with
|false=>exact ite_ff ⟨.bl false,H3,I3,rfl,q3⟩
|true=>exact ite_tt (chain_last (thn (hc pins s3 σ H3 _ I3 q3) λw' s4⟨z',H4,I4,r4,q4⟩=>ho' pins s4 σ H4 y z' u w' Q I4 r2 r4 q4))
theorem La{op op':CmpOp}{r r':R2}(ho:OpR X (bE op) r)(ho':OpR X (bE op') r')(ha:PE X a ta)(hb:PE X b tb)(hc:PE X c tc)(hm:lastMarks [op,op'] [b,c]=false:=by with_unfolding_all rfl):PT X (.Compare a [op,op'] [b,c] pos) (Et (KG r r' ta tb tc)):=by
 intro pins s σ H Q I h;refine isTrue_chain (thn (ha pins s σ H _ I h) λv s1⟨x,H1,I1,r1,q1⟩=>test_link (thn (hb pins s1 σ H1 _ I1 q1) λu s2⟨y,H2,I2,r2,q2⟩=>
  thn (ho pins s2 σ H2 x y v u _ I2 r1 r2 q2) λd s3⟨z,H3,I3,r3,k,e,q3⟩=>?_)) hm;subst e;cases r3;refine bJ ?_;cases k with
|false=>obtain⟨k',e',q'⟩:=q3;cases e';exact ite_ff ⟨H3,I3,q'⟩
|true=>refine ite_tt (test_last (thn (hc pins s3 σ H3 _ I3 q3) λw' s4⟨z',H4,I4,r4,q4⟩=>thn (ho' pins s4 σ H4 y z' u w' _ I4 r2 r4 q4) λd' s5⟨z2,H5,I5,r5,k2,e2,q5⟩=>?_));subst e2;cases r5;exact bJ ⟨H5,I5,q5⟩
def TruV(K:aa)(x:V)(H:Hp)(k:Bool):Prop:=match x with
|.non=>k=false
|.bl b=>k=b
|.int i=>k=(i != 0)
|.str y=>y.length<=sizeLine/\k=((y.length:Int) != 0)
|.byt y=>y.size<=sizeLine/\k=((y.size:Int) != 0)
|.ref p=>(∃xs,SqL K H p xs/\k=!xs.isEmpty)\/(∃xs,SqT K H p xs/\k=!xs.isEmpty)\/∃kvs,H p=some (.dK kvs)/\k=!kvs.isEmpty
|_=>False
theorem Sh{κ:Type}{kvs:List (κ×V)}{vs:List (κ×Value)}(r:KV kvs vs):(!vs.isEmpty)=!kvs.isEmpty:=by cases r<;>rfl
theorem NT{xs:List V}{its:List Value}(r:Vals xs its):(!its.toArray.isEmpty)=!xs.isEmpty:=by cases r<;>simp
theorem UB:(sizeLine:Nat)<2 ^ 63:=by rw[d_];decide
theorem ES:TruR X (λx H Q=>∃k,TruV X.K x H k/\Q k H):=by
 intro pins s σ H x v Q I rx h;obtain⟨k,e,q⟩:=h;have hl:=UB;have hs:sizeLine=16777216:=d_;cases x with
|non=>cases rx;have e':k=false:=e;subst e';exact truthy_none ⟨H,I,q⟩
|bl b=>cases rx;have e':k=b:=e;subst e';exact bJ ⟨H,I,q⟩
|int i=>obtain⟨t,rfl⟩:=rx;have e':k=(i != 0):=e;subst e';exact PySem.P.truthy_int ⟨H,I,q⟩
|str y=>obtain⟨t,rfl⟩:=rx;obtain⟨hy,e'⟩:y.length<=sizeLine/\k=((y.length:Int) != 0):=e;subst e';exact PySem.P.truthy_str (by omega) ⟨H,I.tok _,q⟩
|byt y=>obtain⟨t,rfl⟩:=rx;obtain⟨hy,e'⟩:y.size<=sizeLine/\k=((y.size:Int) != 0):=e;subst e';exact PySem.W.truthy_bytes (by omega) ⟨H,I.tok _,q⟩
|ref p=>
  cases rx;have e':(∃xs,SqL X.K H p xs/\k=!xs.isEmpty)\/(∃xs,SqT X.K H p xs/\k=!xs.isEmpty)\/∃kvs,H p=some (.dK kvs)/\k=!kvs.isEmpty:=e;rcases e' with⟨xs,hx,e'⟩|⟨xs,hx,e'⟩|⟨kvs,hx,e'⟩
  ·subst e';obtain⟨its,r,pl,hz⟩:=I.list hx;have hlen:=r.length;exact wpAny_truthy_list pl.isList (by simp only[au];omega) ⟨H,I.tok _,by rw[NT r];exact q⟩
  ·subst e';obtain⟨its,r,pl,hz⟩:=I.tuple hx;have hlen:=r.length;exact truthy_tuple pl (by simp only[au];omega) ⟨H,I.tok _,by rw[NT r];exact q⟩
  ·subst e';obtain⟨hz,hS,vs,r,m⟩:kvs.length<=sizeLine/\(p==c7)=false/\∃vs,KV kvs vs/\s.heap.DictOf (Yv X.prog X.w) p vs:=I.hok p _ hx;have hlen:kvs.length=vs.length:=cv r;exact wpAny_truthy_dict hS m (by omega) ⟨H,I.tok _,by rw[Sh r];exact q⟩
|_=>exact(show False from e).elim
theorem JZ:OpR X (cJ .Add) (λx y H Q=>∃i j,x=.str i/\y=.str j/\i.length+j.length<=sizeLine/\Q (.str (i++j)) H):=by intro pins s σ H x y v u Q I rx ry h;obtain⟨i,j,rfl,rfl,hz,q⟩:=h;obtain⟨t,rfl⟩:=rx;obtain⟨t',rfl⟩:=ry;exact add_str (λt' tk=>⟨.str (i++j),H,I.tok _,⟨_,rfl⟩,q⟩) hz
theorem vals1{x:V}{us:List Value}(r:Vals [x] us):∃u,us=[u]/\RelV x u:=by
 cases r with
|cons r1 r2=>cases r2;exact⟨_,rfl,r1⟩
theorem vals2{x y:V}{us:List Value}(r:Vals [x,y] us):∃u w',us=[u,w']/\RelV x u/\RelV y w':=by
 cases r with
|cons r1 r2=>
  cases r2 with
 |cons r3 r4=>cases r4;exact⟨_,_,rfl,r1,r3⟩
theorem Kk(hc:X.calm=true):Jh X (.builtin "max") (λxs H Q=>∃i j,xs=[.int i,.int j]/\Q (.int (if j>i then j else i)) H):=by
 intro pins s σ H xs us Q I r h;obtain⟨i,j,rfl,q⟩:=h;obtain⟨u,w',rfl,⟨t,rfl⟩,⟨t',rfl⟩⟩:=vals2 r;refine max_two_ints (I.ok.hd hc) λh' tk k=>⟨_,H,I.kept k,?_,q⟩;by_cases hj:j>i
 ·rw[if_pos hj,if_pos hj];exact⟨_,rfl⟩
 ·rw[if_neg hj,if_neg hj];exact⟨_,rfl⟩
theorem Kj(hc:X.calm=true):Jh X (.builtin "min") (λxs H Q=>∃i j,xs=[.int i,.int j]/\Q (.int (if j<i then j else i)) H):=by
 intro pins s σ H xs us Q I r h;obtain⟨i,j,rfl,q⟩:=h;obtain⟨u,w',rfl,⟨t,rfl⟩,⟨t',rfl⟩⟩:=vals2 r;refine min_two_ints (I.ok.hd hc) λh' tk k=>⟨_,H,I.kept k,?_,q⟩;by_cases hj:j<i
 ·rw[if_pos hj,if_pos hj];exact⟨_,rfl⟩
 ·rw[if_neg hj,if_neg hj];exact⟨_,rfl⟩
theorem MF:Jh X (.type "int") (λxs H Q=>(∃i,xs=[.int i]/\Q (.int i) H)\/∃k,xs=[.bl k]/\Q (.int (if k then 1 else 0)) H):=by
 intro pins s σ H xs us Q I r h;rcases h with⟨i,rfl,q⟩|⟨k,rfl,q⟩
 ·obtain⟨u,rfl,t,rfl⟩:=vals1 r;exact call_int_int ⟨.int i,H,I,⟨_,rfl⟩,q⟩
 ·obtain⟨u,rfl,r1⟩:=vals1 r;cases r1;exact call_int_bool ⟨.int (if k then 1 else 0),H,I.tok _,⟨_,rfl⟩,q⟩
def LenV(K:aa)(x:V)(H:Hp)(n:Nat):Prop:=match x with
|.str y=>y.length<=sizeLine/\n=y.length
|.byt y=>y.size<=sizeLine/\n=y.size
|.ref p=>(∃xs,SqL K H p xs/\n=xs.length)\/∃xs,SqT K H p xs/\n=xs.length
|_=>False
theorem Dh:Jh X (.builtin "len") (λxs H Q=>∃x n,xs=[x]/\LenV X.K x H n/\Q (.int n) H):=by
 intro pins s σ H xs us Q I r h;obtain⟨x,n,rfl,e,q⟩:=h;obtain⟨u,rfl,rx⟩:=vals1 r;have hl:=UB;have hs:sizeLine=16777216:=d_;cases x with
|str y=>obtain⟨t,rfl⟩:=rx;obtain⟨hy,e'⟩:y.length<=sizeLine/\n=y.length:=e;subst e';exact len_str (by omega) ⟨.int _,H,I.tok _,⟨_,rfl⟩,q⟩
|byt y=>obtain⟨t,rfl⟩:=rx;obtain⟨hy,e'⟩:y.size<=sizeLine/\n=y.size:=e;subst e';exact PySem.W.len_bytes (by omega) ⟨.int _,H,I.tok _,⟨_,rfl⟩,q⟩
|ref p=>
  cases rx;have e':(∃xs,SqL X.K H p xs/\n=xs.length)\/∃xs,SqT X.K H p xs/\n=xs.length:=e;rcases e' with⟨xs,hx,e'⟩|⟨xs,hx,e'⟩
  ·subst e';obtain⟨its,r',pl,hz⟩:=I.list hx;have hlen:=r'.length;exact Calls.call_len_list pl.isList (by simp only[au];omega) ⟨.int xs.length,H,I.tok _,⟨_,by simp only[au];rw[hlen]⟩,q⟩
  ·subst e';obtain⟨its,r',pl,hz⟩:=I.tuple hx;have hlen:=r'.length;exact len_tuple pl (by simp only[au];omega) ⟨.int xs.length,H,I.tok _,⟨_,by simp only[au];rw[hlen]⟩,q⟩
|_=>exact(show False from e).elim
end
open PySem PySem.Spec PyProof.Rows
structure ObjM(h:Heap)(x dx C:Addr)(mA:Str->Option Value):Prop where
 obj:h.get? x=some (cA C dx)
 ns:h.Ns1 dx mA
 ne:dx≠x
theorem WM{h:Heap}{dx:Addr}{mA:Str->Option Value}(n:h.Ns1 dx mA):∃od,h.get? dx=some od/\∀name,fK name od=some (mA name):=by
 obtain⟨o,es,ep,ho,hd,hk,_,hm⟩:=n;refine⟨o,ho,λname=>?_⟩;have e:=hm name;unfold nsFind findBy at e;rw[<-Array.find?_toList]at e;unfold fK;rw[hd];dsimp only;split
 ·rename_i y q;rw[q]at e;exact congrArg some e
 ·rename_i q;rw[q]at e;have a:es.toList.any (·.refKey)=false:=by rw[List.any_eq_false];intro y hy;obtain⟨z,t,hkey⟩:=hk y (Array.mem_toList_iff.mp hy);simp[DictEntry.refKey,hkey]
  have a':¬es.toList.any (·.refKey)=true:=by rw[a];exact Bool.false_ne_true
  rw[if_neg a'];exact congrArg some e
theorem ObjM.look{h:Heap}{x dx C:Addr}{mA:Str->Option Value}(I:ObjM h x dx C mA):∃od,PySem.W.InstAt h x (cA C dx) C (some od)/\∀name,fK name od=some (mA name):=let ⟨od,ho,hl⟩:=WM I.ns
 ⟨od,⟨I.obj,rfl,rfl,ho⟩,hl⟩
section
variable {prog:Program}{w:World}{A:aX}{E:Value->ag->Prop}{s:ag}{K:aa}{x dx C f:Addr}{mA:Str->Option Value}{name:Str}{v:Value}
theorem get_map{expr:Bool}{Q:Value->ag->Prop}(X:K.In s.heap)(I:ObjM s.heap x dx C mA)(hg:dj K C name=true)(hh:cD K C=true)(ha:ax K (.ref C) name=some none)(hv:mA name=some v)(hv':PySem.W.handedIn v=true)(h:Q v {s with toks:=s.toks+1}):wpAny (model prog w) A (getAttr (.ref x) name expr) Q E s:=by obtain⟨od,J,hl⟩:=I.look;exact PySem.W.get_value X J (fS hg).1 (PySem.W.findObj_own hh ha rfl (by rw[hl,hv])) hv' h
theorem LP{pl:Sem Bool}{Q:Value×List Value->ag->Prop}(X:K.In s.heap)(I:ObjM s.heap x dx C mA)(hg:dj K C name=true)(hf:ax K (.ref C) name=some (some (.ref f)))(ht:dQ K (.ref f)=true)(hv:mA name=none)(h:Q (.ref f,[.ref x]) s):wpAny (model prog w) A (e_ (.ref x) name pl) Q E s:=by obtain⟨od,J,hl⟩:=I.look;exact PySem.W.method_fn X J (fS hg).1 (fS hg).2 hf (beq_iff_eq.mp ht) (by show(fK name od).map (·.isSome)=some false;rw[hl,hv];rfl) h
theorem Dz{ns:List Str}{Q:Unit->ag->Prop}(X:K.In s.heap)(I:ObjM s.heap x dx C mA)(hs:ax K (.ref C) "__setattr__"=some (some (.builtin "object.__setattr__")))(hp:eB K C=true)(ht:gP K C name=some none)(hh:cD K C=true)(hw:dq mA ns)(hsz:ns.length<=sizeLine)(h:∀h',ObjM h' x dx C (λy=>if y=name then some v else mA y)->Heap.SameBut dx s.heap h'->Q () {s with heap:=h',toks:=s.toks+2}):wpAny (model prog w) A (setAttr (.ref x) name v) Q E s:=by obtain⟨od,J,hl⟩:=I.look;refine PySem.W.set_plain X J hs (PySem.W.osa_open (s:={s with toks:=s.toks+1}) (r:=none) X J hp ht λb=>?_);obtain⟨cd,hc,hd'⟩:=PySem.W.any_some hh;have hx:s.heap.get? x=some ⟨.ref C,some dx,.plain,#[]⟩:=I.obj;refine ae (ao (ae (ae (wpAny_loadPart hx (ae (PySem.W.Looks.here (s:={s with toks:=s.toks+1}) (PySem.W.looks_clsIn X hc) ?_))))));rw[hd'];refine ao (a:=some dx) (ae (ao (ae ?_)));refine wpAny_nsSet1 (s:={s with toks:=s.toks+1}) I.ns λh' hn2 hs2=>?_;obtain⟨oD,esD,epD,hoD,hdD,hcD⟩:=hn2.count (PySem.Within.cons name v hw);refine ae (wpAny_lookBehind hoD (by rw[hdD];exact pastItsLine_dict (Nat.le_trans hcD (by rw[aN];omega))) ?_);exact ao (h _ ⟨(hs2.2 _ (bA I.ne)).trans I.obj,hn2,I.ne⟩ hs2)
theorem Lz{R:Result->ag->Prop}{vs:List Value}{kw:List (Str×Value)}(X:K.In s.heap)(hm:ft K C=true)(hi:ax K (.ref C) "__init__"=some (some (.ref f)))(hf:PySem.W.typeIn K (.ref f)=some (.type "function"))(h:fC (model prog w) (A.under (.builtin "type.__call__" ⟨.ref C::vs,kw⟩)) (.call (.ref f) ⟨.ref (s.heap.objs.size+1)::vs,kw⟩) (PySem.W.InitBack (s.heap.objs.size+1) R) {s with heap:=(s.heap.push bP).push (cA C s.heap.objs.size)}):fC (model prog w) A (.call (.ref C) ⟨vs,kw⟩) R s:=by obtain⟨hh,g,d,t,os⟩:=s;exact PySem.W.make_core (PySem.W.makes_of X hm) (PySem.W.looks_findIn X hi) (λself=>PySem.W.bind_fn X self hf) (.inl rfl) h
end
noncomputable def putF(f:Str)(v:V):List (Str×V)->List (Str×V)
|[]=>[(f,v)]
|(g,x)::r=>if g=f then(g,v)::r else(g,x)::putF f v r
theorem Zn(f g:Str)(v:V):∀fs:List (Str×V),(putF f v fs).lookup g=if g=f then some v else fs.lookup g
|[]=>by
  show dM g [(f,v)]=_;by_cases h:g=f
  ·have hb:(g==f)=true:=beq_iff_eq.mpr h;simp only[dM,hb,if_pos h]
  ·have hb:(g==f)=false:=beq_eq_false_iff_ne.mpr h;simp only[dM,hb,if_neg h]
|(k,x)::r=>by
  have ih:=Zn f g v r;rw[show putF f v ((k,x)::r)=(if k=f then(k,v)::r else(k,x)::putF f v r)from rfl];by_cases hk:k=f
  ·rw[if_pos hk];by_cases h:g=k
   ·have hb:(g==k)=true:=beq_iff_eq.mpr h;simp only[dM,hb,if_pos (h.trans hk)]
   ·have hb:(g==k)=false:=beq_eq_false_iff_ne.mpr h;simp only[dM,hb,if_neg (λe:g=f=>h (e.trans hk.symm))]
  ·rw[if_neg hk];by_cases h:g=k
   ·have hb:(g==k)=true:=beq_iff_eq.mpr h;simp only[dM,hb,if_neg (λe:g=f=>hk (h.symm.trans e))]
   ·have hb:(g==k)=false:=beq_eq_false_iff_ne.mpr h;simp only[dM,hb];exact ih
theorem JL(f:Str)(v:V):∀fs:List (Str×V),f∈(putF f v fs).map (·.1)/\∀g,g∈fs.map (·.1)->g∈(putF f v fs).map (·.1)
|[]=>⟨by simp[putF],λg h=>by simp at h⟩
|(k,x)::r=>by
  obtain⟨i1,i2⟩:=JL f v r;rw[show putF f v ((k,x)::r)=(if k=f then(k,v)::r else(k,x)::putF f v r)from rfl];by_cases hk:k=f
  ·rw[if_pos hk];subst hk;exact⟨by simp,λg h=>by simpa using h⟩
  ·rw[if_neg hk];refine⟨?_,λg h=>?_⟩
   ·rw[aL];exact av _ i1
   ·rw[aL]at h ⊢;rcases aA.mp h with e|e
    ·exact aA.mpr (.inl e)
    ·exact av _ (i2 g e)
theorem Ye(f:Str)(v:V):∀fs:List (Str×V),(putF f v fs).length<=fs.length+1
|[]=>by simp[putF]
|(k,x)::r=>by
  have ih:=Ye f v r;rw[show putF f v ((k,x)::r)=(if k=f then(k,v)::r else(k,x)::putF f v r)from rfl];by_cases hk:k=f
  ·rw[if_pos hk,aN,aN];omega
  ·rw[if_neg hk,aN,aN];omega
theorem RelO.some_of{v:V}{o:Option Value}(r:RelO (some v) o):∃u,o=some u/\RelV v u:=by
 cases o with
|none=>exact(show False from r).elim
|some u=>exact⟨u,rfl,r⟩
theorem RelO.none_of{o:Option Value}(r:RelO none o):o=none:=by
 cases o with
|none=>rfl
|some u=>exact(show False from r).elim
theorem WT{v:V}{u:Value}(r:RelV v u):PySem.W.handedIn u=true:=by
 cases v with
|non=>cases(show u=Value.none from r);rfl
|bl b=>cases(show u=Value.bool b from r);rfl
|int i=>obtain⟨t,e⟩:=(show ∃t,u=Value.int i t from r);cases e;rfl
|str x=>obtain⟨t,e⟩:=(show ∃t,u=Value.str x t from r);cases e;rfl
|byt b=>obtain⟨t,e⟩:=(show ∃t,u=Value.bytes b t from r);cases e;rfl
|flt b=>obtain⟨t,e⟩:=(show ∃t,u=Value.float b t from r);cases e;rfl
|ref a=>cases(show u=Value.ref a from r);rfl
|ty n=>cases(show u=Value.type n from r);rfl
section
variable {P:Program}{w:World}{H H':Hp}{h h':Heap}{a C dx:Addr}{fs fs':List (Str×V)}
theorem Nb(hok:HOk P w H h)(e:H a=some (.ins C dx fs)):∃mA,ObjM h a dx C mA/\(∀f,RelO (fs.lookup f) (mA f))/\dq mA (fs.map (·.1))/\fs.length<=1000/\H dx=some (.own a):=by obtain⟨d,z,ne,ob,mA,n,r,q⟩:=(show ZP P w H h a (.ins C dx fs)from hok a _ e);exact⟨mA,⟨ob,n,ne⟩,r,q,z,d⟩
end
structure Cls(K:aa)(C:Addr):Prop where
 pg:dj K C Str.empty=true
 hd:cD K C=true
 po:eB K C=true
 sa:ax K (.ref C) "__setattr__"=some (some (.builtin "object.__setattr__"))
theorem Cls.get{K:aa}{C:Addr}(c:Cls K C)(f:Str):dj K C f=true:=c.pg
def Ys(K:aa)(C:Addr)(f:Str):Prop:=ax K (.ref C) f=some none
theorem Ys.taker{K:aa}{C:Addr}{f:Str}(n:Ys K C f):gP K C f=some none:=by unfold gP;rw[show ax K (.ref C) f=some none from n];rfl
structure Meth(K:aa)(C:Addr)(m:Str)(f:Addr):Prop where
 at_:ax K (.ref C) m=some (some (.ref f))
 fn:dQ K (.ref f)=true
 kp:aU K (.ref f)=true
section
variable {X:Cx}{pins:List (Addr×Obj)}{σ:St}{H:Hp}{s:ag}{a C dx:Addr}{fs:List (Str×V)}{f:Str}{v:V}{A:aX}{E:Value->ag->Prop}
theorem Sl{b:Bool}{Q:Value->ag->Prop}(I:Inv X pins σ H s)(e:H a=some (.ins C dx fs))(c:Cls X.K C)(n:Ys X.K C f)(l:fs.lookup f=some v)(h:∀u s',Inv X pins σ H s'->RelV v u->Q u s'):wpAny (model X.prog X.w) A (getAttr (.ref a) f b) Q E s:=by obtain⟨mA,O,r,_,_,_⟩:=Nb I.hok e;obtain⟨u,hu,ru⟩:=RelO.some_of (v:=v) (o:=mA f) (by rw[<-l];exact r f);exact get_map I.kIn O (c.get f) c.hd n hu (WT ru) (h u _ (I.tok _) ru)
theorem UC{m:Str}{g:Addr}{pl:Sem Bool}{Q:Value×List Value->ag->Prop}(I:Inv X pins σ H s)(e:H a=some (.ins C dx fs))(c:Cls X.K C)(k:Meth X.K C m g)(l:fs.lookup m=none)(h:Q (.ref g,[.ref a]) s):wpAny (model X.prog X.w) A (e_ (.ref a) m pl) Q E s:=by obtain⟨mA,O,r,_,_,_⟩:=Nb I.hok e;have hn:mA m=none:=RelO.none_of (by rw[<-l];exact r m);exact LP I.kIn O (c.get m) k.at_ k.fn hn h
theorem RQ{y:V}{u:Value}{Q:Unit->ag->Prop}(I:Inv X pins σ H s)(e:H a=some (.ins C dx fs))(c:Cls X.K C)(n:Ys X.K C f)(hl:fs.length<1000)(ry:RelV y u)(h:∀s',Inv X pins σ (upd H a (.ins C dx (putF f y fs))) s'->Q () s'):wpAny (model X.prog X.w) A (setAttr (.ref a) f u) Q E s:=by
 obtain⟨mA,O,r,wi,_,ho⟩:=Nb I.hok e;have hz:(fs.map (·.1)).length<=sizeLine:=by rw[aZ,d_];omega
 refine Dz I.kIn O c.sa c.po n.taker c.hd wi hz λh' O' sb=>h _ ?_;have hd:∃o,h'.get? dx=some o:=let ⟨o,_,_,e',_⟩:=O'.ns;⟨o,e'⟩
 refine I.write (x:=a) (e:=dx) (by rw[e];exact bK) (.inr ho) (λb q hb z=>(sb.2 b hb).trans z) hd ?_;refine⟨by rw[Zh O.ne];exact ho,?_,O.ne,O'.obj,_,O'.ns,λg=>?_,λg hg=>?_⟩
 ·have:=Ye f y fs;omega
 ·show RelO ((putF f y fs).lookup g) (if g=f then some u else mA g);rw[Zn];by_cases q:g=f
  ·rw[if_pos q,if_pos q];exact ry
  ·rw[if_neg q,if_neg q];exact r g
 ·by_cases q:g=f
  ·rw[q];exact(JL f y fs).1
  ·refine(JL f y fs).2 g (wi g λz=>hg ?_);show(if g=f then some u else mA g)=none;rw[if_neg q];exact z
theorem Inv.made(I:Inv X pins σ H s):Inv X pins σ (upd (upd H s.heap.objs.size (.own (s.heap.objs.size+1))) (s.heap.objs.size+1) (.ins C s.heap.objs.size [])) {s with heap:=(s.heap.push bP).push (cA C s.heap.objs.size)}:=by
 have e1:(s.heap.push bP).get? s.heap.objs.size=some bP:=Heap.get?_push_size s.heap rfl;have e2:((s.heap.push bP).push (cA C s.heap.objs.size)).get? (s.heap.objs.size+1)=some (cA C s.heap.objs.size):=by have:=Heap.get?_push_size (s.heap.push bP) (o:=cA C s.heap.objs.size) rfl;rwa [Heap.size_push]at this
 have e3:(s.heap.push bP).Ns s.heap.objs.size (λ_=>none):=⟨bP,#[],_,e1,rfl,(λe he=>absurd he (by simp)),λ_=>rfl⟩;have I1:=I.laid (a:=s.heap.objs.size) (o:=.own (s.heap.objs.size+1)) (h':=s.heap.push bP) (t':=s.toks) (λb u q=>Heap.get?_push_of_some _ q) (Nat.le_refl _) ⟨_,e1⟩;refine I1.laid (a:=s.heap.objs.size+1) (o:=.ins C s.heap.objs.size []) (t':=s.toks) (λb u q=>Heap.get?_push_of_some _ q) (Nat.le_of_eq (Heap.size_push _ _)) ?_;have ne:s.heap.objs.size≠s.heap.objs.size+1:=Nat.ne_of_lt (Nat.lt_succ_self _);refine⟨by rw[Zh ne,Zd],Nat.zero_le _,ne,e2,λ_=>none,(Heap.Ns1.of_empty e3).at λo q=>Heap.get?_push_of_some _ q,λ_=>bK,λy hy=>absurd rfl hy⟩
theorem En{prog:Program}{w:World}{env:Env}{e:Expr}{f:Str}{pos:Pos}{s:ag}{Q:Value->ag->Prop}(hb:dE e f env (eval e env)=eval e env)(h:wpAny (model prog w) A (eval e env) (λo s₁=>wpAny (model prog w) A (getAttr o f true) Q E s₁) E s):wpAny (model prog w) A (eval (.Attribute e f pos) env) Q E s:=Attribute_any_ h (by rw[arm_eval_Attribute,hb])
end
def tFld(K:aa)(ta:TE)(f:Str):TE:=λσ H Q=>ta σ H λx H1=>∃a C dx fs v,x=.ref a/\H1 a=some (.ins C dx fs)/\Cls K C/\Ys K C f/\fs.lookup f=some v/\Q v H1
def sFld(K:aa)(ta tv:TE)(f:Str):TS:=λD σ H=>tv σ H λy H1=>ta σ H1 λx H2=>∃a C dx fs,x=.ref a/\H2 a=some (.ins C dx fs)/\Cls K C/\Ys K C f/\fs.length<1000 /\D.nx σ (upd H2 a (.ins C dx (putF f y fs)))
section
variable {X:Cx}{o e value:Expr}{f:Str}{pos pos' tpos:Pos}{ta tv:TE}
theorem ZD(he:PE X e ta)(hb:dE e f X.env (eval e X.env)=eval e X.env):PE X (.Attribute e f pos) (tFld X.K ta f):=by intro pins s σ H Q I h;refine En hb (thn (he pins s σ H _ I h) λu s1 hZ=>?_);obtain⟨x,H1,I1,rx,a,C,dx,fs,v,ex,ea,c,n,l,q⟩:=hZ;subst ex;obtain rfl:u=Value.ref a:=rx;exact Sl I1 ea c n l λu' s2 I2 ru=>⟨v,H1,I2,ru,q⟩
theorem Y7(ha:PE X o ta)(hv:PE X value tv)(hs:eZ value (some (.Attribute o f pos')) pos.line X.env=pure false):PS X (.Assign [.Attribute o f pos'] value pos) (sFld X.K ta tv f):=by intro pins s σ H D I h;refine dR (thn (hv pins s σ H _ I h) λu s1⟨y,H1,I1,ry,q⟩=>thn (ha pins s1 σ H1 _ I1 q) λov s2 hZ=>?_) hs;obtain⟨x,H2,I2,rx,a,C,dx,fs,ex,ea,c,n,l,q2⟩:=hZ;subst ex;obtain rfl:ov=Value.ref a:=rx;exact RQ I2 ea c n l ry λs3 I3=>⟨σ,_,I3,q2⟩
theorem EE{pl:Sem Bool}{m:Str}{apos:Pos}{args:List Expr}{pins:List (Addr×Obj)}{s:ag}{σ:St}{H:Hp}{Q:Value->ag->Prop}{te:TE}(he:PE X e te)(I:Inv X pins σ H s)
  (h:te σ H λx H1=>∃a C dx fs g,x=.ref a/\H1 a=some (.ins C dx fs)/\Cls X.K C/\Meth X.K C m g/\fs.lookup m=none /\
   ∀s1,Inv X pins σ H1 s1->wpAny (model X.prog X.w) X.A (gF pos (.ref g) [.ref a] (cw pos (aD args X.env)) (d8 pos (dh [] X.env))) Q X.xe s1)
  (ht:eval (.Call (.Attribute e m apos) args [] pos) X.env=(do
   let ov <-eval e X.env
   gI apos.atName
   let (f,first) <-eR [ov] (e_ ov m pl)
   gF pos f first (cw pos (aD args X.env)) (d8 pos (dh [] X.env)))):
  wpAny (model X.prog X.w) X.A (eval (.Call (.Attribute e m apos) args [] pos) X.env) Q X.xe s:=by
 refine dH (pl:=pl) (thn (he pins s σ H _ I h) λu s1 hZ=>?_) ht;obtain⟨x,H1,I1,rx,a,C,dx,fs,g,ex,ea,c,k,l,q⟩:=hZ
 subst ex
 obtain rfl:u=Value.ref a:=rx
 exact UC I1 ea c k l (q s1 I1)
end
section
variable {X:Cx}{pins:List (Addr×Obj)}{σ:St}{H:Hp}{s:ag}{A:aX}{E:Value->ag->Prop}{Q:Value->ag->Prop}{c:Value}{b:Bool}
inductive TyOf(K:aa)(H:Hp):V->Value->Prop where
|non:TyOf K H .non (.type "NoneType")
|bl (x:Bool):TyOf K H (.bl x) (.type "bool")
|int (i:Int):TyOf K H (.int i) (.type "int")
|str (x:Str):TyOf K H (.str x) (.type "str")
|flt (x:UInt64):TyOf K H (.flt x) (.type "float")
|lst {a:Addr}{xs:List V} (e:H a=some (.lst xs)):TyOf K H (.ref a) (.type "list")
|frz {a:Addr}{o:Obj}{xs:List V} (e:H a=some (.frz o (.lst xs))):TyOf K H (.ref a) (.type "list")
|tup {a:Addr}{xs:List V} (e:H a=some (.tup xs)):TyOf K H (.ref a) (.type "tuple")
|dK {a:Addr}{kvs:List (Key×V)} (e:H a=some (.dK kvs)):TyOf K H (.ref a) (.type "dict")
|dT {a:Addr}{kvs:List (List Key×V)} (e:H a=some (.dT kvs)):TyOf K H (.ref a) (.type "dict")
|ins {a C dx:Addr}{fs:List (Str×V)} (e:H a=some (.ins C dx fs)) (cl:Cls K C) (ha:ax K (.ref C) "__class__"=some (some (.builtin "object.__class__")))
   (hn:ej K (.builtin "object.__class__") "__get__"=some (some (.builtin "getset_descriptor.__get__"))) (htk:PySem.W.takesIn K (.builtin "object.__class__")=some true)
   (hm:da K C (.type "object")=some true):TyOf K H (.ref a) (.ref C)
theorem PB{x:V}{u t:Value}(I:Inv X pins σ H s)(rx:RelV x u)(ty:TyOf X.K H x t)(e:ak X.K t c=some b)(h:∀tk,Q (.bool b) {s with toks:=tk}):wpAny (model X.prog X.w) A (call (.builtin "isinstance") [u,c]) Q E s:=by
 cases ty with
|non=>cases(show u=Value.none from rx);exact bH PySem.W.kitx_none I.kIn bK e (λz=>nomatch z) h
|bl y=>cases(show u=Value.bool y from rx);exact bH PySem.W.kitx_bool I.kIn bK e (λz=>nomatch z) h
|int i=>obtain⟨t,q⟩:=(show ∃t,u=Value.int i t from rx);cases q;exact bH PySem.W.kitx_int I.kIn bK e (λz=>nomatch z) h
|str y=>obtain⟨t,q⟩:=(show ∃t,u=Value.str y t from rx);cases q;exact bH PySem.W.kitx_str I.kIn bK e (λz=>nomatch z) h
|flt y=>obtain⟨t,q⟩:=(show ∃t,u=Value.float y t from rx);cases q;exact bH PySem.W.kitx_float I.kIn bK e (λz=>nomatch z) h
|@lst a xs ea=>cases(show u=Value.ref a from rx);obtain⟨_,_,n,_,h1⟩:=(show ZP X.prog X.w H s.heap a (.lst xs)from I.hok a _ ea);exact bH gu I.kIn ⟨_,h1,rfl⟩ e (λz=>nomatch z) h
|@frz a ob xs ea=>cases(show u=Value.ref a from rx);obtain⟨_,_,_,n,_,h1⟩:=(show ZP X.prog X.w H s.heap a (.frz ob (.lst xs))from I.hok a _ ea);exact bH gu I.kIn ⟨_,h1,rfl⟩ e (λz=>nomatch z) h
|@tup a xs ea=>cases(show u=Value.ref a from rx);obtain⟨_,_,_,p⟩:=(show ZP X.prog X.w H s.heap a (.tup xs)from I.hok a _ ea);obtain⟨o,h1,h2,_⟩:=p;exact bH PySem.W.kitx_tuple I.kIn ⟨o,h1,h2⟩ e (λz=>nomatch z) h
|@dK a kvs ea=>cases(show u=Value.ref a from rx);obtain⟨_,_,vs,_,p⟩:=(show ZP X.prog X.w H s.heap a (.dK kvs)from I.hok a _ ea);obtain⟨o,es,ep,h1,h2,_⟩:=p;exact bH gv I.kIn ⟨o,h1,h2.1⟩ e (λz=>nomatch z) h
|@dT a kvs ea=>cases(show u=Value.ref a from rx);obtain⟨_,_,xs,_,o,es,ep,h1,h2,_⟩:=(show ZP X.prog X.w H s.heap a (.dT kvs)from I.hok a _ ea);exact bH gv I.kIn ⟨o,h1,h2.1⟩ e (λz=>nomatch z) h
|@ins a C dx fs ea cl ha hn htk hm=>cases(show u=Value.ref a from rx);obtain⟨mA,O,_⟩:=Nb I.hok ea;obtain⟨od,J,_⟩:=O.look;exact bH (PySem.W.kitx_own (cl.get _) cl.hd ha hn htk hm) I.kIn J e (λz=>nomatch z) h
end
open PySem PySem.Spec PyProof.Rows
structure Room(k:Nat)(A:aX):Prop where
 hd:A.handled=none
 dp:A.depth+3*k+5<recursionLimit
 un:A.units+16*k+200<cLine
 gd:A.guards=some []
theorem Room.mono{j k:Nat}{A:aX}(r:Room k A)(h:j<=k):Room j A:=⟨r.hd,by have:=r.dp;omega,by have:=r.un;omega,r.gd⟩
theorem Room.deeper{k:Nat}{A:aX}(r:Room (k+1) A)(env:Env):Room k (A.deeper env):=⟨r.hd,by have:=r.dp;show A.depth+1+3*k+5<_;omega,by have:=r.un;show A.units+3+16*k+200<_;omega,r.gd⟩
theorem Se{A:aX}{C:Addr}{us:List Value}{kw:List (Str×Value)}:(A.under (.builtin "type.__call__" ⟨.ref C::us,kw⟩)).depth=A.depth+1:=by first|rfl|simp[gA,Code.weight,Code.isCreation,Code.isGuard,Code.isCaller,Code.frames,Code.isFrame,guardIds]
theorem Sd{A:aX}{C:Addr}{us:List Value}{kw:List (Str×Value)}:(A.under (.builtin "type.__call__" ⟨.ref C::us,kw⟩)).units=A.units+1:=by first|rfl|simp[gA,Code.cUnits,Code.frames,Code.isFrame]
theorem Ri{A:aX}{C:Addr}{us:List Value}{kw:List (Str×Value)}:(A.under (.builtin "type.__call__" ⟨.ref C::us,kw⟩)).guards=A.guards:=by first|rfl|simp[gA,Code.guards,Code.isGuard,pushGuards,guardIds]
theorem Room.make{k:Nat}{A:aX}(r:Room (k+1) A)(C:Addr)(us:List Value)(kw:List (Str×Value)):Room k (A.under (.builtin "type.__call__" ⟨.ref C::us,kw⟩)):=⟨r.hd,by have:=r.dp;rw[Se];omega,by have:=r.un;rw[Sd];omega,by rw[Ri];exact r.gd⟩
theorem Room.depth{k:Nat}{A:aX}(r:Room k A):A.depth<recursionLimit:=by have:=r.dp;omega
theorem Room.units{k:Nat}{A:aX}(r:Room k A):A.units+64<cLine:=by have:=r.un;omega
def tNil:TA:=λ_ H Q=>Q [] H
def J8(ta:TE)(tr:TA):TA:=λσ H Q=>ta σ H λx H1=>tr σ H1 λxs H2=>Q (x::xs) H2
section
variable {X:Cx}{e:Expr}{es:List Expr}{te:TE}{t:TA}{pos:Pos}
theorem Zf:PA X [] tNil:=λ_ _ _ _ H Q I h=>Calls.spliced_nil ⟨[],H,I,.nil,h⟩
theorem Zj(ha:PE X e te)(hr:PA X es t)(hs:aD (e::es) X.env=(false,eval e X.env)::aD es X.env:=by rfl):PA X (e::es) (J8 te t):=by intro pos pins s σ H Q I h;rw[hs];show wpAny _ _ (spliced ((false,eval e X.env)::cw pos (aD es X.env))) _ _ s;refine Calls.spliced_cons (thn (ha pins s σ H _ I h) λu s1 hZ=>?_);obtain⟨x,H1,I1,r1,q1⟩:=hZ;exact thn (hr pos pins s1 σ H1 _ I1 q1) λus s2⟨xs,H2,I2,r2,q2⟩=>⟨x::xs,H2,I2,.cons r1 r2,q2⟩
def tTup(t:TA):TE:=λσ H Q=>t σ H λxs H1=>xs.length<=sizeLine/\∀p,H1 p=none->Q (.ref p) (upd H1 p (.tup xs))
def tLst(t:TA):TE:=λσ H Q=>t σ H λxs H1=>xs.length<=sizeLine/\∀p,H1 p=none->Q (.ref p) (upd H1 p (.lst xs))
theorem ZE{x1}(h:PA X es t):PE X (.Tuple es x1 pos) (tTup t):=by intro pins s σ H Q I hq;refine wpAny_Tuple_spliced (thn (h pos pins s σ H _ I hq) λus s1⟨xs,H1,I1,r,z,q⟩=>⟨by rw[<-r.length];exact z,?_⟩);have hf:H1 s1.heap.objs.size=none:=I1.hok.fresh (Nat.le_refl _);refine⟨.ref s1.heap.objs.size,upd H1 s1.heap.objs.size (.tup xs),I1.laid (t':=s1.toks) (λb u e=>Heap.get?_push_of_some _ e) (Nat.le_refl _) ?_,rfl,q _ hf⟩;exact⟨z,us,r,⟨_,Heap.get?_push_size _ rfl,rfl,_,rfl⟩⟩
theorem ZA(h:PA X es t):PE X (.List es pos) (tLst t):=by intro pins s σ H Q I hq;refine wpAny_List_spliced (thn (h pos pins s σ H _ I hq) λus s1⟨xs,H1,I1,r,z,q⟩=>⟨by rw[<-r.length];exact z,?_⟩);have hf:H1 s1.heap.objs.size=none:=I1.hok.fresh (Nat.le_refl _);refine⟨.ref s1.heap.objs.size,upd H1 s1.heap.objs.size (.lst xs),I1.laid (t':=s1.toks) (λb u e=>Heap.get?_push_of_some _ e) (Nat.le_refl _) ?_,rfl,q _ hf⟩;exact⟨z,us,0,r,Heap.get?_push_size _ rfl⟩
end
noncomputable abbrev Sp:=List V->Hp->VK->XK->Prop
noncomputable abbrev CXT:=List Env->Hp->ag->XK->Value->ag->Prop
structure Env0(P:Program)(w:World)(K:aa)(mg:Str->Option Value)(base:Heap)(A:aX)(outer:List Env)(s:ag)(H:Hp):Prop where
 frames:A.frames=some outer
 mod:Mod K mg base
 bs:∀b o,base.get? b=some o->s.heap.get? b=some o/\H b=none
 bsz:base.objs.size<=s.heap.objs.size
 funs:s.heap.FunFrames base outer
 frf:∀b∈frs outer,H b=none
 hok:HOk P w H s.heap
 bare:fD s.gens
def CE(outer:List Env)(P:Program)(w:World)(H:Hp)(s:ag)(Q:VK)(u:Value)(s':ag):Prop:=∃v H',s'.os=s.os/\fD s'.gens/\Un (frs outer) [] H H' s.heap s'.heap/\HOk P w H' s'.heap/\RelV v u/\Q v H'
def CR(CX:CXT)(outer:List Env)(P:Program)(w:World)(H:Hp)(s:ag)(Q:VK)(E:XK)(r:Result)(s':ag):Prop:=match r with
|.ok (.ret u)=>CE outer P w H s Q u s'
|.ok _=>False
|.error e=>CX outer H s E e s'
structure FnOk(P:Program)(w:World)(K:aa)(mg:Str->Option Value)(base:Heap)(CX:CXT)(k:Nat)(f:Addr)(fd:bN)(ps:List Str)(sp:Sp):Prop where
 len:∀vs H Q E,sp vs H Q E->vs.length=ps.length
 run:∀(A:aX)(outer:List Env)(s:ag)(H:Hp)(args:Args)(us:List Value)(vs:List V)(Q:VK)(E:XK),Room k A->Env0 P w K mg base A outer s H->BindsTo s fd args (ps.zip us)->Vals vs us->sp vs H Q E ->
  fC (model P w) A (.call (.ref f) args) (CR CX outer P w H s Q E) s
theorem FnOk.mono{P:Program}{w:World}{K:aa}{mg:Str->Option Value}{base:Heap}{CX:CXT}{j k:Nat}{f:Addr}{fd:bN}{ps:List Str}{sp:Sp}(F:FnOk P w K mg base CX j f fd ps sp)(h:j<=k):FnOk P w K mg base CX k f fd ps sp:=⟨F.len,λA outer s H args us vs Q E hr=>F.run A outer s H args us vs Q E (hr.mono h)⟩
theorem Env0.make{P:Program}{w:World}{K:aa}{mg:Str->Option Value}{base:Heap}{A:aX}{outer:List Env}{s:ag}{H:Hp}(e:Env0 P w K mg base A outer s H)(C:Addr)(us:List Value)(kw:List (Str×Value)):Env0 P w K mg base (A.under (.builtin "type.__call__" ⟨.ref C::us,kw⟩)) outer s H:=⟨by first|exact e.frames|(simpa[gA,Code.envs,Code.isFrame,pushEnvs]using e.frames),e.mod,e.bs,e.bsz,e.funs,e.frf,e.hok,e.bare⟩
section
variable {X:Cx}{pins:List (Addr×Obj)}{σ:St}{H:Hp}{s s':ag}
theorem Inv.env0(I:Inv X pins σ H s):Env0 X.prog X.w X.K X.mg X.base X.A X.stack s H:=⟨I.ok.frames,I.ok.mod,I.bs,Nat.le_trans I.ok.bsz I.sz,I.stack,I.stkFree,I.hok,I.bare⟩
theorem Inv.after{Q:VK}{u:Value}(I:Inv X pins σ H s)(h:CE X.stack X.prog X.w H s Q u s'):EP X pins σ Q u s':=by obtain⟨v,H',os,bare,un,hok,r,q⟩:=h;obtain⟨hh,g,d,t,os'⟩:=s';obtain rfl:os'=s.os:=os;exact⟨v,H',I.call (h':=hh) (g':=g) (d':=d) (t':=t) (ch:=[]) un hok bare (λb z=>absurd z (by simp)),r,q⟩
end
def Pn(sp:Sp)(dvs:List V)(E:XK)(t:TA):TE:=λσ H Q=>t σ H λvs H1=>sp (vs++dvs) H1 Q E
def QL(C:Addr)(m:Str)(sp:Sp)(dvs:List V)(E:XK)(ta:TE)(t:TA):TE:=λσ H Q=>ta σ H λx H1=>∃a dx fs,x=.ref a/\H1 a=some (.ins C dx fs)/\fs.lookup m=none /\t σ H1 λvs H2=>sp (x::(vs++dvs)) H2 Q E
def Hh(C:Addr)(sp:Sp)(dvs:List V)(E:XK)(t:TA):TE:=λσ H Q=>t σ H λvs H1=>∀x dx,H1 x=none->H1 dx=none->dx≠x ->sp (.ref x::(vs++dvs)) (upd (upd H1 dx (.own x)) x (.ins C dx [])) (λv H2=>v=.non/\Q (.ref x) H2) E
def Binds(K:aa)(fd:bN)(ps:List Str)(ds:List Value):Prop:=∀(s:ag)(us:List Value),K.In s.heap->(us++ds).length=ps.length->BindsTo s fd ⟨us,[]⟩ (ps.zip (us++ds))
theorem Binds.all{K:aa}{fd:bN}{ps:List Str}(h:∀us:List Value,us.length=ps.length->bindArgs fd ⟨us,[]⟩=pure (ps.zip us)):Binds K fd ps []:=λs us _ hl=>by rw[aT]at hl ⊢;exact .of_eq (h us hl)
def Passes(CX:CXT)(X:Cx)(E:XK):Prop:=∀(pins:List (Addr×Obj))(σ:St)(H:Hp)(s:ag)(e:Value)(s':ag),Inv X pins σ H s->CX X.stack H s E e s'->X.xe e s'
section
variable {X:Cx}{CX:CXT}{k:Nat}{f C:Addr}{fd:bN}{ps:List Str}{sp:Sp}{dvs:List V}{ds:List Value}{E:XK}{x m:Str}{p pos apos:Pos}{e o:Expr}{es:List Expr}{ta:TE}{t:TA}
theorem Qm{pins:List (Addr×Obj)}{σ:St}{H:Hp}{s:ag}{Q:VK}{us:List Value}{vs:List V}(F:FnOk X.prog X.w X.K X.mg X.base CX k f fd ps sp)(hr:Room k X.A)(hb:Binds X.K fd ps ds)(hd:Vals dvs ds)(hx:Passes CX X E)(I:Inv X pins σ H s)(r:Vals vs us)(h:sp (vs++dvs) H Q E):wpAny (model X.prog X.w) X.A (call (.ref f) us) (EP X pins σ Q) X.xe s:=by
 have r2:Vals (vs++dvs) (us++ds):=r.append hd;have hl:(us++ds).length=ps.length:=by rw[<-r2.length];exact F.len _ _ _ _ h
 refine wpAny_call (fX (F.run X.A X.stack s H ⟨us,[]⟩ (us++ds) (vs++dvs) Q E hr I.env0 (hb s us I.kIn hl) r2 h) λr s' hq=>?_);cases r with
|error e=>exact hx pins σ H s e s' I hq
|ok fl=>
  cases fl with
 |ret u=>exact I.after hq
 |next=>exact bQ hq
 |brk=>exact bQ hq
 |cont=>exact bQ hq
theorem TM(F:FnOk X.prog X.w X.K X.mg X.base CX k f fd ps sp)(hr:Room k X.A)(hg:Gl X x)(hm:X.mg x=some (.ref f))(hk:aU X.K (.ref f)=true)(hb:Binds X.K fd ps ds)(hd:Vals dvs ds)(hx:Passes CX X E)(ha:PA X (e::es) t)(hdb:(x==("__debug__":Str))=false:=by decide)(he:aD (e::es) X.env=(false,eval e X.env)::aD es X.env:=by rfl)(hpl:(cw pos (aD es X.env)).any (·.1)=false:=by rfl):PE X (.Call (.Name x p) (e::es) [] pos) (Pn sp dvs E t):=by intro pins s σ H Q I h;refine di (Na I hg hm ?_ hdb);refine dA (h₀:=X.base) I.ok.mod.kin hk (thn (ha pos pins s σ H _ I h) λus s1⟨vs,H1,I1,r,q⟩=>⟨I1.kIn,?_⟩) he hpl;exact Qm F hr hb hd hx I1 r q
theorem DO{pl:Sem Bool}(he:PE X o ta)(c:Cls X.K C)(hm:Meth X.K C m f)(F:FnOk X.prog X.w X.K X.mg X.base CX k f fd ps sp)(hr:Room k X.A)(hb:Binds X.K fd ps ds)(hd:Vals dvs ds)(hx:Passes CX X E)(ha:PA X (e::es) t)
  (hst:aD (e::es) X.env=(false,eval e X.env)::aD es X.env:=by rfl) (hpl:(cw pos (aD es X.env)).any (·.1)=false:=by rfl)
  (ht:eval (.Call (.Attribute o m apos) (e::es) [] pos) X.env=(do
   let ov <-eval o X.env
   gI apos.atName
   let (f,first) <-eR [ov] (e_ ov m pl)
   gF pos f first (cw pos (aD (e::es) X.env)) (d8 pos (dh [] X.env))):=by rfl):
  PE X (.Call (.Attribute o m apos) (e::es) [] pos) (QL C m sp dvs E ta t):=by
 intro pins s σ H Q I h
 refine dH (pl:=pl) (thn (he pins s σ H _ I h) λu s1 hZ=>?_) ht;obtain⟨x,H1,I1,rx,a,dx,fs,ex,ea,l,q⟩:=hZ
 subst ex
 obtain rfl:u=Value.ref a:=rx
 refine UC I1 ea c hm l ?_
 refine dA (first:=[.ref a]) (h₀:=X.base) I.ok.mod.kin hm.kp (thn (ha pos pins s1 σ H1 _ I1 q) λus s2⟨vs,H2,I2,r,q2⟩=>⟨I2.kIn,?_⟩) hst hpl
 exact Qm (us:=.ref a::us) (vs:=.ref a::vs) F hr hb hd hx I2 (.cons rfl r) q2
theorem Le{pl:Sem Bool}(he:PE X o ta)(c:Cls X.K C)(hm:Meth X.K C m f)(F:FnOk X.prog X.w X.K X.mg X.base CX k f fd ps sp)(hr:Room k X.A)(hb:Binds X.K fd ps ds)(hd:Vals dvs ds)(hx:Passes CX X E)
  (ht:eval (.Call (.Attribute o m apos) [] [] pos) X.env=(do
   let ov <-eval o X.env
   gI apos.atName
   let (f,first) <-eR [ov] (e_ ov m pl)
   gF pos f first (cw pos (aD [] X.env)) (d8 pos (dh [] X.env))):=by rfl):
  PE X (.Call (.Attribute o m apos) [] [] pos) (QL C m sp dvs E ta tNil):=by
 intro pins s σ H Q I h
 refine dH (pl:=pl) (thn (he pins s σ H _ I h) λu s1 hZ=>?_) ht;obtain⟨x,H1,I1,rx,a,dx,fs,ex,ea,l,q⟩:=hZ
 subst ex
 obtain rfl:u=Value.ref a:=rx
 refine UC I1 ea c hm l ?_
 exact PySem.W.callWith_K0 (first:=[.ref a]) I1.kIn hm.kp (Qm (us:=[.ref a]) (vs:=[.ref a]) F hr hb hd hx I1 (.cons rfl .nil) q)
structure Mk(K:aa)(C f:Addr):Prop where
 makes:ft K C=true
 init:ax K (.ref C) "__init__"=some (some (.ref f))
 fn:dQ K (.ref f)=true
 kp:aU K (.ref C)=true
theorem K4{pins:List (Addr×Obj)}{σ:St}{H:Hp}{s:ag}{Q:VK}{us:List Value}{vs:List V}(M:Mk X.K C f)(F:FnOk X.prog X.w X.K X.mg X.base CX k f fd ps sp)(hr:Room (k+1) X.A)(hb:Binds X.K fd ps ds)(hd:Vals dvs ds)(hx:Passes CX X E)(I:Inv X pins σ H s)(r:Vals vs us)(h:∀x dx,H x=none->H dx=none->dx≠x->sp (.ref x::(vs++dvs)) (upd (upd H dx (.own x)) x (.ins C dx [])) (λv H2=>v=.non/\Q (.ref x) H2) E):wpAny (model X.prog X.w) X.A (call (.ref C) us) (EP X pins σ Q) X.xe s:=by
 have hq:=h (s.heap.objs.size+1) s.heap.objs.size (I.hok.fresh (Nat.le_succ _)) (I.hok.fresh (Nat.le_refl _)) (Nat.ne_of_lt (Nat.lt_succ_self _));have I2:=Inv.made (C:=C) I;have r2:Vals (V.ref (s.heap.objs.size+1)::(vs++dvs)) (Value.ref (s.heap.objs.size+1)::(us++ds)):=.cons rfl (r.append hd);have hl:(Value.ref (s.heap.objs.size+1)::us++ds).length=ps.length:=by have e:=r2.length;rw[F.len _ _ _ _ hq]at e;exact e.symm
 refine wpAny_call (Lz (f:=f) I.kIn M.makes M.init (beq_iff_eq.mp M.fn) (fX (F.run _ X.stack _ _ ⟨Value.ref (s.heap.objs.size+1)::us,[]⟩ (Value.ref (s.heap.objs.size+1)::(us++ds)) _ _ E (hr.make C us []) (I2.env0.make C us []) (hb _ (Value.ref (s.heap.objs.size+1)::us) I2.kIn hl) r2 hq) λr s' hq'=>?_));cases r with
|error e=>exact hx pins σ _ _ e s' I2 hq'
|ok fl=>
  cases fl with
 |ret u=>obtain⟨v,H',I3,rv,ev,q3⟩:=I2.after hq';subst ev;exact⟨rv,⟨V.ref (s.heap.objs.size+1),H',I3,rfl,q3⟩⟩
 |next=>exact bQ hq'
 |brk=>exact bQ hq'
 |cont=>exact bQ hq'
theorem Jo(M:Mk X.K C f)(F:FnOk X.prog X.w X.K X.mg X.base CX k f fd ps sp)(hr:Room (k+1) X.A)(hg:Gl X x)(hm:X.mg x=some (.ref C))(hb:Binds X.K fd ps ds)(hd:Vals dvs ds)(hx:Passes CX X E)(ha:PA X (e::es) t)(hdb:(x==("__debug__":Str))=false:=by decide)(he:aD (e::es) X.env=(false,eval e X.env)::aD es X.env:=by rfl)(hpl:(cw pos (aD es X.env)).any (·.1)=false:=by rfl):PE X (.Call (.Name x p) (e::es) [] pos) (Hh C sp dvs E t):=by intro pins s σ H Q I h;refine di (Na I hg hm ?_ hdb);refine dA (h₀:=X.base) I.ok.mod.kin M.kp (thn (ha pos pins s σ H _ I h) λus s1⟨vs,H1,I1,r,q⟩=>⟨I1.kIn,?_⟩) he hpl;exact K4 M F hr hb hd hx I1 r q
end
structure FnScope(N P:List Str)(sc:Scope):Prop where
 kind:sc.kind=.function
 co:sc.isCoroutine=false
 gen:sc.isGenerator=false
 nd:N.Nodup
 pre:N.take P.length=P
 par:∀x∈P,sc.names.lookup x=some .local\/sc.names.lookup x=some .cell
 nofree:∀y∈sc.names,y.2≠.free
theorem PV{kindOf:Str->Option dz}{x:Str}:∀{binds:List (Str×Value)}{m:Str->Option Value},(∀v,(x,v)∉binds)->bindL kindOf binds m x=m x
|[],_,_=>rfl
|(n,v)::r,m,h=>by
  unfold bindL;rw[PV λw hw=>h w (av _ hw)];split
  ·have:x≠n:=by rintro rfl;exact h v aB
   simp[this]
  ·rfl
theorem PY{kindOf:Str->Option dz}{x:Str}:∀{binds:List (Str×Value)}{m:Str->Option Value},(∀v,(x,v)∉binds)->bindC kindOf binds m x=m x
|[],_,_=>rfl
|(n,v)::r,m,h=>by
  unfold bindC;rw[PY λw hw=>h w (av _ hw)];split
  ·rfl
  ·have:x≠n:=by rintro rfl;exact h v aB
   simp[this]
theorem PX{kindOf:Str->Option dz}{x:Str}{v:Value}:∀{P:List Str}{vs:List Value}{i:Nat}{m:Str->Option Value},P.Nodup->P[i]?=some x->vs[i]?=some v->kindOf x=some .local ->bindL kindOf (P.zip vs) m x=some v
|[],_,_,_,_,h,_,_=>by simp at h
|_::_,[],_,_,_,_,h,_=>by simp at h
|p::P,w::vs,0,m,nd,h1,h2,hk=>by simp at h1 h2;subst h1;subst h2;show bindL kindOf ((p,w)::P.zip vs) m p=_;unfold bindL;rw[PV λv hv=>(cu.mp nd).1 (dC hv).1,if_pos hk];simp
|p::P,w::vs,i+1,m,nd,h1,h2,hk=>by show bindL kindOf ((p,w)::P.zip vs) m x=_;unfold bindL;exact PX (i:=i) (cu.mp nd).2 (by simpa using h1) (by simpa using h2) hk
theorem PZ{kindOf:Str->Option dz}{x:Str}{v:Value}:∀{P:List Str}{vs:List Value}{i:Nat}{m:Str->Option Value},P.Nodup->P[i]?=some x->vs[i]?=some v->kindOf x≠some .local ->bindC kindOf (P.zip vs) m x=some v
|[],_,_,_,_,h,_,_=>by simp at h
|_::_,[],_,_,_,_,h,_=>by simp at h
|p::P,w::vs,0,m,nd,h1,h2,hk=>by simp at h1 h2;subst h1;subst h2;show bindC kindOf ((p,w)::P.zip vs) m p=_;unfold bindC;rw[PY λv hv=>(cu.mp nd).1 (dC hv).1,if_neg hk];simp
|p::P,w::vs,i+1,m,nd,h1,h2,hk=>by show bindC kindOf ((p,w)::P.zip vs) m x=_;unfold bindC;exact PZ (i:=i) (cu.mp nd).2 (by simpa using h1) (by simpa using h2) hk
noncomputable def start(N:List Str)(vs:List V):St:=vs.map some++List.replicate (N.length-vs.length) none
noncomputable def cxOf(CX:CXT)(P:Program)(w:World)(K:aa)(mg:Str->Option Value)(base:Heap)(N:List Str)(qual:Str)(scope:Scope)(f:Addr)(cd:Value)(A:aX)(outer:List Env)(s:ag)(H:Hp)(E:XK):Cx where
 prog:=P
 w:=w
 K:=K
 mg:=mg
 base:=base
 A:=A.deeper (de qual scope s.heap.objs.size f cd)
 N:=N
 s₀:=s
 H₀:=H
 env:=de qual scope s.heap.objs.size f cd
 outer:=outer
 stack:=de qual scope s.heap.objs.size f cd::outer
 ex:=[]
 calm:=true
 fn:=λ_=>true
 pn:=[]
 xe:=λe s'=>wpAny (model P w) (A.deeper (de qual scope s.heap.objs.size f cd)) (leaving (de qual scope s.heap.objs.size f cd) e) (λ_ s''=>CX outer H s E e s'') (λe' s''=>CX outer H s E e' s'') s'
theorem Rr{sc:Scope}{n:Nat}{x:Str}(h:sc.names.lookup x=some .cell):∃c,(cellsFrom n sc.names []).lookup x=some c:=by have q:=PySem.W.cellsFrom_some sc.names n [] (.inl h);exact dw.mp q
theorem WR{CX:CXT}{P:Program}{w:World}{K:aa}{mg:Str->Option Value}{base:Heap}{N ps:List Str}{qual:Str}{scope:Scope}{f:Addr}{cd:Value}{A:aX}{outer:List Env}{s s1:ag}{H:Hp}{E:XK}{us:List Value}{vs:List V}(S:FnScope N ps scope)(hd:A.handled=none)(e0:Env0 P w K mg base A outer s H)(hl:vs.length=ps.length)(r:Vals vs us)(x:InCallC s s.heap.objs.size (bindL (de qual scope s.heap.objs.size f cd).kindOf (ps.zip us) λ_=>none) (cellsFrom (s.heap.objs.size+1) scope.names []) (bindC (de qual scope s.heap.objs.size f cd).kindOf (ps.zip us) λ_=>none) s1):Inv (cxOf CX P w K mg base N qual scope f cd A outer s H E) [] (start N vs) H s1:=by
 have hpl:ps.length<=N.length:=by have:=congrArg List.length S.pre;rw[aw]at this;omega
 obtain⟨h1,tk,rfl,hk⟩:=x.done;have noA:∀b:Addr,b∉(cxOf CX P w K mg base N qual scope f cd A outer s H E).ex:=λb z=>absurd (show b∈([]:List Addr)from z) (by simp);refine⟨⟨e0.mod,S.kind,rfl,rfl,Nat.le_refl _,λy z c h1 h2=>?_,λy hy=>?_,λy c _ h=>?_,λ_=>hd,Around.frames_deeper e0.frames,.inr ⟨rfl,rfl⟩,λb z=>absurd z (noA b),e0.bs,e0.bsz,λb _ _=>noA b,λb z=>absurd z (noA b),e0.funs,e0.frf⟩,rfl,e0.bare,Un.kept hk,⟨_,x.toInCall.ns,λi y v h1 h2 h3=>?_⟩,λy c h=>⟨_,x.cell y c h⟩,e0.hok.fresh (Nat.le_refl _),λy c h=>?_,λp hp=>absurd (show p∈([]:List (Addr×Obj))from hp) (by simp),e0.hok.kept hk,?_⟩
 ·exact name_of_addr x.apart (cV h1) (cV h2)
 ·have hy:scope.names.lookup y=some .cell\/scope.names.lookup y=some .free:=hy;rcases hy with hy|hy
  ·exact Rr hy
  ·exact absurd rfl (S.nofree _ (cV hy))
 ·exact Nat.le_of_lt (x.above y c (cV h))
 ·have hi:i<vs.length:=by
   unfold start at h2;by_cases hi:i<vs.length
   ·exact hi
   ·rw[bD (by simpa using hi)]at h2;rw[List.getElem?_replicate]at h2;split at h2<;>cases h2
  have ha:vs[i]?=some v:=by
   unfold start at h2;rw[a8 (by simpa using hi),ah]at h2;cases e:vs[i]? with
  |none=>rw[e]at h2;cases h2
  |some a=>rw[e]at h2;cases h2;rfl
  obtain⟨u,hu,rv⟩:=r.get ha;have hp:ps[i]?=some y:=by rw[<-S.pre,fh (by omega)];exact h1
  have ndP:ps.Nodup:=by rw[<-S.pre];exact S.nd.sublist (eS _ _)
  refine⟨u,rv,?_⟩;rcases S.par y (aK hp)with k|k
  ·exact .inl ⟨k,PX ndP hp hu k⟩
  ·obtain⟨c,e⟩:=Rr (n:=s.heap.objs.size+1) k;refine .inr ⟨.inl k,c,e,?_⟩;have q:=x.cell y c e;rw[PZ ndP hp hu (by show scope.names.lookup y≠_;rw[k];decide)]at q;exact q
 ·exact e0.hok.fresh (Nat.le_of_lt (x.above y c (cV h)))
 ·unfold start;show _=N.length;rw[ay,aZ,List.length_replicate];omega
theorem EJ{CX:CXT}{P:Program}{w:World}{K:aa}{mg:Str->Option Value}{base:Heap}{k:Nat}{f:Addr}{name qual:Str}{params:Arguments}{body:List Stmt}{scope:Scope}{dV kV doc pm cdv ct oc:Value}{an od:Option Addr}{osl:Array (Option Value)}{N ps:List Str}{sp:Sp}(lk:K.lookup f=some ⟨oc,od,.func (bf name qual params body scope dV kV doc pm an cdv ct),osl⟩)(hcd:b7 K cdv qual=true)(S:FnScope N ps scope)(len:∀vs H Q E,sp vs H Q E->vs.length=ps.length)(hbody:∀(A:aX)(outer:List Env)(s:ag)(H:Hp)(vs:List V)(Q:VK)(E:XK),Room k (A.deeper (de qual scope s.heap.objs.size f cdv))->sp vs H Q E ->∃t,PSs (cxOf CX P w K mg base N qual scope f cdv A outer s H E) body t/\t {nx:=λ_ H'=>Q .non H',rt:=Q} (start N vs) H):FnOk P w K mg base CX (k+1) f (bf name qual params body scope dV kV doc pm an cdv ct) ps sp:=by
 refine⟨len,λA outer s H args us vs Q E hr e0 hb r hsp=>?_⟩;have hl:=len _ _ _ _ hsp;have KX:K.In s.heap:=e0.mod.kin.keeps λb o e=>(e0.bs b o e).1;have lim:s.heap.NoLimit:=e0.mod.nolimit.keeps λb o e=>(e0.bs b o e).1;have hkind:∀y∈ps.zip us,scope.names.lookup y.1=some .local\/(scope.names.lookup y.1=some .cell/\((cellsFrom (s.heap.objs.size+1) scope.names []).lookup y.1).isSome=true):=λ⟨n,v⟩hy=>by
  rcases S.par n (dC hy).1 with q|q
  ·exact .inl q
  ·exact .inr ⟨q,PySem.W.cellsFrom_some _ _ _ (.inl q)⟩
 refine codeAny_call_function hr.depth (KX _ _ lk) rfl S.co S.gen rfl (PySem.W.codeRec_of KX hcd) (hb _ _ _ _ ?_);refine wpAny_newFunctionEnv_cells S.kind hkind λenv he s1 x=>?_;subst he;refine⟨lim.keeps x.toInCall.keep,codeAny_func ?_⟩;obtain⟨t,ht,hq⟩:=hbody A outer s H vs Q E (hr.deeper _) hsp;have I:Inv (cxOf CX P w K mg base N qual scope f cdv A outer s H E) [] (start N vs) H s1:=WR S hr.hd e0 hl r x;refine c5 (ht [] s1 (start N vs) H _ I hq) (λfl s' hs=>?_) λe s' hs=>hs;have fin:∀{σ':St}{H':Hp}{v:V}{u:Value},Inv (cxOf CX P w K mg base N qual scope f cdv A outer s H E) [] σ' H' s'->RelV v u->Q v H'->CE outer P w H s Q u s':=λ{σ' H' v u}J rv q=>⟨v,H',J.os,J.bare,J.base,J.hok,rv,q⟩;cases fl with
|ret u=>obtain⟨v,σ',H',J,rv,q⟩:=hs;exact fin J rv q
|next=>obtain⟨σ',H',J,q⟩:=hs;exact fin (v:=V.non) (u:=Value.none) J rfl q
|brk=>obtain⟨_,_,_,q⟩:=hs;exact bQ q
|cont=>obtain⟨_,_,_,q⟩:=hs;exact bQ q
open PySem PySem.Spec PyProof.Rows
section
variable {X:Cx}{x:Str}{p pos:Pos}{e:Expr}{es:List Expr}{t:TA}{id T:String}{r:List V->Hp->VK->Prop}
def tCB(r:List V->Hp->VK->Prop)(t:TA):TE:=λσ H Q=>t σ H λvs H1=>r vs H1 Q
theorem ZG(hc:Jh X (.builtin id) r)(hg:Gl X x)(hm:X.mg x=none)(hv:bF x=some (.builtin id))(ha:PA X (e::es) t)(hn:x≠"__name__":=by decide)(hdb:(x==("__debug__":Str))=false:=by decide)(he:aD (e::es) X.env=(false,eval e X.env)::aD es X.env:=by rfl)(hpl:(cw pos (aD es X.env)).any (·.1)=false:=by rfl):PE X (.Call (.Name x p) (e::es) [] pos) (tCB r t):=by intro pins s σ H Q I h;refine di (J1 I hg hm hv ?_ hn hdb);exact PyProof.Rows.callWith_builtin1 (thn (ha pos pins s σ H _ I h) λus s1⟨vs,H1,I1,r1,q1⟩=>hc pins s1 σ H1 vs us Q I1 r1 q1) he hpl
theorem Y2(hc:Jh X (.type T) r)(hg:Gl X x)(hm:X.mg x=none)(hv:bF x=some (.type T))(ha:PA X (e::es) t)(hn:x≠"__name__":=by decide)(hdb:(x==("__debug__":Str))=false:=by decide)(he:aD (e::es) X.env=(false,eval e X.env)::aD es X.env:=by rfl)(hpl:(cw pos (aD es X.env)).any (·.1)=false:=by rfl):PE X (.Call (.Name x p) (e::es) [] pos) (tCB r t):=by intro pins s σ H Q I h;refine di (J1 I hg hm hv ?_ hn hdb);exact br (thn (ha pos pins s σ H _ I h) λus s1⟨vs,H1,I1,r1,q1⟩=>hc pins s1 σ H1 vs us Q I1 r1 q1) he hpl
end
end L2
namespace HT
open PySem PyProof.Rows
section
variable {prog:Program}{w:World}{A:aX}{E:Value->ag->Prop}{s:ag}
theorem cat_tup{t b:Addr}{vs ws:List Value}{Q:Value->ag->Prop}(ht:IsTup s.heap t vs.toArray)(hb:IsTup s.heap b ws.toArray)(hv:vs≠[])(h1:ws=[]->Q (.ref t) s)(h2:ws≠[]->Q (.ref s.heap.objs.size) {s with heap:=s.heap.push {cls:=.type "tuple",data:=.seq (vs++ws).toArray}})(hsz:vs.length+ws.length<=sizeLine):wpAny (model prog w) A (cJ .Add (.ref t) (.ref b)) Q E s:=by
 obtain⟨⟨cls,dd,data,sl⟩,ho,hc,n,hd⟩:=id ht;obtain⟨⟨cls2,dd2,data2,sl2⟩,ho2,hc2,n2,hd2⟩:=id hb;simp only at hc hd hc2 hd2;subst hc hd hc2 hd2;have e:vs.toArray++ws.toArray=(vs++ws).toArray:=by simp
 by_cases hw:ws=[]
 ·exact concat_meets ⟨_,ho,rfl⟩ ⟨_,ho2,rfl⟩ noFill_tuple_add seq_tuple_add fq eV (eQ _ _) (tuple_addW1 t b vs.toArray ws.toArray n n2 dd dd2 sl sl2 (by simpa using hv) (by simp[hw])) ⟨ho,ho2,h1 hw⟩
 ·refine concat_meets ⟨_,ho,rfl⟩ ⟨_,ho2,rfl⟩ noFill_tuple_add seq_tuple_add fq eV (eQ _ _) (tuple_addW2 t b vs.toArray ws.toArray n n2 dd dd2 sl sl2 (by simpa using hv) (by simpa using hw) (by rw[au,au];exact hsz)) ⟨ho,ho2,?_⟩;rw[e];exact h2 hw
noncomputable def sIx(n d:Nat):Option Int->Nat
|none=>d
|some v=>if v<0 then(v+(n:Int)).toNat else min v.toNat n
end
end HT
namespace L2
open PySem PySem.Spec PyProof.Rows
noncomputable abbrev TO:=St->Hp->(Option Int->Hp->Prop)->Prop
def PO(X:Cx)(e:Option Expr)(t:TO):Prop:=∀(pins:List (Addr×Obj))(s:ag)(σ:St)(H:Hp)(Q:Option Int->Hp->Prop),Inv X pins σ H s->t σ H Q ->wpAny (model X.prog X.w) X.A (evalPart e X.env) (λu s'=>∃o H',Inv X pins σ H' s'/\IsPart u o/\Q o H') X.xe s
noncomputable def Dv:TO:=λ_ H Q=>Q none H
noncomputable def He(t:TE):TO:=λσ H Q=>t σ H λx H1=>∃i,x=.int i/\Q (some i) H1
section
variable {X:Cx}{e:Expr}{te:TE}{lo hi:Option Expr}{tl th:TO}{pos p2:Pos}
theorem Xs:PO X none Dv:=by intro pins s σ H Q I h;rw[evalPart_none];exact ao ⟨none,H,I,.none,h⟩
theorem Xr(h:PE X e te):PO X (some e) (He te):=by intro pins s σ H Q I hw;rw[evalPart_some];refine thn (h pins s σ H _ I hw) λu s1 hZ=>?_;obtain⟨x,H1,I1,r1,q1⟩:=hZ;obtain⟨i,rfl,q⟩:=q1;obtain⟨t,rfl⟩:=r1;exact⟨some i,H1,I1,.int i t,q⟩
def SlR(X:Cx)(r:V->Option Int->Option Int->Hp->VK->Prop):Prop:=∀(pins:List (Addr×Obj))(s:ag)(σ:St)(H:Hp)(x:V)(v vl vu:Value)(lo hi:Option Int)(sl:Addr)(Q:VK),Inv X pins σ H s->RelV x v->s.heap.IsSliceOf sl vl vu .none->IsPart vl lo->IsPart vu hi->r x lo hi H Q ->∃T id,gX (.type T) "__getitem__"=pure (some (.builtin id))/\s.TypeIs v T/\wpAny (model X.prog X.w) X.A (getItem v (.ref sl)) (EP X pins σ Q) X.xe s
def tSl(r:V->Option Int->Option Int->Hp->VK->Prop)(te:TE)(tl th:TO):TE:=λσ H Q=>te σ H λx H1=>tl σ H1 λl H2=>th σ H2 λu H3=>r x l u H3 Q
theorem YQ{r:V->Option Int->Option Int->Hp->VK->Prop}(hr:SlR X r)(he:PE X e te)(hl:PO X lo tl)(hu:PO X hi th):PE X (.Subscript e (.Slice lo hi none p2) pos) (tSl r te tl th):=by intro pins s σ H Q I h;refine Subscript_ (thn (he pins s σ H _ I h) λv s1 hZ=>?_);obtain⟨x,H1,I1,r1,q1⟩:=hZ;refine wpAny_Slice (thn (hl pins s1 σ H1 _ I1 q1) λvl s2⟨l,H2,I2,pl,q2⟩=>thn (hu pins s2 σ H2 _ I2 q2) λvu s3 hZ=>?_);obtain⟨u,H3,I3,pu,q3⟩:=hZ;rw[evalPart_none];refine ao ?_;have I4:Inv X pins σ H3 {s3 with heap:=s3.heap.push {cls:=.type "slice",data:=.fields #[vl,vu,.none]}}:=I3.kept (t':=s3.toks) λb ob q=>Heap.get?_push_of_some _ q;obtain⟨T,id,hT,ht,hg⟩:=hr pins {s3 with heap:=s3.heap.push {cls:=.type "slice",data:=.fields #[vl,vu,.none]}} σ H3 x v vl vu l u s3.heap.objs.size Q I4 r1 (Heap.IsSliceOf.new ..) pl pu q3;show wpAny (model X.prog X.w) X.A (subscriptTail e (.Slice lo hi none p2) v (.ref s3.heap.objs.size)) (EP X pins σ Q) X.xe {s3 with heap:=s3.heap.push {cls:=.type "slice",data:=.fields #[vl,vu,.none]}};exact tail_any (ops:=[.ref s3.heap.objs.size,v]) ht hT hg (by with_unfolding_all rfl)
noncomputable def cutV(xs:List V)(lo hi:Option Int):List V:=(xs.drop (HT.sIx xs.length 0 lo)).take (HT.sIx xs.length xs.length hi-HT.sIx xs.length 0 lo)
theorem MS(xs:List V)(lo hi:Option Int):(cutV xs lo hi).length<=xs.length:=by unfold cutV;rw[aw,gR];omega
def Hx(K:aa):R2:=λx y H Q=>∃a b xs ys,x=.ref a/\y=.ref b/\SqT K H a xs/\SqT K H b ys/\xs≠[]/\xs.length+ys.length<=sizeLine /\(ys=[]->Q (.ref a) H)/\(ys≠[]->∀p,H p=none->Q (.ref p) (upd H p (.tup (xs++ys))))
theorem Vals.nil_iff{xs:List V}{us:List Value}(r:Vals xs us):us=[]↔xs=[]:=by
 cases r with
|nil=>simp
|cons _ _=>simp
theorem DQ:OpR X (cJ .Add) (Hx X.K):=by intro pins s σ H x y v u Q I rx ry h;obtain⟨a,b,xs,ys,rfl,rfl,ha,hb,hx,hz,q1,q2⟩:=h;cases rx;cases ry;obtain⟨its,r1,p1,_⟩:=I.tuple ha;obtain⟨its2,r2,p2,_⟩:=I.tuple hb;refine HT.cat_tup p1 p2 (λz=>hx (r1.nil_iff.mp z)) (λz=>⟨.ref a,H,I,rfl,q1 (r2.nil_iff.mp z)⟩) (λz=>?_) (by rw[<-r1.length,<-r2.length];exact hz);refine⟨.ref s.heap.objs.size,_,I.laid (t':=s.toks) (o:=.tup (xs++ys)) (λb ob q=>Heap.get?_push_of_some _ q) (Nat.le_refl _) ?_,rfl,q2 (λw=>z (r2.nil_iff.mpr w)) _ (I.hok.fresh (Nat.le_refl _))⟩;exact⟨by rw[ay];exact hz,_,r1.append r2,IsTup.new _ _⟩
end
open PySem PySem.Spec PyProof.Rows
noncomputable def ixN(n:Nat)(i:Int):Option Nat:=if 0<=i then(if i<n then some i.toNat else none)else if -(n:Int)<=i then some (i+n).toNat else none
noncomputable def atI{α:Type}(xs:List α)(i:Int):Option α:=(ixN xs.length i).bind λj=>xs[j]?
theorem TX{n:Nat}{i:Int}{j:Nat}(h:ixN n i=some j):seqIndex? i n=some j/\j<n/\-(n:Int)<=i/\i<n:=by
 unfold ixN at h;by_cases h0:0<=i
 ·rw[if_pos h0]at h;by_cases h1:i<n
  ·rw[if_pos h1]at h;have e:i.toNat=j:=ar h;exact⟨by rw[seqIndex_of h0 h1,e],by omega,by omega,h1⟩
  ·rw[if_neg h1]at h;cases h
 ·rw[if_neg h0]at h;by_cases h1:-(n:Int)<=i
  ·rw[if_pos h1]at h;have e:(i+n).toNat=j:=ar h;exact⟨by rw[seqIndex_neg (by omega) h1,e],by omega,h1,by omega⟩
  ·rw[if_neg h1]at h;cases h
theorem QB{α:Type}{xs:List α}{i:Int}{v:α}(h:atI xs i=some v):∃j,seqIndex? i xs.length=some j/\xs[j]?=some v/\j<xs.length/\-(xs.length:Int)<=i/\i<xs.length:=by
 unfold atI at h;cases e:ixN xs.length i with
|none=>rw[e]at h;cases h
|some j=>rw[e]at h;obtain⟨h1,h2,h3,h4⟩:=TX e;exact⟨j,h1,h,h2,h3,h4⟩
theorem Zr{α:Type}{xs:List α}{j:Nat}{v:α}(h:xs[j]?=some v):atI xs (j:Int)=some v:=by
 have hj:j<xs.length:=(aj.mp h).1;have e:ixN xs.length (j:Int)=some j:=by unfold ixN;rw[if_pos (by omega),if_pos (by omega)];simp
 unfold atI;rw[e];exact h
theorem Rw{α:Type}(xs:List α)(v:α):atI (xs++[v]) (-1)=some v:=by
 have hl:(xs++[v]).length=xs.length+1:=by simp
 have e:ixN (xs++[v]).length (-1)=some xs.length:=by unfold ixN;rw[hl,if_neg (by decide),if_pos (by omega)];congr 1;omega
 unfold atI;rw[e];show(xs++[v])[xs.length]?=some v;simp
def QD(b:Expr):Prop:=∀o i,subscripted b false o i=operate [o,i] (getItem o i)
def IxR(X:Cx)(r:R2):Prop:=∀(value slice:Expr)(pins:List (Addr×Obj))(s:ag)(σ:St)(H:Hp)(x y:V)(v u:Value)(Q:VK),Inv X pins σ H s->RelV x v->RelV y u->r x y H Q ->subscripted slice false v u=operate [v,u] (getItem v u)->wpAny (model X.prog X.w) X.A (subscriptTail value slice v u) (EP X pins σ Q) X.xe s
def MtR(X:Cx)(id:String)(r:V->List V->Hp->VK->Prop):Prop:=∀(pins:List (Addr×Obj))(s:ag)(σ:St)(H:Hp)(x:V)(xs:List V)(v:Value)(us:List Value)(Q:VK),Inv X pins σ H s->RelV x v->Vals xs us->r x xs H Q ->wpAny (model X.prog X.w) X.A (call (.builtin id) (v::us)) (EP X pins σ Q) X.xe s
section
variable {X:Cx}{a b:Expr}{ta tb:TE}{pos:Pos}
theorem Yj{r:R2}(hr:IxR X r)(ha:PE X a ta)(hb:PE X b tb)(hs:QD b):PE X (.Subscript a b pos) (tOp r ta tb):=by intro pins s σ H Q I h;exact Subscript_ (binT ha hb I h λv u s2 x y H2 I2 rx ry q=>hr a b pins s2 σ H2 x y v u Q I2 rx ry q (hs _ _))
def rIxL(K:aa):R2:=λx y H Q=>∃p xs i v,x=.ref p/\y=.int i/\SqL K H p xs/\atI xs i=some v/\Q v H
def rIxT(K:aa):R2:=λx y H Q=>∃p xs i v,x=.ref p/\y=.int i/\SqT K H p xs/\atI xs i=some v/\Q v H
def rIxS:R2:=λx y H Q=>∃z i c,x=.str z/\y=.int i/\z.length<=sizeLine/\atI z.cps.toList i=some c/\Q (.str ⟨#[c]⟩) H
theorem Ec:IxR X (rIxL X.K):=by
 intro value slice pins s σ H x y v u Q I rx ry h hs;obtain⟨p,xs,i,z,rfl,rfl,hq,he,q⟩:=h;cases rx;obtain⟨t,rfl⟩:=ry;obtain⟨its,r,pl,hz⟩:=I.list hq;obtain⟨j,h1,h2,h3,h4,h5⟩:=QB he;obtain⟨w,ew,rw'⟩:=r.get h2;have hl:=r.length;have hn:=UB;have fin:EP X pins σ Q w s:=⟨z,H,I,rw',q⟩;by_cases h0:0<=i
 ·have hj:i.toNat=j:=by rw[seqIndex_of h0 h5]at h1;exact ar h1
  exact item_listR pl.isList h0 (by omega) (by rw[hj];simpa using ew) fin hs
 ·have hj:(i+(its.toArray.size:Int)).toNat=j:=by rw[seqIndex_neg (by omega) h4]at h1;rw[au,<-hl];exact ar h1
  exact subscriptTail_builtinR (x:=w) pl.isList.typeIs slot_list_getitem.lookup (wpAny_getItem_list_neg (Q:=λr s'=>r=w/\EP X pins σ Q r s') pl.isList (by omega) (by rw[au]<;>omega) (by omega) (by rw[hj];simpa using ew) ⟨rfl,fin⟩) hs
theorem Yb:IxR X (rIxT X.K):=by intro value slice pins s σ H x y v u Q I rx ry h hs;obtain⟨p,xs,i,z,rfl,rfl,hq,he,q⟩:=h;cases rx;obtain⟨t,rfl⟩:=ry;obtain⟨its,r,pl,hz⟩:=I.tuple hq;obtain⟨j,h1,h2,h3,h4,h5⟩:=QB he;obtain⟨w,ew,rw'⟩:=r.get h2;have hl:=r.length;have hn:=UB;have fin:EP X pins σ Q w s:=⟨z,H,I,rw',q⟩;exact subscriptTail_builtinR (x:=w) pl.typeIs slot_tuple_getitem.lookup (getItem_tuple (j:=j) (Q:=λr s'=>r=w/\EP X pins σ Q r s') pl (by omega) (by omega) (by rw[au,<-hl];exact h1) (by simpa using ew) ⟨rfl,fin⟩) hs
theorem NS:IxR X rIxS:=by
 intro value slice pins s σ H x y v u Q I rx ry h hs;obtain⟨z,i,c,rfl,rfl,hz,he,q⟩:=h;obtain⟨t,rfl⟩:=rx;obtain⟨t',rfl⟩:=ry;obtain⟨j,h1,h2,h3,h4,h5⟩:=QB he;have hl:z.cps.toList.length=z.length:=by simp[Str.length]
 rw[hl]at h1 h4 h5;have hn:=UB;exact tail_any (typeIs_str s z t) slot_str_getitem.lookup (getItem_str (c:=c) (by have e1:decide (i < -(2 ^ 63:Int))=false:=decide_eq_false (by omega);have e2:decide (i >= 2 ^ 63)=false:=decide_eq_false (by omega);rw[e1,e2,Bool.or_false]) (by rw[h1];simpa using h2) ⟨.str ⟨#[c]⟩,H,I.tok _,⟨_,rfl⟩,q⟩) hs
theorem R9(its:List Value)(n j:Nat)(u:Value):Obj.mapSeq (·.setIfInBounds j u) {cls:=.type "list",data:=.seq its.toArray n}={cls:=.type "list",data:=.seq (its.set j u).toArray n}:=by simp[Obj.mapSeq]
theorem Inv.lst{pins:List (Addr×Obj)}{σ:St}{H:Hp}{s:ag}{p:Addr}{xs:List V}(I:Inv X pins σ H s)(h:H p=some (.lst xs)):∃(its:List Value)(n:Nat),Vals xs its/\s.heap.get? p=some {cls:=.type "list",data:=.seq its.toArray n}/\xs.length<=sizeLine:=by obtain⟨z,its,n,r,e⟩:=I.hok p _ h;exact⟨its,n,r,e,z⟩
theorem Inv.lstUpd{pins:List (Addr×Obj)}{σ:St}{H:Hp}{s:ag}{p:Addr}{xs ys:List V}{its its':List Value}{n n':Nat}{f:Obj->Obj}(I:Inv X pins σ H s)(h:H p=some (.lst xs))(ho:s.heap.get? p=some {cls:=.type "list",data:=.seq its.toArray n})(hf:f {cls:=.type "list",data:=.seq its.toArray n}={cls:=.type "list",data:=.seq its'.toArray n'})(r:Vals ys its')(hz:ys.length<=sizeLine)(t:Nat):Inv X pins σ (upd H p (.lst ys)) {s with heap:=s.heap.update p f,toks:=t}:=by
 have e:(s.heap.update p f).get? p=some {cls:=.type "list",data:=.seq its'.toArray n'}:=by rw[Heap.get?_update_self f ho (by rw[hf]<;>rfl),hf]
 refine I.write (x:=p) (e:=p) (by rw[h];trivial) (.inl rfl) (λb u hb q=>(Heap.get?_update_other _ _ (bA hb)).trans q) ⟨_,e⟩ ?_;exact⟨hz,its',n',r,e⟩
noncomputable def Hv:V->V->V->Hp->(Hp->Prop)->Prop:=λo i v H Q=>∃p xs k j,o=.ref p/\i=.int k/\H p=some (.lst xs)/\ixN xs.length k=some j/\Q (upd H p (.lst (xs.set j v)))
theorem set_list:PSet X Hv:=by
 intro pins s σ H o i v ov iv u Q I ro ri rv h;obtain⟨p,xs,k,j,rfl,rfl,hp,hj,q⟩:=h;cases ro;obtain⟨t,rfl⟩:=ri;obtain⟨its,n,r,ho,hz⟩:=I.lst hp;obtain⟨h1,h2,h3,h4⟩:=TX hj;have hl:=r.length;have hn:=UB;have I':Inv X pins σ (upd H p (.lst (xs.set j v))) {s with heap:=s.heap.update p (Obj.mapSeq (·.setIfInBounds j u))}:=I.lstUpd hp ho (R9 its n j u) (r.set rv j) (by rw[fL];exact hz) s.toks;by_cases h0:0<=k
 ·have hk:k.toNat=j:=by rw[seqIndex_of h0 h4]at h1;exact ar h1
  exact PySem.W.ki_setAt ho h0 (by omega) (by rw[au,<-hl];exact h4) (by rw[hk];exact⟨_,I',q⟩)
 ·have hk:(k+(its.toArray.size:Int)).toNat=j:=by rw[seqIndex_neg (by omega) h3]at h1;rw[au,<-hl];exact ar h1
  exact PySem.W.ki_setBack ho (by omega) (by rw[au,<-hl];exact h3) (by omega) (by rw[hk];exact⟨_,I',q⟩)
theorem Qd(lo hi:Option Int)(n:Nat):(d9 lo hi none n).1=((HT.sIx n 0 lo:Nat):Int)/\(d9 lo hi none n).2.1=((HT.sIx n n hi:Nat):Int)/\(d9 lo hi none n).2.2=1:=by
 refine⟨?_,?_,rfl⟩
 ·cases lo with
 |none=>simp[d9,HT.sIx]
 |some i=>
   simp only[d9,HT.sIx,Option.getD_none,show(1:Int)>0 by decide,if_true];by_cases h:i<0
   ·simp only[h,if_true]<;>omega
   ·simp only[h,if_false]<;>omega
 ·cases hi with
 |none=>simp[d9,HT.sIx]
 |some i=>
   simp only[d9,HT.sIx,Option.getD_none,show(1:Int)>0 by decide,if_true];by_cases h:i<0
   ·simp only[h,if_true]<;>omega
   ·simp only[h,if_false]<;>omega
theorem N9(its:List Value)(lo hi:Option Int):slicePick its.toArray lo hi none=((its.drop (HT.sIx its.length 0 lo)).take (HT.sIx its.length its.length hi-HT.sIx its.length 0 lo)).toArray:=by obtain⟨h1,h2,h3⟩:=Qd lo hi its.toArray.size;unfold slicePick;rw[h1,h2,h3];simp only[sliceRange_one,pick_run,au]<;>rfl
noncomputable def rSlL(K:aa):V->Option Int->Option Int->Hp->VK->Prop:=λx lo hi H Q=>∃a xs,x=.ref a/\SqL K H a xs/\∀p,H p=none->Q (.ref p) (upd H p (.lst (cutV xs lo hi)))
theorem JU:SlR X (rSlL X.K):=by intro pins s σ H x v vl vu lo hi sl Q I rx hs pl pu h;obtain⟨a,xs,rfl,hx,q⟩:=h;cases rx;obtain⟨its,r,ht,hz⟩:=I.list hx;have hlen:=r.length;refine⟨"list",_,slot_list_getitem.lookup,ht.isList.typeIs,?_⟩;refine wpAny_getItem_list_slice ht.isList hs pl pu .none (by simp) ?_ (by rw[au]<;>omega);rw[N9,<-hlen];refine⟨.ref s.heap.objs.size,_,I.laid (t':=s.toks) (o:=.lst (cutV xs lo hi)) (λb ob q=>Heap.get?_push_of_some _ q) (Nat.le_refl _) ?_,rfl,q _ (I.hok.fresh (Nat.le_refl _))⟩;exact⟨Nat.le_trans (MS xs lo hi) hz,_,0,(r.drop (HT.sIx xs.length 0 lo)).take (HT.sIx xs.length xs.length hi-HT.sIx xs.length 0 lo),Heap.get?_push_size _ rfl⟩
noncomputable def Uj:V->Bool
|.non=>true
|.bl _=>true
|.int _=>true
|.str _=>true
|_=>false
noncomputable def eqV:V->V->Bool
|.non,.non=>true
|.bl a,.bl b=>a==b
|.bl a,.int b=>(if a then 1 else 0)==b
|.int a,.bl b=>a==(if b then 1 else 0)
|.int a,.int b=>a==b
|.str a,.str b=>a==b
|_,_=>false
theorem FR{A:aX}{s:ag}{y x:V}{u v:Value}(ry:RelV y u)(rx:RelV x v)(fy:Uj y=true)(fx:Uj x=true):SeqAt.EqAt A s u v (eqV y x):=by
 cases y with
|non=>
  cases ry;cases x with
 |non=>cases rx;exact SeqAt.EqAt.same _
 |bl b=>cases rx;exact SeqAt.EqAt.none_bool b
 |int b=>obtain⟨t,rfl⟩:=rx;exact SeqAt.EqAt.none_int b t
 |str b=>obtain⟨t,rfl⟩:=rx;exact SeqAt.EqAt.none_str b t
 |_=>exact absurd (show false=true from fx) Bool.false_ne_true
|bl a=>
  cases ry;cases x with
 |non=>cases rx;exact SeqAt.EqAt.bool_none a
 |bl b=>cases rx;exact SeqAt.EqAt.bool_bool a b
 |int b=>obtain⟨t,rfl⟩:=rx;exact SeqAt.EqAt.bool_int a b t
 |str b=>obtain⟨t,rfl⟩:=rx;exact SeqAt.EqAt.bool_str a b t
 |_=>exact absurd (show false=true from fx) Bool.false_ne_true
|int a=>
  obtain⟨t',rfl⟩:=ry;cases x with
 |non=>cases rx;exact SeqAt.EqAt.int_none a t'
 |bl b=>cases rx;exact SeqAt.EqAt.int_bool a t' b
 |int b=>obtain⟨t,rfl⟩:=rx;exact SeqAt.EqAt.int_int a t' b t
 |str b=>obtain⟨t,rfl⟩:=rx;exact SeqAt.EqAt.int_str a t' b t
 |_=>exact absurd (show false=true from fx) Bool.false_ne_true
|str a=>
  obtain⟨t',rfl⟩:=ry;cases x with
 |non=>cases rx;exact SeqAt.EqAt.str_none a t'
 |bl b=>cases rx;exact SeqAt.EqAt.str_bool a t' b
 |int b=>obtain⟨t,rfl⟩:=rx;exact SeqAt.EqAt.str_int a t' b t
 |str b=>obtain⟨t,rfl⟩:=rx;exact SeqAt.EqAt.str_str a t' b t
 |_=>exact absurd (show false=true from fx) Bool.false_ne_true
|_=>exact absurd (show false=true from fy) Bool.false_ne_true
noncomputable def eqU(x:V)(u:Value):Bool:=match u with
|.none=>eqV .non x
|.bool b=>eqV (.bl b) x
|.int i _=>eqV (.int i) x
|.str z _=>eqV (.str z) x
|_=>false
theorem LU{x y:V}{u:Value}(r:RelV y u)(f:Uj y=true):eqU x u=eqV y x:=by
 cases y with
|non=>cases r;rfl
|bl b=>cases r;rfl
|int i=>obtain⟨t,rfl⟩:=r;rfl
|str z=>obtain⟨t,rfl⟩:=r;rfl
|_=>exact absurd (show false=true from f) Bool.false_ne_true
theorem QC{x:V}:∀{xs:List V}{us:List Value},Vals xs us->xs.all Uj=true->us.any (eqU x)=xs.any λy=>eqV y x
|_,_,.nil,_=>rfl
|y::xs,u::us,.cons r t,f=>by rw[List.all_cons,Bool.and_eq_true]at f;rw[ff,ff,LU r f.1,QC t f.2]
theorem NN{A:aX}{s:ag}{x:V}{v:Value}(rx:RelV x v)(fx:Uj x=true):∀{xs:List V}{us:List Value},Vals xs us->xs.all Uj=true->∀u∈us,SeqAt.EqAt A s u v (eqU x u)
|_,_,.nil,_=>λu hu=>by cases hu
|y::xs,u::us,.cons r t,f=>λu' hu=>by
  rw[List.all_cons,Bool.and_eq_true]at f;rcases aA.mp hu with rfl|hu
  ·rw[LU r f.1];exact FR r rx f.1 fx
  ·exact NN rx fx t f.2 u' hu
noncomputable def inV(x:V)(xs:List V):Bool:=xs.any λy=>eqV y x
def rIn(K:aa)(neg:Bool):R2:=λx y H Q=>∃p xs,y=.ref p/\(SqL K H p xs\/SqT K H p xs)/\Uj x=true/\xs.all Uj=true/\Q (.bl (if neg then !inV x xs else inV x xs)) H
theorem WH:OpR X (bE .In) (rIn X.K false):=by
 intro pins s σ H x y v u Q I rx ry h;obtain⟨p,xs,rfl,hq,fx,fs,q⟩:=h;cases ry;rcases hq with hq|hq
 ·obtain⟨its,r,pl,hz⟩:=I.list hq;refine SeqAt.in_listAt (eqU x) pl.isList (λw hw=>NN rx fx r fs w (by simpa using hw)) ⟨.bl _,H,I,rfl,?_⟩;rw[show its.toArray.any (eqU x)=its.any (eqU x) by simp,QC r fs];exact q
 ·obtain⟨its,r,pl,hz⟩:=I.tuple hq;refine SeqAt.in_tupleAt (eqU x) pl (λw hw=>NN rx fx r fs w (by simpa using hw)) ⟨.bl _,H,I,rfl,?_⟩;rw[show its.toArray.any (eqU x)=its.any (eqU x) by simp,QC r fs];exact q
theorem J6:Jh X (.builtin "len") (λxs H Q=>∃p ys,xs=[.ref p]/\(SqL X.K H p ys\/SqT X.K H p ys)/\Q (.int ys.length) H):=by
 intro pins s σ H xs us Q I r h;obtain⟨p,ys,rfl,hq,q⟩:=h;obtain⟨u,rfl,rx⟩:=vals1 r;cases rx;have hn:=UB;rcases hq with hq|hq
 ·obtain⟨its,r',pl,hz⟩:=I.list hq;have hlen:=r'.length;exact Calls.call_len_list pl.isList (by simp only[au]<;>omega) ⟨.int ys.length,H,I.tok _,⟨s.toks+1,by rw[au,hlen]⟩,q⟩
 ·obtain⟨its,r',pl,hz⟩:=I.tuple hq;have hlen:=r'.length;exact len_tuple pl (by simp only[au]<;>omega) ⟨.int ys.length,H,I.tok _,⟨s.toks+1,by rw[au,hlen]⟩,q⟩
theorem GV:Jh X (.type "list") (λxs H Q=>∃p ys,xs=[.ref p]/\(SqL X.K H p ys\/SqT X.K H p ys)/\∀l,H l=none->Q (.ref l) (upd H l (.lst ys))):=by
 intro pins s σ H xs us Q I r h;obtain⟨p,ys,rfl,hq,q⟩:=h;obtain⟨u,rfl,rx⟩:=vals1 r;cases rx;have fin:∀(its:List Value),Vals ys its->ys.length<=sizeLine->∀(h':Heap)(c':Nat),(∀b o',s.heap.get? b=some o'->h'.get? b=some o') ->h'.get? s.heap.objs.size=some {cls:=.type "list",dict:=none,data:=.seq its.toArray c',slots:=#[]}->EP X pins σ Q (.ref s.heap.objs.size) {s with heap:=h'}:=λits r' hz h' c' kp e=>⟨.ref s.heap.objs.size,_,I.laid (t':=s.toks) kp (Nat.le_refl _) (show ZP X.prog X.w _ h' _ (.lst ys)from⟨hz,its,c',r',e⟩),rfl,q _ (I.hok.fresh (Nat.le_refl _))⟩;rcases hq with hq|hq
 ·obtain⟨its,r',pl,hz⟩:=I.list hq;have hlen:=r'.length;obtain⟨o,ho,hc,n,hd⟩:=pl.isList;exact call_list_seq p (.inl rfl) ho hc hd (λh' c' kp e=>fin its r' hz h' c' kp e) (by simp only[au]<;>omega)
 ·obtain⟨its,r',pl,hz⟩:=I.tuple hq;have hlen:=r'.length;obtain⟨o,ho,hc,n,hd⟩:=pl;exact call_list_seq p (.inr rfl) ho hc hd (λh' c' kp e=>fin its r' hz h' c' kp e) (by simp only[au]<;>omega)
theorem JE:Jh X (.type "tuple") (λxs H Q=>∃p ys,xs=[.ref p]/\((SqL X.K H p ys/\∀l,H l=none->Q (.ref l) (upd H l (.tup ys)))\/(SqT X.K H p ys/\Q (.ref p) H))):=by
 intro pins s σ H xs us Q I r h;obtain⟨p,ys,rfl,h⟩:=h;obtain⟨u,rfl,rx⟩:=vals1 r;cases rx;rcases h with⟨hq,q⟩|⟨hq,q⟩
 ·obtain⟨its,r',pl,hz⟩:=I.list hq;have hlen:=r'.length;refine call_tuple_list pl.isList (λh' kp=>?_) (by simp only[au]<;>omega);have I1:Inv X pins σ H {s with heap:=h'}:=I.kept (t':=s.toks) kp;have I2:Inv X pins σ (upd H h'.objs.size (.tup ys)) {s with heap:=h'.push {cls:=.type "tuple",data:=.seq its.toArray}}:=I1.laid (t':=s.toks) (λb o e=>Heap.get?_push_of_some _ e) (Nat.le_refl _) (show ZP X.prog X.w _ _ _ (.tup ys)from⟨hz,its,r',IsTup.new _ _⟩);exact⟨.ref h'.objs.size,_,I2,rfl,q _ (I1.hok.fresh (Nat.le_refl _))⟩
 ·obtain⟨its,r',pl,hz⟩:=I.tuple hq;exact call_tuple_same pl ⟨.ref p,H,I,rfl,q⟩
def tyV(K:aa)(T:String)(x:V)(H:Hp):Prop:=match x with
|.str _=>T="str"
|.int _=>T="int"
|.ref p=>(T="list"/\∃xs,SqL K H p xs)\/(T="tuple"/\∃o,K.lookup p=some o/\o.cls=.type "tuple"/\o.dict=none) \/(T="dict"/\((∃kvs,H p=some (.dK kvs))\/∃kvs,H p=some (.dT kvs)))\/(T="set"/\∃S n,H p=some (.set S n))
|_=>False
theorem Ky{pins:List (Addr×Obj)}{σ:St}{H:Hp}{s:ag}{T:String}{x:V}{v:Value}(I:Inv X pins σ H s)(r:RelV x v)(ty:tyV X.K T x H):s.TypeIs v T/\∀a,v=.ref a->∃ob,s.heap.get? a=some ob/\ob.dict=none:=by
 cases x with
|str z=>obtain⟨t,rfl⟩:=r;cases(show T="str" from ty);exact⟨typeIs_str s z t,λ_ e=>nomatch e⟩
|int i=>obtain⟨t,rfl⟩:=r;cases(show T="int" from ty);exact⟨typeIs_int s i t,λ_ e=>nomatch e⟩
|ref p=>
  cases r;rcases ty with⟨rfl,xs,hq⟩|⟨rfl,o,hk,hc,hd⟩|⟨rfl,hk⟩|⟨rfl,S,n,hk⟩
  ·obtain⟨its,_,pl,_⟩:=I.list hq;refine⟨pl.isList.typeIs,λa e=>?_⟩;cases e;obtain⟨o,n,e,c,hd,_⟩:=pl;exact⟨o,e,hd⟩
  ·refine⟨⟨o,I.kIn p o hk,hc⟩,λa e=>?_⟩;cases e;exact⟨o,I.kIn _ o hk,hd⟩
  ·have z:∃o,s.heap.get? p=some o/\o.ExactDict:=by
    rcases hk with⟨kvs,hk⟩|⟨kvs,hk⟩
    ·obtain⟨_,_,_,_,o,_,_,e,ex,_⟩:=I.hok p _ hk;exact⟨o,e,ex⟩
    ·obtain⟨_,_,_,_,o,_,_,e,ex,_⟩:=I.hok p _ hk;exact⟨o,e,ex⟩
   obtain⟨o,e,ex⟩:=z;refine⟨⟨o,e,ex.1⟩,λa e2=>?_⟩;cases e2;exact⟨o,e,ex.2.1⟩
  ·obtain⟨o,_,_,_,e,ex,_⟩:=I.hok p _ hk;refine⟨⟨o,e,ex.1⟩,λa e2=>?_⟩;cases e2;exact⟨o,e,ex.2.1⟩
|_=>exact bQ ty
def tBM0(K:aa)(T:String)(r:V->List V->Hp->VK->Prop)(to:TE):TE:=λσ H Q=>to σ H λx H1=>tyV K T x H1/\r x [] H1 Q
def tBM(K:aa)(T:String)(r:V->List V->Hp->VK->Prop)(to:TE)(t:TA):TE:=λσ H Q=>to σ H λx H1=>tyV K T x H1/\t σ H1 λxs H2=>r x xs H2 Q
variable {o e:Expr}{es:List Expr}{to:TE}{t:TA}{name:Str}{apos cpos:Pos}{T id:String}{r:V->List V->Hp->VK->Prop}
theorem E8(pa:PlainAttrs T)(slot:Slot T name id)(hty:typeOf (.builtin id)=pure (.type "method_descriptor"))(hm:MtR X id r)(ho:PE X o to)(hbase:dE o name X.env (eval o X.env)=eval o X.env:=by rfl)(hline:(apos.endLine==cpos.line)=true:=by rfl):PE X (.Call (.Attribute o name apos) [] [] cpos) (tBM0 X.K T r to):=by intro pins s σ H Q I h;refine wpAny_Call_method0_late hbase hline (thn (ho pins s σ H _ I h) λv s1 hZ=>?_);obtain⟨x,H1,I1,r1,ty,q1⟩:=hZ;obtain⟨h1,h2⟩:=Ky I1 r1 ty;exact⟨T,id,pa,slot,hty,h1,h2,fB rfl (PySem.evalArgs_none (hm pins s1 σ H1 x [] v [] Q I1 r1 .nil q1))⟩
theorem ND(pa:PlainAttrs T)(slot:Slot T name id)(hty:typeOf (.builtin id)=pure (.type "method_descriptor"))(hm:MtR X id r)(ho:PE X o to)(ha:PA X (e::es) t)(hbase:dE o name X.env (eval o X.env)=eval o X.env:=by rfl)(hfew:((cw cpos (aD (e::es) X.env)).all (λx=>!x.1)&&(d8 cpos (dh [] X.env)).all (λx=>x.1.isSome)&&decide ((e::es).length+([]:List Keyword).length+(if([]:List Keyword).isEmpty then 0 else 1)<30))=true:=by rfl)(hline:(apos.endLine==cpos.line)=true:=by rfl)(hs:aD (e::es) X.env=(false,eval e X.env)::aD es X.env:=by rfl)(hplain:(cw cpos (aD es X.env)).any (·.1)=false:=by rfl):PE X (.Call (.Attribute o name apos) (e::es) [] cpos) (tBM X.K T r to t):=by
 intro pins s σ H Q I h;refine wpAny_Call_method_late hbase hfew hline rfl (thn (ho pins s σ H _ I h) λv s1 hZ=>?_);obtain⟨x,H1,I1,r1,ty,q1⟩:=hZ;obtain⟨h1,h2⟩:=Ky I1 r1 ty;refine⟨T,id,pa,slot,hty,h1,h2,?_⟩;have hA:=ha cpos pins s1 σ H1 _ I1 q1;rw[hs]at hA ⊢;refine fB (by show(false||(cw cpos (aD es X.env)).any (·.1))=false;rw[hplain]<;>rfl) (Calls.evalArgs_plain ?_)
 exact thn hA λus s2⟨vs,H2,I2,r2,q2⟩=>hm pins s2 σ H2 x vs v us Q I2 r1 r2 q2
end
open PySem PySem.Spec PyProof.Rows
def MtM(X:Cx)(id:String)(r:V->List V->Hp->VK->Prop):Prop:=∀(pins:List (Addr×Obj))(s:ag)(σ:St)(H:Hp)(x:V)(xs:List V)(v:Value)(us:List Value)(Q:VK),Inv X pins σ H s->RelV x v->Vals xs us->r x xs H Q ->wpAny (model X.prog X.w) X.A (call (.builtin id) (v::us)) (EP X pins σ Q) X.xe s
theorem Vals.one:∀{x:V}{us:List Value},Vals [x] us->∃u,us=[u]/\RelV x u
|_,_,.cons r .nil=>⟨_,rfl,r⟩
theorem Vals.zero:∀{us:List Value},Vals [] us->us=[]
|_,.nil=>rfl
section
variable {X:Cx}{pins:List (Addr×Obj)}{σ:St}{H:Hp}{s:ag}{l b:Addr}{xs ys zs:List V}
theorem Inv.lset{its its':List Value}{n:Nat}{f:Array Value->Array Value}{t':Nat}(I:Inv X pins σ H s)(hH:H l=some (.lst xs))(e:s.heap.get? l=some {cls:=.type "list",data:=.seq its.toArray n})(hf:f its.toArray=its'.toArray)(hv:Vals ys its')(hz:ys.length<=sizeLine):Inv X pins σ (upd H l (.lst ys)) {s with heap:=s.heap.update l (Obj.mapSeq f),toks:=t'}:=by have q:=PySem.IsL.update e f;rw[hf]at q;refine I.write (x:=l) (e:=l) (by rw[hH];exact trivial) (.inl rfl) (λb' u hb hu=>(Heap.get?_update_other s.heap (Obj.mapSeq f) (bA hb)).trans hu) ⟨_,q⟩ ?_;exact⟨hz,its',_,hv,q⟩
theorem Inv.lnew{its:List Value}{t':Nat}(I:Inv X pins σ H s)(hv:Vals ys its)(hz:ys.length<=sizeLine):Inv X pins σ (upd H s.heap.objs.size (.lst ys)) {s with heap:=s.heap.push {cls:=.type "list",data:=.seq its.toArray},toks:=t'}:=I.laid (λ_ _ q=>Heap.get?_push_of_some _ q) (Nat.le_refl _) ⟨hz,its,0,hv,Heap.get?_push_size _ rfl⟩
theorem Inv.fresh(I:Inv X pins σ H s):H s.heap.objs.size=none:=I.hok.fresh (Nat.le_refl _)
theorem Inv.lstM(I:Inv X pins σ H s)(hH:H l=some (.lst xs)):xs.length<=sizeLine/\∃(its:List Value)(n:Nat),Vals xs its/\xs.length=its.length/\s.heap.get? l=some {cls:=.type "list",data:=.seq its.toArray n}:=by obtain⟨z,its,n,r,e⟩:=I.hok l _ hH;exact⟨z,its,n,r,r.length,e⟩
theorem Ls{n:Nat}(h:n<=sizeLine):dU n=false:=by unfold dU;exact decide_eq_false (by omega)
end
section
variable {X:Cx}
noncomputable def DJ:V->List V->Hp->VK->Prop:=λx vs H Q=>∃l xs y,x=.ref l/\vs=[y]/\H l=some (.lst xs)/\xs.length<sizeLine/\Q .non (upd H l (.lst (xs++[y])))
theorem WJ:MtM X "list.append" DJ:=by intro pins s σ H x vs v us Q I rx rv h;obtain⟨l,xs,y,rfl,rfl,hH,hz,q⟩:=h;cases rx;obtain⟨u,rfl,ru⟩:=rv.one;obtain⟨z,its,n,r,hl,e⟩:=I.lstM hH;refine gY F.slot_list_append ⟨_,e,rfl⟩ F.entry_list_append (F.args_list_append_2 _ _) (PySem.list_append l its.toArray n u (by rw[au];omega)) ⟨e,?_⟩;refine⟨.non,_,I.lset (its':=its++[u]) hH e (by simp) (r.append (.cons ru .nil)) ?_,rfl,q⟩;rw[ay,List.length_singleton];omega
noncomputable def DI:V->List V->Hp->VK->Prop:=λx vs H Q=>∃l b xs zs,x=.ref l/\vs=[.ref b]/\H l=some (.lst xs)/\H b=some (.lst zs)/\xs.length+zs.length<=sizeLine/\Q .non (upd H l (.lst (xs++zs)))
theorem Mg:MtM X "list.extend" DI:=by
 intro pins s σ H x vs v us Q I rx rv h;obtain⟨l,b,xs,zs,rfl,rfl,hH,hB,hz,q⟩:=h;cases rx;obtain⟨u,rfl,ru⟩:=rv.one;cases ru;obtain⟨z,its,n,r,hl,e⟩:=I.lstM hH;obtain⟨z2,its2,n2,r2,hl2,e2⟩:=I.lstM hB;have hsz:its.toArray.size+its2.toArray.size<=sizeLine:=by rw[au,au];omega
 have hlong:¬(!its.toArray.isEmpty&&dU (its.toArray.size+its2.toArray.size))=true:=by rw[Ls hsz,Bool.and_false];exact Bool.false_ne_true
 refine gY F.slot_list_extend ⟨_,e,rfl⟩ F.entry_list_extend (F.args_list_extend_2 _ _) (AutoSeq1.list_extend_list_list_0 l its.toArray n b its2.toArray n2 hlong (by rw[au];omega) (by omega)) ⟨e,e2,?_⟩;refine⟨.non,_,I.lset (its':=its++its2) hH e (by simp) (r.append r2) ?_,rfl,q⟩;rw[ay];omega
noncomputable def E3:V->List V->Hp->VK->Prop:=λx vs H Q=>∃l xs,x=.ref l/\vs=[]/\H l=some (.lst xs)/\Q .non (upd H l (.lst []))
theorem Lv:MtM X "list.clear" E3:=by intro pins s σ H x vs v us Q I rx rv h;obtain⟨l,xs,rfl,rfl,hH,q⟩:=h;cases rx;have hus:=rv.zero;subst hus;obtain⟨z,its,n,r,hl,e⟩:=I.lstM hH;refine gY F.slot_list_clear ⟨_,e,rfl⟩ F.entry_list_clear (F.args_list_clear_1 _) (AutoSeq1.list_clear_list_0 l its.toArray n (by rw[au];omega)) ⟨e,?_⟩;exact⟨.non,_,I.lset (its':=[]) (ys:=[]) hH e rfl .nil (Nat.zero_le _),rfl,q⟩
def rCat:R2:=λx y H Q=>∃l b xs zs,x=.ref l/\y=.ref b/\H l=some (.lst xs)/\H b=some (.lst zs)/\xs.length+zs.length<=sizeLine/\∀p,H p=none->Q (.ref p) (upd H p (.lst (xs++zs)))
theorem Uz:OpR X (cJ .Add) rCat:=by
 intro pins s σ H x y v u Q I rx ry h;obtain⟨l,b,xs,zs,rfl,rfl,hH,hB,hz,q⟩:=h;cases rx;cases ry;obtain⟨z,its,n,r,hl,e⟩:=I.lstM hH;obtain⟨z2,its2,n2,r2,hl2,e2⟩:=I.lstM hB;refine PySem.P.add_list e e2 ?_ (by rw[au,au];omega);have ea:its.toArray++its2.toArray=(its++its2).toArray:=by simp
 rw[ea];exact⟨.ref _,_,I.lnew (t':=s.toks) (r.append r2) (by rw[ay];omega),rfl,q _ I.fresh⟩
end
end L2
namespace Att
open PySem PySem.W PySem.Calls PyProof.Rows
theorem MT{P:Params}{h:Heap}:∀(ns:List Int)(vs:List Value),WellAll P h vs (ns.map WData.int)->IntsAre vs ns:=by
 intro ns;induction ns with
|nil=>intro vs w;rw[d6]at w;cases w;exact .nil
|cons n ns ih=>
  intro vs w;rw[aL]at w;cases w with
 |cons a b=>cases a;exact .cons _ _ (ih _ b)
theorem Wu{l:OpenLaw}{n:Nat}(hn:l.most=some n){P:Params}{h:Heap}{args:List WData}{vals:List Value}(hpre:l.row.toRowW.claim.pre args=true)(hwl:WellAll P h vals args):∃a vs ns,vals=[Value.ref a]/\args=[WData.list (ns.map WData.int)]/\h.get? a=some {cls:=.type "list",data:=.seq vs.toArray}/\IntsAre vs ns/\ns.length<=n:=by
 have hsh:WShape.hasAll [] args [.list .int]=true:=(pre_splitW hpre).1;have hc:l.pre.holds [] {args:=args}=true:=(pre_splitW hpre).2;obtain⟨d,r,rfl,h1,h2⟩:=hasAllW_cons hsh;obtain rfl:=hasAllW_nil h2;obtain⟨xs,rfl,h3⟩:=hasW_list h1;obtain⟨ns,rfl⟩:=items_int h3;have hlen:ns.length<=n:=by
  unfold OpenLaw.pre at hc;have h4:(WTm.not (.lt (.lit (.int (n:Int))) (.len (.arg 0)))).holds [] {args:=[.list (ns.map .int)]}=true:=by have h4:=(holds_andW hc).1;rw[hn]at h4;exact h4
  have h5:=condW_of h4 (w_not (w_lt w_lit (w_len_list (w_arg rfl))));rw[aZ]at h5;refine Nat.le_of_not_lt λq=>?_;have q':(n:Int)<((ns.length:Nat):Int):=by omega
  first
  |(rw[decide_eq_true q']at h5;exact absurd h5 (by decide))
  |(simp at h5;omega)
 cases hwl with
|cons w1 w2=>
  cases w2;cases w1 with
 |list ho hall=>exact⟨_,_,ns,rfl,rfl,ho,MT ns _ hall,hlen⟩
theorem WC(l:OpenLaw)(args:List WData):l.row.toRowW.claim.post args (.bool true) args=true:=postW_of (r:=l.row.toRowW) (X:=(true==true)) (show WShape.has [] (.bool true) .bool=true by first|rfl|decide|simp[WShape.has,WShape.arms,WShape.armsAll]) (show(WTm.eq .res (.lit (.bool true))).value [] {args:=args,res:=some (.bool true),after:=args}=some (.bool (true==true))from w_eq_bool (w_res rfl) w_lit) rfl
theorem attach_call{l:OpenLaw}{n:Nat}{q:Program}{loose:List Str}{XP:(Str->Option Value)->Heap->Prop}{YP:World->Heap->Prop}{d:DefRec}(hn:l.most=some n)(hdf:d.params.defaults=[])(call:∀(w:World)(s₀ s₁:ag)(mg mb:Str->Option Value)(fa:Addr)(o:Obj)(pm cd doc:Value)(a:Addr)(vs:List Value)(ns:List Int),Ground q loose [] XP w s₀ mg mb s₁.heap->YP w s₁.heap ->s₁.heap.get? fa=some o->o.data=.func (docDef d.name d.params d.body d.scope pm cd doc)->s₁.heap.CodeRec cd d.name->mg d.name=some (.ref fa) ->s₁.heap.get? a=some {cls:=.type "list",data:=.seq vs.toArray}->IntsAre vs ns->ns.length<=n->s₁.gens=#[] ->fC (model l.prog w) callerA (.call (.ref fa) ⟨[.ref a],[]⟩) (λr s'=>r=.ok (.ret (.bool true))/\OldK s₁.heap s'.heap/\s'.os=s₁.os/\fD s'.gens) s₁):WalkO q loose XP YP l.row.toRowW d [] (λf vs=>PySem.call f vs):=by intro w s₀ s₁ mg mb G Y fa o pm cd doc dV kV ho hd hcd hD hmg hg args vals as hpre hlay hrd hwl hlo;obtain rfl:dV=.none:=Dflts.none hD hdf;obtain rfl:kV=.none:=Dflts.noKw hD;obtain⟨a,vs,ns,rfl,rfl,hobj,hints,hlen⟩:=Wu hn hpre hwl;refine enter_call (fX (call w s₀ s₁ mg mb fa o pm cd doc a vs ns G Y ho (fd_plain hd) hcd hmg hobj hints hlen hg) λr s' hq=>?_);obtain⟨rfl,h2,h3,h4⟩:=hq;exact⟨.inl ⟨.bool true,.bool true,[],rfl,λ_=>rfl,.bool true,WC l _,λ_=>⟨List.Pairwise.nil,λ_ hm=>(nomatch hm)⟩⟩,h2,h3,h4⟩
end Att
namespace L2
open PySem PySem.Spec PyProof.Rows
theorem Ph:∀{vs:List Value}{ns:List Int},IntsAre vs ns->Vals (ns.map V.int) vs
|_,_,.nil=>.nil
|_,_,.cons n t h=>.cons ⟨t,rfl⟩ (Ph h)
def Only(H:Hp):Prop:=∀b,H b=none\/∃o xs,H b=some (.frz o (.lst xs))
theorem LC{P:Program}{w:World}{K:aa}{mg mb:Str->Option Value}{CX:CXT}{k:Nat}{fa a:Addr}{fd:bN}{x:Str}{sp:Sp}{s₁:ag}{vs:List Value}{ns:List Int}(KX:K.In s₁.heap)(hns:s₁.heap.Ns aR mg)(hb:s₁.heap.Ns builtinsNs mb)(hbb:∀x:Str,x≠"__name__"->mb x=bF x)(hlim:s₁.heap.NoLimit)(hg:s₁.gens=#[])(ha:s₁.heap.get? a=some {cls:=.type "list",data:=.seq vs.toArray})(hi:IntsAre vs ns)(hl:ns.length<=sizeLine)(hr:Room k callerA)(F:∀base:Heap,K.In base->base.Ns aR mg->FnOk P w K mg base CX k fa fd [x] sp)(hbind:∀(s:ag)(u:Value),BindsTo s fd ⟨[u],[]⟩ [(x,u)])(hsp:∀H:Hp,Only H->SqL K H a (ns.map V.int)->sp [.ref a] H (λv _=>v=.bl true) λ_ _ _=>False)(hCX:∀H e s',CX [] H s₁ (λ_ _ _=>False) e s'->False):fC (model P w) callerA (.call (.ref fa) ⟨[.ref a],[]⟩) (λr s'=>r=.ok (.ret (.bool true))/\OldK s₁.heap s'.heap/\s'.os=s₁.os/\fD s'.gens) s₁:=by
 have rv:=Ph hi;have lenV:=hi.length;have core:∀H:Hp,Only H->SqL K H a (ns.map V.int)->HOk P w H s₁.heap->(∀b,H b≠none->b=a)->(H a≠none->K.lookup a=none) ->fC (model P w) callerA (.call (.ref fa) ⟨[.ref a],[]⟩) (λr s'=>r=.ok (.ret (.bool true))/\OldK s₁.heap s'.heap/\s'.os=s₁.os/\fD s'.gens) s₁:=by
  intro H hO hS hok hA hK;have base_of:∀{b:Addr}{o:Obj},s₁.heap.get? b=some o->H b=none->(hidT s₁.heap H).get? b=some o:=λe n=>LL e n;have noA:∀{b:Addr}{o:Obj}{es:Array dB}{ep:Nat},s₁.heap.get? b=some o->o.data=.dict es ep->H b=none:=λ{b o es ep}e d=>by
   cases q:H b with
  |none=>rfl
  |some u=>have e':b=a:=hA b (by rw[q];simp);subst e';rw[ha]at e;cases e;have d':Data.seq vs.toArray _=Data.dict es ep:=d;cases d'
  have nsK:∀{b:Addr}{m:Str->Option Value},s₁.heap.Ns b m->(hidT s₁.heap H).Ns b m:=λ{b m}⟨o,es,ep,e,d,r⟩=>⟨o,es,ep,base_of e (noA e d),d,r⟩;have hKb:K.In (hidT s₁.heap H):=λb o e=>base_of (KX b o e) (by
   cases q:H b with
  |none=>rfl
  |some u=>have e':b=a:=hA b (by rw[q];simp);subst e';rw[hK (by rw[q];simp)]at e;cases e)
  have hM:Mod K mg (hidT s₁.heap H):=⟨hKb,nsK hns,⟨mb,nsK hb,hbb⟩,let ⟨mc,h1,h2⟩:=hlim;⟨mc,nsK h1,h2⟩⟩;have e0:Env0 P w K mg (hidT s₁.heap H) callerA [] s₁ H:=⟨rfl,hM,λb o e=>DW e,Nat.le_of_eq (WS _ _),trivial,λb hb=>absurd (show b∈([]:List Addr)from hb) (by simp),hok,.of_eq hg⟩;refine fX ((F _ hKb (nsK hns)).run callerA [] s₁ H ⟨[.ref a],[]⟩ [.ref a] [.ref a] _ _ hr e0 (hbind s₁ (.ref a)) (.cons rfl .nil) (hsp H hO hS)) λr s' h=>?_;cases r with
 |error e=>exact(hCX H e s' h).elim
 |ok fl=>
   cases fl with
  |next=>exact bQ h
  |brk=>exact bQ h
  |cont=>exact bQ h
  |ret u=>
    obtain⟨v,H',os,bare,un,hok',r',q⟩:=h;have q':v=.bl true:=q;subst q';obtain rfl:u=Value.bool true:=r';refine⟨rfl,OldK.of_keep λb o e=>?_,os,bare⟩;cases q:H b with
   |none=>exact un.keep b o e q (by intro z;exact absurd (show b∈([]:List Addr)from z) (by simp)) (by simp)
   |some u=>
     rcases hO b with z|⟨ob,xs,z⟩
     ·rw[q]at z;cases z
     ·have z2:=un.frzs b ob _ z;obtain⟨e1,_⟩:=hok b _ z;obtain⟨e2,_⟩:=hok' b _ z2;rw[e]at e1;cases e1;exact e2
 cases hk:K.lookup a with
|some o=>have e:=KX a o hk;rw[ha]at e;cases e;refine core (λ_=>none) (λ_=>.inl rfl) (.inr ⟨_,vs.toArray,_,hk,rfl,rfl,rfl,by rw[au,lenV];exact hl,by simpa using rv⟩) (λb u z=>by have z':(none:Option HO)=some u:=z;cases z') (λb z=>absurd rfl z) λz=>absurd rfl z
|none=>
  refine core (λb=>if b=a then some (.frz {cls:=.type "list",data:=.seq vs.toArray} (.lst (ns.map V.int)))else none) (λb=>?_) (.inl (.inr ⟨{cls:=.type "list",data:=.seq vs.toArray},if_pos rfl⟩)) (λb u z=>?_) (λb z=>?_) λ_=>hk
  ·by_cases hb:b=a
   ·exact .inr ⟨_,_,if_pos hb⟩
   ·exact .inl (if_neg hb)
  ·by_cases hb:b=a
   ·have z':=(if_pos hb).symm.trans z;cases z';subst hb;exact⟨ha,by rw[aZ];exact hl,vs,_,rv,ha⟩
   ·have z':=(if_neg hb).symm.trans z;cases z'
  ·by_cases hb:b=a
   ·exact hb
   ·exact absurd (if_neg hb) z
open PySem PySem.Spec PyProof.Rows
noncomputable abbrev KOf{K:aa}{h:Heap}(_:K.In h):aa:=K
theorem Dr{l:gQ}{n k:Nat}{q:Program}{loose:List Str}{XP:(Str->Option Value)->Heap->Prop}{YP:World->Heap->Prop}{d:DefRec}{K:Params->aa}{CX:World->CXT}{sp:World->Sp}{x:Str}(hn:l.most=some n)(hn2:n<=sizeLine)(hdf:d.params.defaults=[])(hr:Room k callerA)(hY:∀(w:World)(h:Heap),YP w h->(K w.params).In h)(F:∀(w:World)(mg:Str->Option Value)(fa:Addr)(h:Heap),(K w.params).In h->h.Ns aR mg->mg d.name=some (.ref fa) ->∃fd:bN,(∀(s:ag)(u:Value),BindsTo s fd ⟨[u],[]⟩ [(x,u)]) /\∀base:Heap,(K w.params).In base->base.Ns aR mg->FnOk l.prog w (K w.params) mg base (CX w) k fa fd [x] (sp w))(hsp:∀(w:World)(H:Hp)(a:Addr)(ns:List Int),ns.length<=n->Only H->SqL (K w.params) H a (ns.map V.int)->sp w [.ref a] H (λv _=>v=.bl true) λ_ _ _=>False)(hCX:∀(w:World)(H:Hp)(s:ag)(e:Value)(s':ag),CX w [] H s (λ_ _ _=>False) e s'->False):PySem.W.WalkO q loose XP YP l.row.toRowW d [] (λf vs=>PySem.call f vs):=by refine Att.attach_call hn hdf λw s₀ s₁ mg mb fa o pm cd doc a vs ns G Y ho hd hcd hmg hobj hints hlen hg=>?_;have KX:=hY w _ Y;obtain⟨fd,hb,hF⟩:=F w mg fa _ KX G.T.g hmg;exact LC KX G.T.g G.T.b G.T.builtins G.T.nolimit hg hobj hints (Nat.le_trans hlen hn2) hr hF hb (λH hO hS=>hsp w H a ns hlen hO hS) λH e s'=>hCX w H s₁ e s'
open PySem PySem.Spec PyProof.Rows
noncomputable def inClass(s:Stmt)(j:Nat):Stmt:=match s with
|.ClassDef _ _ _ body _ _ _ _ _ _ _=>body.getD j (.Pass ⟨0,0,0,0⟩)
|_=>.Pass ⟨0,0,0,0⟩
noncomputable def Yw(s:Stmt):Arguments:=match s with
|.FunctionDef _ a _ _ _ _ _ _ _ _=>a
|_=>{posonlyargs:=[],args:=[],vararg:=none,kwonlyargs:=[],kw_defaults:=[],kwarg:=none,defaults:=[]}
noncomputable def ZH(s:Stmt):List Stmt:=match s with
|.FunctionDef _ _ b _ _ _ _ _ _ _=>b
|_=>[]
noncomputable def Zb(s:Stmt):Scope:=match s with
|.FunctionDef _ _ _ _ _ _ sc _ _ _=>sc
|_=>{kind:=.function,names:=[],isGenerator:=false,isCoroutine:=false}
noncomputable abbrev CX0:CXT:=λ_ _ _ _ _ _=>False
abbrev E0:XK:=λ_ _ _=>False
theorem YM{X:Cx}:Passes CX0 X E0:=λ_ _ _ _ _ _ _ h=>h.elim
structure Fun(K:aa)(x qual:Str)(st:Stmt)(f:Addr)(fd:bN):Prop where
 ex:∃(oc:Value)(od:Option Addr)(kV doc pm:Value)(an:Option Addr)(cdv ct:Value)(osl:Array (Option Value)),
  fd=bf x qual (Yw st) (ZH st) (Zb st) .none kV doc pm an cdv ct/\K.lookup f=some ⟨oc,od,.func fd,osl⟩/\b7 K cdv qual=true
 kp:aU K (.ref f)=true
section
variable {P:Program}{w:World}{K:aa}{mg:Str->Option Value}{base:Heap}
theorem Fun.ok{x qual:Str}{st:Stmt}{f:Addr}{fd:bN}{N ps:List Str}{k:Nat}{sp:Sp}(F:Fun K x qual st f fd)(S:FnScope N ps (Zb st))(len:∀vs H Q E,sp vs H Q E->vs.length=ps.length)(hbody:∀(cdv:Value)(A:aX)(outer:List Env)(s:ag)(H:Hp)(vs:List V)(Q:VK)(E:XK),Room k (A.deeper (de qual (Zb st) s.heap.objs.size f cdv))->sp vs H Q E ->∃t,PSs (cxOf CX0 P w K mg base N qual (Zb st) f cdv A outer s H E).nox (ZH st) t/\t {nx:=λ_ H'=>Q .non H',rt:=Q} (start N vs) H):FnOk P w K mg base CX0 (k+1) f fd ps sp:=by obtain⟨oc,od,kV,doc,pm,an,cdv,ct,osl,rfl,lk,hcd⟩:=F.ex;refine EJ lk hcd S len λA outer s H vs Q E hr hsp=>?_;obtain⟨t,h,q⟩:=hbody cdv A outer s H vs Q E hr hsp;exact⟨t,h.nox,q⟩
theorem Fun.binds{x qual:Str}{st:Stmt}{f:Addr}{fd:bN}{ps:List Str}(F:Fun K x qual st f fd)(h:∀(kV doc pm:Value)(an:Option Addr)(cdv ct:Value)(us:List Value),us.length=ps.length->bindArgs (bf x qual (Yw st) (ZH st) (Zb st) .none kV doc pm an cdv ct) ⟨us,[]⟩=pure (ps.zip us)):Binds K fd ps []:=by obtain⟨oc,od,kV,doc,pm,an,cdv,ct,osl,rfl,lk,hcd⟩:=F.ex;exact .all (h kV doc pm an cdv ct)
theorem J3{x qual:Str}{st:Stmt}{f:Addr}{oc:Value}{od an:Option Addr}{osl:Array (Option Value)}{kV doc pm cdv ct:Value}(l:K.lookup f=some ⟨oc,od,.func (bf x qual (Yw st) (ZH st) (Zb st) .none kV doc pm an cdv ct),osl⟩)(c:b7 K cdv qual=true)(k:aU K (.ref f)=true):Fun K x qual st f (bf x qual (Yw st) (ZH st) (Zb st) .none kV doc pm an cdv ct):=⟨⟨oc,od,kV,doc,pm,an,cdv,ct,osl,rfl,l,c⟩,k⟩
end
theorem J9{A:aX}{k:Nat}(hr:Room k A):A.units+1<cLine:=Nat.lt_of_le_of_lt (Nat.add_le_add_left (by decide:1<=64) _) hr.units
theorem XF{n:Nat}(h:n<=1000):n<sizeLine:=Nat.lt_of_le_of_lt h (by decide)
section
variable {X:Cx}
theorem pv(i:Nat){x:Str}{pos:Pos}(hN:X.N[i]?=some x:=by rfl)(hv:Vis X.env.scope x:=by first|exact bw rfl|exact cQ (bw rfl)|exact cQ (cQ rfl))(hd:(x==("__debug__":Str))=false:=by decide)(hcd:(x==("__classdict__":Str))=false:=by decide):PE X (.Name x pos) (tVar i):=JX hN hv hd hcd
end
theorem iteF{A B:Prop}(h:B):if false=true then A else B:=by rw[if_neg Bool.false_ne_true];exact h
theorem iteT{A B:Prop}(h:A):if true=true then A else B:=by rw[if_pos rfl];exact h
theorem ite2{c A B:Prop}[Decidable c](h1:c->A)(h2:¬c->B):if c then A else B:=by
 by_cases h:c
 ·rw[if_pos h];exact h1 h
 ·rw[if_neg h];exact h2 h
def Same(H H':Hp):Prop:=∀b o,H b=some o->H' b=some o
theorem Same.refl(H:Hp):Same H H:=λ_ _ h=>h
theorem Same.trans{H H1 H2:Hp}(a:Same H H1)(b:Same H1 H2):Same H H2:=λc o h=>b c o (a c o h)
theorem Same.free{H H':Hp}(e:Same H H'){l:Addr}(h:H' l=Option.none):H l=Option.none:=by
 cases q:H l with
|none=>rfl
|some o=>rw[e l o q]at h;cases h
open PySem PySem.Spec PyProof.Rows
section
variable {κ:Type}[DecidableEq κ]
noncomputable def valV(kvs:List (κ×V))(k:κ):Option V:=(kvs.find? λkv=>decide (kv.1=k)).map (·.2)
noncomputable def putK(kvs:List (κ×V))(k:κ)(v:V):List (κ×V):=if(kvs.any λkv=>decide (kv.1=k))=true then kvs.map (λkv=>if kv.1=k then(kv.1,v)else kv)else kvs++[(k,v)]
theorem YG{p:κ×V}{r:List (κ×V)}{k:κ}(e:p.1=k):valV (p::r) k=some p.2:=by simp[valV,dD,e]
theorem YH{p:κ×V}{r:List (κ×V)}{k:κ}(e:¬p.1=k):valV (p::r) k=valV r k:=by simp[valV,dD,e]
theorem UL(k:κ):∀kvs:List (κ×V),(kvs.any λkv=>decide (kv.1=k))=(valV kvs k).isSome
|[]=>rfl
|p::r=>by
  rw[ff];by_cases e:p.1=k
  ·simp only[YG e,decide_eq_true e,Bool.true_or,Option.isSome_some]
  ·rw[YH e,decide_eq_false e,Bool.false_or];exact UL k r
theorem QK(k j:κ)(y:V):∀kvs:List (κ×V),valV (kvs.map λkv=>if kv.1=k then(kv.1,y)else kv) j=(valV kvs j).map λx=>if j=k then y else x
|[]=>rfl
|p::r=>by
  have ih:=QK k j y r;rw[aL];by_cases h:p.1=k
  ·rw[if_pos h];by_cases e:p.1=j
   ·rw[YG (p:=(p.1,y)) e,YG e,cC,if_pos (e.symm.trans h)]
   ·rw[YH (p:=(p.1,y)) e,YH e,ih]
  ·rw[if_neg h];by_cases e:p.1=j
   ·rw[YG (p:=p) e,YG e,cC,if_neg (λz=>h (e.trans z))]
   ·rw[YH (p:=p) e,YH e,ih]
theorem Pj(k j:κ)(y:V):∀kvs:List (κ×V),valV kvs k=none->valV (kvs++[(k,y)]) j=if j=k then some y else valV kvs j
|[],_=>by
  by_cases e:k=j
  ·rw[if_pos e.symm];exact YG (p:=(k,y)) e
  ·rw[if_neg (λz=>e z.symm)];exact YH (p:=(k,y)) e
|p::r,hn=>by
  rw[gT];have hk:¬p.1=k:=λz=>by rw[YG z]at hn;cases hn
  rw[YH hk]at hn;have ih:=Pj k j y r hn;by_cases e:p.1=j
  ·rw[YG e,YG e,if_neg (λz=>hk (e.trans z))]
  ·rw[YH e,YH e,ih]
theorem Nl(kvs:List (κ×V))(k j:κ)(y:V):valV (putK kvs k y) j=if j=k then some y else valV kvs j:=by
 unfold putK;by_cases a:(kvs.any λkv=>decide (kv.1=k))=true
 ·rw[if_pos a,QK];rw[UL]at a;by_cases e:j=k
  ·obtain⟨x,hx⟩:=dw.mp a;rw[if_pos e,e,hx,cC,if_pos rfl]
  ·rw[if_neg e];cases valV kvs j with
  |none=>rfl
  |some x=>rw[cC,if_neg e]
 ·rw[if_neg a];refine Pj k j y kvs ?_;rw[UL]at a;cases q:valV kvs k with
 |none=>rfl
 |some x=>rw[q]at a;exact(a rfl).elim
theorem YK(kvs:List (κ×V))(k:κ)(v:V):(putK kvs k v).length<=kvs.length+1:=by
 unfold putK;split
 ·rw[aZ];omega
 ·rw[ay,aN,List.length_nil];omega
theorem RelO.isSome_eq{o:Option V}{u:Option Value}(r:RelO o u):o.isSome=u.isSome:=by
 cases o with
|none=>cases u with
 |none=>rfl
 |some _=>exact(show False from r).elim
|some _=>cases u with
 |none=>exact(show False from r).elim
 |some _=>rfl
theorem KV.val{kvs:List (κ×V)}{vs:List (κ×Value)}(r:KV kvs vs)(k:κ):RelO (valV kvs k) (valueAt vs k):=by
 unfold KV at r;induction r with
|nil=>exact bK
|@cons p q ps qs h t ih=>
  obtain⟨h1,h2⟩:=h;by_cases e:p.1=k
  ·have e':q.1=k:=h1.symm.trans e;have b:valueAt (q::qs) k=some q.2:=by simp[valueAt,dD,e']
   rw[YG e,b];exact h2
  ·have e':¬q.1=k:=λz=>e (h1.trans z);have b:valueAt (q::qs) k=valueAt qs k:=by simp[valueAt,dD,e']
   rw[YH e,b];exact ih
theorem KV.any{kvs:List (κ×V)}{vs:List (κ×Value)}(r:KV kvs vs)(k:κ):(kvs.any λkv=>decide (kv.1=k))=vs.any λkv=>decide (kv.1=k):=by
 unfold KV at r;induction r with
|nil=>rfl
|cons h t ih=>rw[ff,ff,ih,h.1]
theorem KV.repl{kvs:List (κ×V)}{vs:List (κ×Value)}(r:KV kvs vs)(k:κ){y:V}{u:Value}(ry:RelV y u):KV (kvs.map λkv=>if kv.1=k then(kv.1,y)else kv) (vs.map λkv=>if kv.1=k then(kv.1,u)else kv):=by
 unfold KV at r ⊢;induction r with
|nil=>exact .nil
|@cons p q ps qs h t ih=>
  rw[aL,aL];refine .cons ?_ ih;obtain⟨h1,h2⟩:=h;by_cases e:p.1=k
  ·rw[if_pos e,if_pos (h1.symm.trans e)];exact⟨h1,ry⟩
  ·rw[if_neg e,if_neg (λz=>e (h1.trans z))];exact⟨h1,h2⟩
theorem KV.put{kvs:List (κ×V)}{vs:List (κ×Value)}(r:KV kvs vs)(k:κ){y:V}{u:Value}(ry:RelV y u):KV (putK kvs k y) (stored vs k u):=by
 unfold putK stored;rw[r.any k];by_cases e:(vs.any λkv=>decide (kv.1=k))=true
 ·rw[if_pos e,if_pos e];exact r.repl k ry
 ·rw[if_neg e,if_neg e];exact fN r ⟨rfl,ry⟩
theorem KV.length{kvs:List (κ×V)}{vs:List (κ×Value)}(r:KV kvs vs):kvs.length=vs.length:=cv r
end
theorem TV{P:Program}{w:World}{k:Key}{u:Value}(r:RelV (kV k) u):(Yv P w).is k u=true:=by
 cases k with
|inl i=>obtain⟨t,e⟩:=(show ∃t,u=Value.int i t from r);subst e;exact Rh P w i t
|inr x=>obtain⟨t,e⟩:=(show ∃t,u=Value.str x t from r);subst e;exact Rg P w x t
theorem Pz{P:Program}{w:World}:∀{ks:List Key}{us:List Value},Vals (ks.map kV) us->ItemsAre (Yv P w) ks us
|[],_,r=>by rw[d6]at r;cases r;exact .nil
|k::ks,_,r=>by
  rw[aL]at r;cases r with
 |cons h t=>exact .cons (TV h) (Pz t)
noncomputable abbrev KT(H:Hp):List (List Key×V)->List (List Key×Addr×Value)->Prop:=cU λp q=>p.1=q.1/\H q.2.1=some (.tup (p.1.map kV))/\RelV p.2 q.2.2
theorem KT.val{H:Hp}{kvs:List (List Key×V)}{xs:List (List Key×Addr×Value)}(r:KT H kvs xs)(k:List Key):RelO (valV kvs k) ((atKey xs k).map (·.2)):=by
 induction r with
|nil=>exact bK
|@cons p q ps qs h t ih=>
  obtain⟨h1,_,h2⟩:=h;by_cases e:p.1=k
  ·have e':q.1=k:=h1.symm.trans e;have b:atKey (q::qs) k=some q.2:=by simp[atKey,dD,e']
   rw[YG e,b];exact h2
  ·have e':¬q.1=k:=λz=>e (h1.trans z);have b:atKey (q::qs) k=atKey qs k:=by simp[atKey,dD,e']
   rw[YH e,b];exact ih
theorem KT.repl{H:Hp}{kvs:List (List Key×V)}{xs:List (List Key×Addr×Value)}(r:KT H kvs xs)(k:List Key){y:V}{u:Value}(ry:RelV y u):KT H (kvs.map λkv=>if kv.1=k then(kv.1,y)else kv) (xs.map (putAt k u)):=by
 induction r with
|nil=>exact .nil
|@cons p q ps qs h t ih=>
  rw[aL,aL];refine .cons ?_ ih;obtain⟨h1,h2,h3⟩:=h;unfold putAt;by_cases e:p.1=k
  ·rw[if_pos e,if_pos (h1.symm.trans e)];exact⟨h1,h2,ry⟩
  ·rw[if_neg e,if_neg (λz=>e (h1.trans z))];exact⟨h1,h2,h3⟩
theorem KT.put{H:Hp}{kvs:List (List Key×V)}{xs:List (List Key×Addr×Value)}(r:KT H kvs xs)(k:List Key){b:Addr}{y:V}{u:Value}(hb:H b=some (.tup (k.map kV)))(ry:RelV y u):KT H (putK kvs k y) (storedH xs k b u):=by
 have e:(kvs.any λkv=>decide (kv.1=k))=(atKey xs k).isSome:=by rw[UL,(r.val k).isSome_eq,Option.isSome_map]
 unfold putK storedH;rw[e];by_cases q:(atKey xs k).isSome=true
 ·rw[if_pos q,if_pos q];exact r.repl k ry
 ·rw[if_neg q,if_neg q];exact fN r ⟨rfl,hb,ry⟩
theorem KT.keeps{H H':Hp}{kvs:List (List Key×V)}{xs:List (List Key×Addr×Value)}(r:KT H kvs xs)(ht:∀b ys,H b=some (.tup ys)->H' b=some (.tup ys)):KT H' kvs xs:=Paired.mapP r λ_ _ z=>⟨z.1,ht _ _ z.2.1,z.2.2⟩
section
variable {P:Program}{w:World}{H:Hp}{h:Heap}{a:Addr}
theorem Ez{u:HO}(ok:HOk P w H h)(e:Rd H a u):ZP P w H h a u:=e.ok ok
theorem Wb{kvs:List (Key×V)}(ok:HOk P w H h)(e:Rd H a (.dK kvs)):kvs.length<=sizeLine/\(a==c7)=false/\∃vs,KV kvs vs/\h.DictOf (Yv P w) a vs:=show ZP P w H h a (.dK kvs)from Ez ok e
theorem HY{kvs:List (Key×V)}(ok:HOk P w H h)(e:H a=some (.dK kvs)):kvs.length<=sizeLine/\(a==c7)=false/\∃vs,KV kvs vs/\h.DictOf (Yv P w) a vs:=Wb ok (.inl e)
theorem Qv{ks:List Key}(ok:HOk P w H h)(e:H a=some (.tup (ks.map kV))):(fR (Yv P w)).is h ks a:=by obtain⟨_,its,r,o,h1,h2,n,h3⟩:=(show ZP P w H h a (.tup (ks.map kV))from ok a _ e);exact⟨o,its.toArray,n,h1,h2,h3,by simpa using Pz r⟩
theorem Wa{kvs:List (List Key×V)}(ok:HOk P w H h)(e:Rd H a (.dT kvs)):kvs.length<=sizeLine/\(a==c7)=false /\∃xs,KT H kvs xs/\h.DictOfH (fR (Yv P w)) a xs:=by
 obtain⟨z,y,xs,r,o,es,ep,h1,h2,h3,h4,h5⟩:=(show ZP P w H h a (.dT kvs)from Ez ok e);refine⟨z,y,xs,r,o,es,ep,h1,h2,h3,h4,λx hx=>?_,h5⟩;have all:∀{l:List (List Key×V)}{m:List (List Key×Addr×Value)},KT H l m->∀x∈m,(fR (Yv P w)).is h x.1 x.2.1:=by
  intro l m q;induction q with
 |nil=>intro x hx;exact nomatch hx
 |@cons p q ps qs hq t ih=>
   intro x hx;rcases aA.mp hx with e|hx
   ·subst e;exact Qv ok (by rw[<-hq.1];exact hq.2.1)
   ·exact ih x hx
 exact all r x hx
theorem EK{kvs:List (List Key×V)}(ok:HOk P w H h)(e:H a=some (.dT kvs)):kvs.length<=sizeLine/\(a==c7)=false /\∃xs,KT H kvs xs/\h.DictOfH (fR (Yv P w)) a xs:=Wa ok (.inl e)
end
def DGet(H:Hp)(a:Addr)(y:V)(r:Option V):Prop:=(∃kvs k,Rd H a (.dK kvs)/\y=kV k/\r=valV kvs k)\/∃kvs k b,Rd H a (.dT kvs)/\y=.ref b/\H b=some (.tup (k.map kV))/\r=valV kvs k
def DPut(H:Hp)(a:Addr)(y v:V)(H':Hp):Prop:=(∃kvs k,H a=some (.dK kvs)/\y=kV k/\kvs.length<sizeLine/\H'=upd H a (.dK (putK kvs k v))) \/∃kvs k b,H a=some (.dT kvs)/\y=.ref b/\H b=some (.tup (k.map kV))/\kvs.length<sizeLine/\H'=upd H a (.dT (putK kvs k v))
theorem DGet.k{H:Hp}{a:Addr}{kvs:List (Key×V)}{k:Key}(e:H a=some (.dK kvs)):DGet H a (kV k) (valV kvs k):=.inl ⟨kvs,k,.inl e,rfl,rfl⟩
theorem DPut.k{H:Hp}{a:Addr}{kvs:List (Key×V)}{k:Key}{v:V}(e:H a=some (.dK kvs))(hl:kvs.length<sizeLine):DPut H a (kV k) v (upd H a (.dK (putK kvs k v))):=.inl ⟨kvs,k,e,rfl,hl,rfl⟩
theorem DPut.t{H:Hp}{a b:Addr}{kvs:List (List Key×V)}{k:List Key}{v:V}(e:H a=some (.dT kvs))(eb:H b=some (.tup (k.map kV)))(hl:kvs.length<sizeLine):DPut H a (.ref b) v (upd H a (.dT (putK kvs k v))):=.inr ⟨kvs,k,b,e,rfl,eb,hl,rfl⟩
section
variable {X:Cx}{pins:List (Addr×Obj)}{σ:St}{H:Hp}{s:ag}{a:Addr}{y v:V}{u r:Value}{o:Option V}{A:aX}{E:Value->ag->Prop}
theorem Inv.big(I:Inv X pins σ H s):c7<s.heap.objs.size:=by have h:aR<s.heap.objs.size:=(I.mod.glob.keeps I.bk).lt;exact Nat.lt_trans (by decide) h
theorem W0{Q:Value->ag->Prop}(hu:A.units+1<cLine)(I:Inv X pins σ H s)(g:DGet H a y (some v))(ry:RelV y u)(h:∀w' s',Inv X pins σ H s'->RelV v w'->Q w' s'):wpAny (model X.prog X.w) A (getItem (.ref a) u) Q E s:=by
 rcases g with⟨kvs,k,e,ey,l⟩|⟨kvs,k,b,e,ey,eb,l⟩
 ·subst ey;obtain⟨z,hd,vs,rel,dd⟩:=Wb I.hok e;obtain⟨w',hw,rw'⟩:=RelO.some_of (v:=v) (o:=valueAt vs k) (by rw[l];exact rel.val k);exact wpAny_getItem_of (TV ry) dd.mapOf hw (h w' _ (I.tok _) rw')
 ·subst ey;cases(show u=Value.ref b from ry);obtain⟨z,hd,xs,rel,dd⟩:=Wa I.hok e;obtain⟨w',hw,rw'⟩:=RelO.some_of (v:=v) (o:=(atKey xs k).map (·.2)) (by rw[l];exact rel.val k);obtain⟨p,hp,hp2⟩:=a9.mp hw;refine wpAny_getItem_heap (g7 hu) (Qv I.hok eb) dd hp ?_;rw[hp2];exact h w' _ (I.tok _) rw'
theorem d_in{Q:Value->ag->Prop}(hu:A.units+1<cLine)(I:Inv X pins σ H s)(g:DGet H a y o)(ry:RelV y u)(h:∀s',Inv X pins σ H s'->Q (.bool o.isSome) s'):wpAny (model X.prog X.w) A (bE .In u (.ref a)) Q E s:=by
 rcases g with⟨kvs,k,e,ey,l⟩|⟨kvs,k,b,e,ey,eb,l⟩
 ·subst ey;obtain⟨z,hd,vs,rel,dd⟩:=Wb I.hok e;refine wpAny_in_of (TV ry) hd dd.mapOf ?_;rw[<-(rel.val k).isSome_eq,<-l];exact h _ (I.tok _)
 ·subst ey;cases(show u=Value.ref b from ry);obtain⟨z,hd,xs,rel,dd⟩:=Wa I.hok e;refine wpAny_in_heap (g7 hu) (Qv I.hok eb) hd dd ?_;have q:=(rel.val k).isSome_eq;rw[Option.isSome_map]at q;rw[<-q,<-l];exact h _ (I.tok _)
theorem Wg{h':Heap}{t':Nat}{ob:HO}(I:Inv X pins σ H s)(mu:Mut (H a))(hs:Heap.SameBut a s.heap h')(he:∃q,h'.get? a=some q)(new:ZP X.prog X.w (upd H a ob) h' a ob):Inv X pins σ (upd H a ob) {s with heap:=h',toks:=t'}:=I.write (x:=a) (e:=a) mu (.inl rfl) (λb q hb z=>(hs.2 b hb).trans z) he new
theorem FT{P:Program}{w:World}{H':Hp}{h':Heap}{kvs:List (Key×V)}{vs:List (Key×Value)}(z:kvs.length<=sizeLine)(hd:(a==c7)=false)(rel:KV kvs vs)(dd:h'.DictOf (Yv P w) a vs):ZP P w H' h' a (.dK kvs):=⟨z,hd,vs,rel,dd⟩
theorem WZ{H':Hp}{Q:Unit->ag->Prop}(hu:A.units+1<cLine)(I:Inv X pins σ H s)(g:DPut H a y v H')(ry:RelV y u)(rv:RelV v r)(h:∀s',Inv X pins σ H' s'->Q () s'):wpAny (model X.prog X.w) A (setItem (.ref a) u r) Q E s:=by
 rcases g with⟨kvs,k,e,ey,l,eH⟩|⟨kvs,k,b,e,ey,eb,l,eH⟩
 ·subst ey eH;obtain⟨z,hd,vs,rel,dd⟩:=HY I.hok e;have hz:vs.length<=sizeLine:=by rw[<-rel.length];exact z
  have hl:(putK kvs k v).length<=sizeLine:=by have:=YK kvs k v;omega
  refine wpAny_setItem_pairs (hsz:=hz) (TV ry) dd λh' dd' hs=>h _ ?_;have he:∃q,h'.get? a=some q:=let ⟨q,_,_,hq,_⟩:=dd';⟨q,hq⟩
  exact Wg I (by rw[e];exact bK) hs he (FT hl hd (rel.put k rv) dd')
 ·subst ey eH;cases(show u=Value.ref b from ry);obtain⟨z,hd,xs,rel,dd⟩:=EK I.hok e;have hz:xs.length<=sizeLine:=by rw[<-cv rel];exact z
  have hl:(putK kvs k v).length<=sizeLine:=by have:=YK kvs k v;omega
  refine wpAny_setItem_heap (hsz:=hz) (g7 hu) (Qv I.hok eb) dd λh' dd' hs=>h _ ?_;obtain⟨q,es,ep,hq,h2,h3,h4,_,h5⟩:=dd';refine Wg I (by rw[e];exact bK) hs ⟨q,hq⟩ ⟨hl,hd,_,(rel.put k eb rv).keeps λc ys ec=>?_,q,es,ep,hq,h2,h3,h4,h5⟩;rw[Zh (ne_of ec e (λz=>nomatch z))];exact ec
end
def NoSl(i:Expr):Prop:=∀ov iv,subscripted i false ov iv=operate [ov,iv] (getItem ov iv)
theorem SY{prog:Program}{w:World}{A:aX}{E:Value->ag->Prop}{s:ag}{env:Env}{value slice:Expr}{pos:Pos}{T id:String}{Q:Value->ag->Prop}(hl:gX (.type T) "__getitem__"=pure (some (.builtin id)))(hs:NoSl slice)(h:wpAny (model prog w) A (eval value env) (λo s₁=>wpAny (model prog w) A (eval slice env) (λi s₂=>s₂.TypeIs o T/\wpAny (model prog w) A (getItem o i) Q E s₂) E s₁) E s):wpAny (model prog w) A (eval (.Subscript value slice pos) env) Q E s:=by
 refine Subscript_ (c5 h (λo s₁ h₁=>c5 h₁ (λi s₂ h₂=>?_) λ_ _ x=>x) λ_ _ x=>x);obtain⟨hT,h₂⟩:=h₂;unfold subscriptTail;refine ae ?_;rw[getitemInPython_of_ne hT.not_modules];refine ae (f_ hT hl ?_);have fin:wpAny (model prog w) A (subscripted slice false o i) (λr s₃=>wpAny (model prog w) A (letTemporaryGo value o r >>= λ_=>pure r) Q E s₃) E s₂:=by rw[hs o i];exact wpAny_operating (c5 h₂ (λr s₃ h₃=>ae (wpAny_letTemporaryGo (ao h₃))) λ_ _ x=>x)
 first
 |exact ao (ae fin)
 |exact ae (ao (ae fin))
 |exact ae fin
theorem Ro{X:Cx}{pins:List (Addr×Obj)}{σ:St}{H:Hp}{s:ag}{a:Addr}{y:V}{o:Option V}(I:Inv X pins σ H s)(g:DGet H a y o):s.TypeIs (.ref a) "dict":=by
 rcases g with⟨kvs,k,e,_,_⟩|⟨kvs,k,b,e,_,_,_⟩
 ·obtain⟨_,_,vs,_,dd⟩:=Wb I.hok e;exact dd.typeIs
 ·obtain⟨_,_,xs,_,dd⟩:=Wa I.hok e;exact dd.typeIs
def Hl(td ty:TE):TE:=λσ H Q=>td σ H λx H1=>ty σ H1 λy H2=>∃a v,x=.ref a/\DGet H2 a y (some v)/\Q v H2
def tDIn(ty td:TE):TE:=λσ H Q=>ty σ H λy H1=>td σ H1 λx H2=>∃a o,x=.ref a/\DGet H2 a y o/\Q (.bl o.isSome) H2
def Hu(td ty tv:TE):TS:=λD σ H=>tv σ H λv H1=>td σ H1 λx H2=>ty σ H2 λy H3=>∃a H4,x=.ref a/\DPut H3 a y v H4/\D.nx σ H4
section
variable {X:Cx}{o i e value:Expr}{pos pos' tpos:Pos}{td ty tv:TE}
theorem TK(hu:X.A.units+1<cLine)(ho:PE X o td)(hi:PE X i ty)(hs:NoSl i):PE X (.Subscript o i pos) (Hl td ty):=by intro pins s σ H Q I h;refine SY PySem.F.slot_dict_getitem.lookup hs (thn (ho pins s σ H _ I h) λu s1⟨x,H1,I1,rx,q1⟩=>thn (hi pins s1 σ H1 _ I1 q1) λiv s2 hZ=>?_);obtain⟨y,H2,I2,ry,a,v,ex,g,q2⟩:=hZ;subst ex;obtain rfl:u=Value.ref a:=rx;exact⟨Ro I2 g,W0 hu I2 g ry λw' s3 I3 rw'=>⟨v,H2,I3,rw',q2⟩⟩
theorem Lh(hu:X.A.units+1<cLine)(hi:PE X i ty)(ho:PE X o td):PC X .In i o (tDIn ty td):=by intro pins s σ H Q I h;refine thn (hi pins s σ H _ I h) λiv s1⟨y,H1,I1,ry,q1⟩=>thn (ho pins s1 σ H1 _ I1 q1) λu s2 hZ=>?_;obtain⟨x,H2,I2,rx,a,ov,ex,g,q2⟩:=hZ;subst ex;obtain rfl:u=Value.ref a:=rx;exact d_in hu I2 g ry λs3 I3=>⟨.bl ov.isSome,H2,I3,rfl,q2⟩
theorem Jn(hu:X.A.units+1<cLine)(ho:PE X o td)(hi:PE X i ty)(hv:PE X value tv)(hs:eZ value (some (.Subscript o i pos')) pos.line X.env=pure false):PS X (.Assign [.Subscript o i pos'] value pos) (Hu td ty tv):=by intro pins s σ H D I h;refine wpAny_Assign_Subscript (thn (hv pins s σ H _ I h) λr s1⟨v,H1,I1,rv,q1⟩=>thn (ho pins s1 σ H1 _ I1 q1) λu s2⟨x,H2,I2,rx,q2⟩=>thn (hi pins s2 σ H2 _ I2 q2) λiv s3 hZ=>?_) hs;obtain⟨y,H3,I3,ry,a,H4,ex,g,q3⟩:=hZ;subst ex;obtain rfl:u=Value.ref a:=rx;exact WZ hu I3 g ry rv λs4 I4=>⟨σ,H4,I4,q3⟩
end
theorem LW{P:Program}{w:World}{H:Hp}(h:Heap)(hb:c7<h.objs.size):ZP P w H (h.push {cls:=.type "dict",data:=.dict #[]}) h.objs.size (.dK []):=⟨Nat.zero_le _,beq_eq_false_iff_ne.mpr (bA (Nat.ne_of_lt hb)),[],.nil,Heap.DictOf.new h⟩
theorem LV{P:Program}{w:World}{H:Hp}(h:Heap)(hb:c7<h.objs.size):ZP P w H (h.push {cls:=.type "dict",data:=.dict #[]}) h.objs.size (.dT []):=⟨Nat.zero_le _,beq_eq_false_iff_ne.mpr (bA (Nat.ne_of_lt hb)),[],.nil,_,#[],0,Heap.get?_push_size _ rfl,⟨rfl,rfl,rfl⟩,rfl,rfl,fT⟩
def EU:TE:=λ_ H Q=>∀p,H p=none->Q (.ref p) (upd H p (.dK []))
def ET:TE:=λ_ H Q=>∀p,H p=none->Q (.ref p) (upd H p (.dT []))
section
variable {X:Cx}{pos:Pos}
theorem UT:PE X (.Dict [] [] pos) EU:=λpins s σ H Q I h=>wpAny_Dict_empty ⟨.ref s.heap.objs.size,_,I.laid (a:=s.heap.objs.size) (o:=.dK []) (t':=s.toks) (λ_ _ q=>Heap.get?_push_of_some _ q) (Nat.le_refl _) (LW s.heap I.big),rfl,h _ (I.hok.fresh (Nat.le_refl _))⟩
theorem Lf:PE X (.Dict [] [] pos) ET:=λpins s σ H Q I h=>wpAny_Dict_empty ⟨.ref s.heap.objs.size,_,I.laid (a:=s.heap.objs.size) (o:=.dT []) (t':=s.toks) (λ_ _ q=>Heap.get?_push_of_some _ q) (Nat.le_refl _) (LV s.heap I.big),rfl,h _ (I.hok.fresh (Nat.le_refl _))⟩
end
structure M1(X:Cx)(o:Expr)(m:Str)(apos:Pos)(e:Expr)(cpos:Pos):Prop where
 base:dE o m X.env (eval o X.env)=eval o X.env
 few:((cw cpos (aD [e] X.env)).all (λx=>!x.1)&&(d8 cpos (dh [] X.env)).all (λx=>x.1.isSome)
 &&decide (([e]:List Expr).length+([]:List Keyword).length+(if([]:List Keyword).isEmpty then 0 else 1)<30))=true
 line:(apos.endLine==cpos.line)=true
 trees:cw cpos (aD [e] X.env)=[(false,eval e X.env)]
structure M2(X:Cx)(o:Expr)(m:Str)(apos:Pos)(e f:Expr)(cpos:Pos):Prop where
 base:dE o m X.env (eval o X.env)=eval o X.env
 few:((cw cpos (aD [e,f] X.env)).all (λx=>!x.1)&&(d8 cpos (dh [] X.env)).all (λx=>x.1.isSome)
 &&decide (([e,f]:List Expr).length+([]:List Keyword).length+(if([]:List Keyword).isEmpty then 0 else 1)<30))=true
 line:(apos.endLine==cpos.line)=true
 trees:cw cpos (aD [e,f] X.env)=[(false,eval e X.env),(false,eval f X.env)]
open PySem PySem.Spec PyProof.Rows
theorem Ut(z:Str):gG z="str_ascii_iterator"\/gG z="str_iterator":=by
 unfold gG;split
 ·exact .inl rfl
 ·exact .inr rfl
theorem Pg{P:Program}{w:World}{A:aX}(hh:A.handled=none)(it:Addr)(x:Str)(t:Tok):Walks P w A it [it] [it] x.cps.size (SignAt x) (λi h=>h.IsStrIter it (gG x) x t i):=by
 rcases Ut x with e|e
 ·rw[e];exact Walks.strAscii hh it x t
 ·rw[e];exact Walks.strWide hh it x t
noncomputable def Its(z:Str):It:=⟨λi _=>i<z.length,λi H x H'=>H'=H/\∃c,z.cps.toList[i]?=some c/\x=.str ⟨#[c]⟩,λi _=>z.length<=i⟩
theorem Kz{P:Program}{w:World}{K:aa}{tg:Expr}(z:Str)(t:Tok)(it:Addr):
  Turn P w K tg (Its z) [it] it (λi h=>i<=z.length/\h.IsStrIter it (gG z) z t i) where
 mem:=by simp
 obj:=λi h st b hb=>by
  have e:b=it:=by simpa using hb
  subst e
  obtain⟨_,o,e,c,d⟩:=st
  exact⟨o,e,λv z=>by rw[d]at z;cases z⟩
 keep:=λi h h' st k=>by
  obtain⟨l,o,e,r⟩:=st
  exact⟨l,o,k it (by simp) o e,r⟩
 item:=by
  intro X hP hw hK hc i pins s σ H E I hf st hg
  subst hP hw hK
  obtain⟨f0,f1,f2,f3,f4,f5⟩:=hf it (by simp)
  have W:=Pg (P:=X.prog) (w:=X.w) (I.ok.hd hc) it z t
  refine W.item i s _ _ hg st.2 λv h' tk hv st' kk=>?_
  obtain⟨c,u,hcps,rfl⟩:=hv
  have I1:Inv X pins σ H {s with heap:=h',toks:=tk}:=I.turned (λb o hb e=>kk b o (by simpa using hb) e) f0 f1 f3 f4 f5
  obtain⟨o,e,c',d⟩:=id st'
  refine⟨_,rfl,T6 (s:={s with heap:=h',toks:=tk}) e c' d ?_ ⟨.str ⟨#[c]⟩,H,I1,⟨u,rfl⟩,⟨rfl,c,by simpa using hcps,rfl⟩,⟨hg,st'⟩,λb hb=>(hf b hb).1⟩⟩
  rcases Ut z with e|e<;>rw[e]<;>decide
 done:=by
  intro X hP hw hK hc i pins s σ H E I hf st hg
  subst hP hw hK
  obtain⟨f0,f1,f2,f3,f4,f5⟩:=hf it (by simp)
  have W:=Pg (P:=X.prog) (w:=X.w) (I.ok.hd hc) it z t
  obtain⟨hl,st⟩:=st
  have e:i=z.length:=Nat.le_antisymm hl hg
  subst e
  exact W.done s _ _ st λh' tk kk=>⟨rfl,I.turned (λb o hb e=>kk b o (by simpa using hb) e) f0 f1 f3 f4 f5⟩
 self:=λA i s Q E st h=>by
  obtain⟨_,st⟩:=st
  rcases Ut z with e|e
  ·rw[e]at st;exact wpAny_pyIter_striter_ascii st h
  ·rw[e]at st;exact wpAny_pyIter_striter_wide st h
section
variable {X:Cx}{tg:Expr}
noncomputable def iStr(tl:TE):TI:=λσ H R=>tl σ H λx H1=>∃z,x=.str z/\R (Its z) H1
theorem E5{l:Expr}{tl:TE}(hl:PE X l tl):PI X tg l (iStr tl):=by
 intro pins s σ H R I h;refine thn (hl pins s σ H _ I h) λv s1 hZ=>?_;obtain⟨x,H1,I1,r1,q1⟩:=hZ;obtain⟨z,e,q⟩:=q1;subst e;obtain⟨t,rfl⟩:=r1;refine wpAny_pyIter_strU ?_;refine⟨s1.heap.objs.size,[s1.heap.objs.size],_,_,H1,rfl,I1.kept (t':=s1.toks) λb o e=>Heap.get?_push_of_some _ e,Kz z t _,⟨Nat.zero_le _,_,Heap.get?_push_size _ rfl,rfl,rfl⟩,λb hb=>?_,q⟩;have e:b=s1.heap.objs.size:=by simpa using hb
 subst e;exact I1.fpOk (Nat.le_refl _) (I1.hok.fresh (Nat.le_refl _))
end
theorem JK{α:Type}{n:Nat}{l:List α}(h:l.length=n+1):∃a t,l=a::t/\t.length=n:=by
 cases l with
|nil=>cases h
|cons a t=>exact⟨a,t,rfl,Nat.succ.inj h⟩
theorem len1{α:Type}{l:List α}(h:l.length=1):∃a,l=[a]:=by obtain⟨a,t,rfl,h'⟩:=JK h;exact⟨a,by rw[g9 h']⟩
theorem len2{α:Type}{l:List α}(h:l.length=2):∃a b,l=[a,b]:=by obtain⟨a,t,rfl,h'⟩:=JK h;obtain⟨b,rfl⟩:=len1 h';exact⟨a,b,rfl⟩
theorem len3{α:Type}{l:List α}(h:l.length=3):∃a b c,l=[a,b,c]:=by obtain⟨a,t,rfl,h'⟩:=JK h;obtain⟨b,c,rfl⟩:=len2 h';exact⟨a,b,c,rfl⟩
theorem len4{α:Type}{l:List α}(h:l.length=4):∃a b c d,l=[a,b,c,d]:=by obtain⟨a,t,rfl,h'⟩:=JK h;obtain⟨b,c,d,rfl⟩:=len3 h';exact⟨a,b,c,d,rfl⟩
theorem len5{α:Type}{l:List α}(h:l.length=5):∃a b c d e,l=[a,b,c,d,e]:=by obtain⟨a,t,rfl,h'⟩:=JK h;obtain⟨b,c,d,e,rfl⟩:=len4 h';exact⟨a,b,c,d,e,rfl⟩
theorem len6{α:Type}{l:List α}(h:l.length=6):∃a b c d e f,l=[a,b,c,d,e,f]:=by obtain⟨a,t,rfl,h'⟩:=JK h;obtain⟨b,c,d,e,f,rfl⟩:=len5 h';exact⟨a,b,c,d,e,f,rfl⟩
section
variable {prog:Program}{w:World}{A:aX}{R:Result->ag->Prop}{s:ag}
noncomputable abbrev NoX:Value->ag->Prop:=λ_ _=>False
theorem EM{α:Type}{M:Model}{t:Sem α}{Q:α->ag->Prop}{E:Value->ag->Prop}(h:wpAny M A t Q NoX s):wpAny M A t Q E s:=c5 h (λ_ _ q=>q) λ_ _ x=>x.elim
theorem Rp{elt target iter:Expr}{ifs:List Expr}{scope:Scope}{pos:Pos}{it acc:Value}{env:Env}(I:Nat->ag->Prop)
  (turn:∀n s,I n s->wpAny (model prog w) A (fH it) (λr s₁=>match r with
  |none=>R (.ok .next) s₁
  |some v=>wpAny (model prog w) A (gi target it v) (λ_ s₀=>wpAny (model prog w) A (assign target env v) (λ_ s₂=>
     wpAny (model prog w) A (forIn ifs true λc r=>if r=true then do let ok <-isTrue c env (eval c env);pure (du ok)else pure (du r)) (λok s₃=>
      if ok=true then wpAny (model prog w) A (eval elt env) (λx s₄=>wpAny (model prog w) A (call (.builtin "list.append") [acc,x]) (λ_ s₅=>∃m,m<n/\I m s₅) NoX s₄) NoX s₃
      else ∃m,m<n/\I m s₃) NoX s₂) NoX s₀) NoX s₁) NoX s)
  (n:Nat) (h:I n s):
  fC (model prog w) A (.compLoop (.ListComp elt [⟨target,iter,ifs,0⟩] scope pos) 0 it acc env) R s:=by
 refine codeAny_loop rfl I (λn s hI=>?_) n h
 show wpAny _ A ((compTurn (.ListComp elt [⟨target,iter,ifs,0⟩] scope pos) 0 it acc env).onRaise (λx=>do noteFrame x env;theTreesLotGoes x)) _ _ s
 refine wpAny_noted (EM ?_)
 rw[compTurn_list]
 refine ae (d5 (ae (thn (turn n s hI) (λr s₁ h₁=>?_))))
 cases r with
|none=>exact ao h₁
|some v=>
  refine ae (thn h₁ λ_ s₀ h₀=>?_)
  refine ae (thn h₀ λ_ s₂ h₂=>ae (thn h₂ λok s₃ h₃=>?_))
  cases ok with
 |false=>exact ao ⟨rfl,h₃⟩
 |true=>exact ae (ae (thn h₃ λx s₄ h₄=>ae (thn h₄ λ_ s₅ h₅=>ao (ao ⟨rfl,h₅⟩))))
end
noncomputable def clGo(env:Env):List (Str×dz)->List (Str×Addr)->List (Str×Addr)
|[],cs=>cs
|(n,k)::r,cs=>clGo env r (if k==.free then(n,(env.cells.lookup n).getD 0)::cs else cs)
noncomputable def clOf(scope:Scope)(env:Env):List (Str×Addr):=clGo env scope.names []
theorem UH{env:Env}:∀(names:List (Str×dz))(cs:List (Str×Addr)),(∀x∈names,x.2=.free->∃c,env.cells.lookup x.1=some c) ->
  (forIn names cs λ(x:Str×dz)(r:List (Str×Addr))=>(match x with
  |(name,kind)=>if(kind==.free)=true then(do let c <-cellOf env name;pure (du ((name,c)::r)))else pure (du r):Sem (ForInStep (List (Str×Addr)))))
   = pure (clGo env names cs)
|[],cs,_=>rfl
|(n,k)::r,cs,h=>by
  rw[List.forIn_cons]
  cases hk:k==bO with
 |true=>
   obtain⟨c,hc⟩:=h (n,k) aB (by simpa using hk)
   have e:cellOf env n=pure c:=by unfold cellOf;rw[show env.cells.lookup n=some c from hc]
   simp only[hk,if_true,e,clGo,pure_bind]
   rw[show env.cells.lookup n=some c from hc]
   exact UH r _ λx hx=>h x (av _ hx)
 |false=>
   simp only[hk,Bool.false_eq_true,if_false,clGo,pure_bind]
   exact UH r _ λx hx=>h x (av _ hx)
theorem Sr{scope:Scope}{env:Env}(h:∀x∈scope.names,x.2=.free->∃c,env.cells.lookup x.1=some c):closureFor scope env=pure (clOf scope env):=by have e:=UH (env:=env) scope.names [] h;unfold closureFor clOf;rw[<-e];simp only[bind_pure]
theorem V6{env:Env}{x:Str}:∀(names:List (Str×dz))(cs:List (Str×Addr)),(∀y∈names,y.2=.free->∃c,env.cells.lookup y.1=some c)->(∀c,cs.lookup x=some c->env.cells.lookup x=some c) ->(∀c,(clGo env names cs).lookup x=some c->env.cells.lookup x=some c)/\(((x,bO)∈names\/(cs.lookup x).isSome=true)->((clGo env names cs).lookup x).isSome=true)
|[],cs,_,h=>⟨h,λz=>z.elim (λz=>absurd z (by simp)) id⟩
|(n,k)::r,cs,hf,h=>by
  have hr:∀y∈r,y.2=bO->∃c,env.cells.lookup y.1=some c:=λy hy=>hf y (av _ hy);show(∀c,(clGo env r (if k==.free then(n,(env.cells.lookup n).getD 0)::cs else cs)).lookup x=some c->_)/\(_->((clGo env r (if k==.free then(n,(env.cells.lookup n).getD 0)::cs else cs)).lookup x).isSome=true);cases hk:k==bO with
 |true=>
   obtain⟨c0,hc0⟩:=hf (n,k) aB (by simpa using hk);have hc0':env.cells.lookup n=some c0:=hc0;simp only[if_true,hc0',Option.getD_some];have h2:∀c,((n,c0)::cs).lookup x=some c->env.cells.lookup x=some c:=λc q=>by
    rw[cZ]at q;cases hx:x==n with
   |true=>
     rw[hx]at q;have e:x=n:=by simpa using hx
     subst e;cases q;exact hc0'
   |false=>rw[hx]at q;exact h c q
   obtain⟨a,b⟩:=V6 r ((n,c0)::cs) hr h2;refine⟨a,λz=>b ?_⟩;by_cases hx:x=n
   ·right;subst hx;simp
   ·rcases z with z|z
    ·rcases aA.mp z with e|z
     ·exact absurd (congrArg Prod.fst e) hx
     ·exact .inl z
    ·right;have:(x==n)=false:=by simpa using hx
     rw[cZ,this];exact z
 |false=>
   simp only[Bool.false_eq_true,if_false];obtain⟨a,b⟩:=V6 r cs hr h;refine⟨a,λz=>b ?_⟩;rcases z with z|z
   ·rcases aA.mp z with e|z
    ·have:k=.free:=(congrArg Prod.snd e).symm;rw[this]at hk;exact absurd hk (by decide)
    ·exact .inl z
   ·exact .inr z
structure CompScope(scope sc:Scope):Prop where
 kind:scope.kind=.function
 nocell:∀y∈scope.names,y.2≠.cell
 loc:∀y∈scope.names,y.2=.local->scope.names.lookup y.1=some .local
 free:∀y∈scope.names,y.2=.free->sc.names.lookup y.1=some .cell\/sc.names.lookup y.1=some .free
theorem UP{scope:Scope}{env:Env}{x:Str}(nc:∀y∈scope.names,y.2≠.cell):∀{k:dz},(relabel scope env).names.lookup x=some k->(k=.cell\/k=.free)->(x,bO)∈scope.names:=by
 have go:∀(names:List (Str×dz)),(∀y∈names,y.2≠eh)->∀{k:dz},(names.map λ(n,k)=>if(k==bO&&env.scope.kind==.function&&env.kindOf n==some .cell)then(n,eh)else(n,k)).lookup x=some k->(k=.cell\/k=.free)->(x,bO)∈names:=by
  intro names;induction names with
 |nil=>intro _ k h _;simp at h
 |cons y r ih=>
   intro hn k h hk;obtain⟨n,k'⟩:=y;have hn':∀y∈r,y.2≠eh:=λy hy=>hn y (av _ hy);have hk':k'≠eh:=hn (n,k') aB;rw[aL]at h;by_cases hc:(k'==bO&&env.scope.kind==.function&&env.kindOf n==some .cell)=true
   ·simp only[hc,if_true]at h;rw[cZ]at h;cases hx:x==n with
   |true=>
     have e:x=n:=by simpa using hx
     have e2:k'=.free:=by simp only[Bool.and_eq_true]at hc;simpa using hc.1.1
     subst e e2;exact aB
   |false=>rw[hx]at h;exact av _ (ih hn' h hk)
   ·simp only[hc]at h;simp only[if_false,Bool.false_eq_true]at h;rw[cZ]at h;cases hx:x==n with
   |true=>
     rw[hx]at h;cases h;have e:x=n:=by simpa using hx
     subst e;rcases hk with e|e
     ·exact absurd e hk'
     ·rw[e];exact aB
   |false=>rw[hx]at h;exact av _ (ih hn' h hk)
 intro k h hk;exact go scope.names nc h hk
theorem Pb{scope:Scope}{env:Env}{x:Str}:(relabel scope env).names.lookup x=some .local->scope.names.lookup x=some .local:=by
 have go:∀(names:List (Str×dz)),(names.map λ(n,k)=>if(k==bO&&env.scope.kind==.function&&env.kindOf n==some .cell)then(n,eh)else(n,k)).lookup x=some .local->names.lookup x=some .local:=by
  intro names;induction names with
 |nil=>intro h;simp at h
 |cons y r ih=>
   intro h;obtain⟨n,k'⟩:=y;rw[aL]at h;rw[cZ];by_cases hc:(k'==bO&&env.scope.kind==.function&&env.kindOf n==some .cell)=true
   ·simp only[hc,if_true]at h;rw[cZ]at h;cases hx:x==n with
   |true=>rw[hx]at h;cases h
   |false=>rw[hx]at h;exact ih h
   ·simp only[hc]at h;simp only[if_false,Bool.false_eq_true]at h;rw[cZ]at h;cases hx:x==n with
   |true=>rw[hx]at h;exact h
   |false=>rw[hx]at h;exact ih h
 exact go scope.names
noncomputable def XU(X:Cx)(scope:Scope)(N:List Str)(C:Addr)(s:ag)(H:Hp)(ex:List Addr)(pn:List (Addr×Obj)):Cx where
 prog:=X.prog
 w:=X.w
 K:=X.K
 mg:=X.mg
 base:=X.base
 A:=X.A
 N:=N
 s₀:=s
 H₀:=H
 env:=compEnvC scope (clOf scope X.env) C X.env
 outer:=X.stack
 stack:=X.stack
 ex:=ex
 calm:=X.calm
 fn:=λ_=>false
 pn:=pn
 xe:=NoX
noncomputable def inner(cp:List (Option Nat))(σ:St):St:=cp.map λo=>o.bind λj=>(σ[j]?).join
structure CompNames(N0:List Str)(scope:Scope)(N:List Str)(cp:List (Option Nat)):Prop where
 len:cp.length=N.length
 at_:∀(i j:Nat)(x:Str),cp[i]?=some (some j)->N[i]?=some x->N0[j]?=some x/\scope.names.lookup x=some .free
noncomputable def namesOk(N0:List Str)(scope:Scope)(N:List Str)(cp:List (Option Nat)):Bool:=(cp.length==N.length)&&(aY cp.length).all λi=>match cp[i]?,N[i]? with
 |some (some j),some x=>N0[j]?==some x&&scope.names.lookup x==some .free
 |_,_=>true
theorem CompNames.mk'{N0:List Str}{scope:Scope}{N:List Str}{cp:List (Option Nat)}(h:namesOk N0 scope N cp=true):CompNames N0 scope N cp:=by unfold namesOk at h;rw[Bool.and_eq_true,bZ]at h;refine⟨by simpa using h.1,λi j x h1 h2=>?_⟩;have hi:i<cp.length:=(aj.mp h1).1;have q:=h.2 i (b_.mpr hi);rw[h1,h2]at q;simpa using q
section
variable {X:Cx}{pins:List (Addr×Obj)}{σ:St}{H:Hp}{s:ag}
theorem Rq{scope:Scope}(I:Inv X pins σ H s)(S:CompScope scope X.env.scope):∀y∈scope.names,y.2=.free->∃c,X.env.cells.lookup y.1=some c:=λy hy e=>I.ok.has y.1 (S.free y hy e)
theorem LG{scope:Scope}{N:List Str}{cp:List (Option Nat)}{fp:List Addr}{od:Obj}{h4:Heap}{tk:Nat}(S:CompScope scope X.env.scope)(CN:CompNames X.N scope N cp)(I:Inv X pins σ H s)(hfp:∀b∈fp,FpOk X pins H b)(hfo:∀b∈fp,∃o,s.heap.get? b=some o)(hod:∀v,od.data≠.cell v)(hns:h4.Ns (s.heap.push od).objs.size (λx=>([]:List (Str×Value)).reverse.lookup x))(hk:∀b o,(s.heap.push od).get? b=some o->h4.get? b=some o)(hfr:od.isFreed=false):Inv (XU X scope N (s.heap.push od).objs.size {s with heap:=s.heap.push od} H (s.heap.objs.size::fp) (X.pn++pins)) [(s.heap.objs.size,od)] (inner cp σ) H {s with heap:=h4,toks:=tk}:=by
 have cl:=Rq I S;have look:∀x c,(clOf scope X.env).lookup x=some c->X.env.cells.lookup x=some c:=λx=>(V6 scope.names [] cl (λc q=>by simp at q)).1;have hasc:∀x,(x,bO)∈scope.names->∃c,(clOf scope X.env).lookup x=some c:=λx hx=>
  dw.mp ((V6 scope.names [] cl (λc q=>by simp at q)).2 (.inl hx));have kp:∀b o,s.heap.get? b=some o->(s.heap.push od).get? b=some o:=λb o e=>Heap.get?_push_of_some _ e;have kp4:∀b o,s.heap.get? b=some o->h4.get? b=some o:=λb o e=>hk b o (kp b o e);have hz:(s.heap.push od).objs.size=s.heap.objs.size+1:=Heap.size_push ..;have I3:Inv X pins σ H {s with heap:=s.heap.push od}:=I.kept (t':=s.toks) kp;have hD:H s.heap.objs.size=none:=I.hok.fresh (Nat.le_refl _);have hC:H (s.heap.push od).objs.size=none:=I3.hok.fresh (Nat.le_refl _);have hDo:h4.get? s.heap.objs.size=some od:=hk _ _ (Heap.get?_push_size _ hfr);have stk:∀b∈frs X.stack,b<s.heap.objs.size:=λb hb=>by
  rcases aA.mp (I.stkSub b hb)with e|e
  ·rw[e];exact I.lt
  ·exact Nat.lt_of_not_le λz=>I.nofs z e
 have fpn:∀b∈fp,b∉frs X.stack:=λb hb hs=>by
  obtain⟨_,g1,g2,_⟩:=hfp b hb;rcases aA.mp (I.stkSub b hs)with e|e
  ·exact g1 e
  ·exact g2 e
 have fplt:∀b∈fp,b<s.heap.objs.size:=λb hb=>let ⟨o,e⟩:=hfo b hb;Heap.lt_size e
 refine⟨⟨I.ok.mod,S.kind,I.ok.glob,I.ok.blt,Nat.le_refl _,λx y c h1 h2=>I.ok.inj x y c (look x c h1) (look y c h2),λx hx=>?_,λx c hf _=>(by cases hf),I.ok.hd,I.ok.frames,.inl rfl,λb hb=>?_,I3.bs,Nat.le_trans I.ok.bsz I3.sz,λb o e hb=>?_,λb hb=>?_,I3.stack,I3.stkFree⟩,rfl,I.bare,Un.kept hk,⟨_,hns,λi x v h1 h2 h3=>?_⟩,λx c hx=>?_,hC,λx c hx=>I.freeC x c (look x c hx),λp hp=>?_,I.hok.kept kp4,?_⟩
 ·have hx':(relabel scope X.env).names.lookup x=some .cell\/(relabel scope X.env).names.lookup x=some .free:=hx;rcases hx' with e|e
  ·exact hasc x (UP S.nocell e (.inl rfl))
  ·exact hasc x (UP S.nocell e (.inr rfl))
 ·show b≠(s.heap.push od).objs.size/\∀x c,(clOf scope X.env).lookup x=some c->c≠b;rcases aA.mp hb with e|hb
  ·subst e;refine⟨by rw[hz];exact Nat.ne_of_lt (Nat.lt_succ_self _),λx c hx z=>?_⟩;obtain⟨v,q⟩:=I.cell x c (look x c hx);exact absurd q.lt (by rw[z];exact Nat.lt_irrefl _)
  ·exact⟨by rw[hz];exact Nat.ne_of_lt (Nat.lt_succ_of_lt (fplt b hb)),λx c hx=>(hfp b hb).2.2.2.2.1 x c (look x c hx)⟩
 ·rcases aA.mp hb with z|hb
  ·subst z;have h1:=Heap.lt_size (I.bk _ _ e);exact Nat.lt_irrefl _ h1
  ·obtain⟨_,_,_,g3,_⟩:=hfp b hb;rcases g3 with g3|g3
   ·exact I.ok.noex b o e g3
   ·have h1:=Heap.lt_size e;have h2:=I.ok.bsz;exact absurd (Nat.lt_of_lt_of_le h1 (Nat.le_trans h2 g3)) (Nat.lt_irrefl _)
 ·show b∉frs X.stack;rcases aA.mp hb with z|hb
  ·subst z;exact λz=>Nat.lt_irrefl _ (stk _ z)
  ·exact fpn b hb
 ·have h2':(inner cp σ)[i]?=some (some v):=h2;unfold inner at h2';rw[ah]at h2';cases hc:cp[i]? with
 |none=>rw[hc]at h2';cases h2'
 |some oj=>
   rw[hc]at h2';cases oj with
  |none=>have:(none:Option V)=some v:=ar h2';cases this
  |some j=>
    have h2'':(σ[j]?).join=some v:=ar h2';have hσ:σ[j]?=some (some v):=by
     cases q:σ[j]? with
    |none=>rw[q]at h2'';cases h2''
    |some o=>rw[q]at h2'';exact congrArg some h2''
    obtain⟨hN,hlook⟩:=CN.at_ i j x hc h1;have hfree:(x,bO)∈scope.names:=cV hlook;have hk2:=S.free _ hfree rfl;obtain⟨m,hn,hl⟩:=I.loc;have hvis:Vis X.env.scope x:=hk2.elim (λz=>.inr (.inl z)) λz=>.inr (.inr z);obtain⟨u,ru,lk⟩:=hl j x v hN hσ hvis;refine⟨u,ru,?_⟩;rcases lk with⟨z,_⟩|⟨_,c,hcl,cc⟩
    ·rcases hk2 with q|q<;>(have z':=z.symm.trans q;cases z')
    ·obtain⟨c2,hc2⟩:=hasc x hfree;have hcc:c2=c:=by have:=(look x c2 hc2).symm.trans hcl;exact ar this
     subst hcc;obtain⟨o,ho,hd⟩:=cc;refine .inr ⟨?_,c2,hc2,⟨o,kp4 _ _ ho,hd⟩⟩;rcases h3 with q|q|q
     ·have q':=(Pb q).symm.trans hlook;cases q'
     ·exact .inl q
     ·exact .inr q
 ·obtain⟨v,o,ho,hd⟩:=I.cell x c (look x c hx);exact⟨v,o,kp4 _ _ ho,hd⟩
 ·have hp':p∈(X.pn++pins)++[(s.heap.objs.size,od)]:=hp;rcases aP.mp hp' with hp1|hp1
  ·obtain⟨e,n,ne,nf,d⟩:=I.pin p hp1;have hlt:=Heap.lt_size e;refine⟨kp4 _ _ e,n,by show p.1≠(s.heap.push od).objs.size;rw[hz];exact Nat.ne_of_lt (Nat.lt_succ_of_lt hlt),λhb=>?_,d⟩;rcases aA.mp (I.stkSub _ hb)with z|z
   ·exact ne z
   ·exact nf z
  ·have e:p=(s.heap.objs.size,od):=by simpa using hp1
   subst e;exact⟨hDo,hD,by show s.heap.objs.size≠(s.heap.push od).objs.size;rw[hz];exact Nat.ne_of_lt (Nat.lt_succ_self _),λz=>Nat.lt_irrefl _ (stk _ z),hod⟩
 ·show(inner cp σ).length=N.length;unfold inner;rw[aZ];exact CN.len
end
noncomputable def ZW(its:List Value)(k:Nat):Obj:={cls:=.type "list",data:=.seq its.toArray k}
theorem MO{its:List Value}{k:Nat}:∀v,(ZW its k).data≠.cell v:=λv z=>by have z':Data.seq its.toArray k=Data.cell v:=z;cases z'
section
variable {X:Cx}
def PTs(X:Cx)(ifs:List Expr)(t:TT):Prop:=
 ∀(pins:List (Addr×Obj))(s:ag)(σ:St)(H:Hp)(Q:Bool->Hp->Prop),Inv X pins σ H s->t σ H Q ->
  wpAny (model X.prog X.w) X.A (forIn ifs true λc r=>if r=true then do let ok <-isTrue c X.env (eval c X.env);pure (du ok)else pure (du r)) (TP X pins σ Q) X.xe s
def tYes:TT:=λ_ H Q=>Q true H
theorem ZV:PTs X [] tYes:=λ_ _ _ H _ I h=>wpAny_tests_nil ⟨H,I,h⟩
theorem Xq{c:Expr}{t:TT}(h:PT X c t):PTs X [c] t:=λpins s σ H Q I hw=>wpAny_tests_one (h pins s σ H Q I hw)
def KD(cp:List (Option Nat))(wi:TI)(g:TG)(tc:TT)(te:TE):TE:=λσ H Q=>wi σ H λJ H1=>∃W:Nat->Nat->List V->St->Hp->Prop,(∃m,W 0 m [] (inner cp σ) H1)/\∀i m ys τ H,W i m ys τ H ->(J.stop i H/\∀l,H l=none->Q (.ref l) (upd H l (.lst ys))) \/(J.go i H/\ys.length<sizeLine/\∃N:List V->St->Hp->Prop,(∀ys' τ' H',N ys' τ' H'->∃m',m'<m/\W (i+1) m' ys' τ' H') /\∀x H',J.yld i H x H'->g x τ H' λτ2 H2=>tc τ2 H2 λb H3=>if b=true then te τ2 H3 λy H4=>N (ys++[y]) τ2 H4 else N ys τ2 H3)
theorem Y9{J:It}{g:TG}{tc:TT}{te:TE}{τ0:St}{H0:Hp}{R:List V->Hp->Prop}(n:Nat)(hn:n<=sizeLine)(Pv:Nat->List V->St->Hp->Prop)(h0:Pv 0 [] τ0 H0)(hl:∀i ys τ H,Pv i ys τ H->ys.length<=i)(hgo:∀i ys τ H,i<n->Pv i ys τ H->J.go i H)(hstop:∀ys τ H,Pv n ys τ H->J.stop n H)(hs:∀i ys τ H x H',i<n->Pv i ys τ H->J.yld i H x H'->g x τ H' λτ2 H2=>tc τ2 H2 λb H3=>if b=true then te τ2 H3 λy H4=>Pv (i+1) (ys++[y]) τ2 H4 else Pv (i+1) ys τ2 H3)(hd:∀ys τ H,Pv n ys τ H->R ys H):∃W:Nat->Nat->List V->St->Hp->Prop,(∃m,W 0 m [] τ0 H0)/\∀i m ys τ H,W i m ys τ H ->(J.stop i H/\R ys H) \/(J.go i H/\ys.length<sizeLine/\∃N:List V->St->Hp->Prop,(∀ys' τ' H',N ys' τ' H'->∃m',m'<m/\W (i+1) m' ys' τ' H') /\∀x H',J.yld i H x H'->g x τ H' λτ2 H2=>tc τ2 H2 λb H3=>if b=true then te τ2 H3 λy H4=>N (ys++[y]) τ2 H4 else N ys τ2 H3):=by
 refine⟨λi m ys τ H=>m=n-i/\i<=n/\Pv i ys τ H,⟨n,rfl,Nat.zero_le _,h0⟩,?_⟩;rintro i m ys τ H ⟨rfl,hi,p⟩;by_cases hlt:i<n
 ·refine .inr ⟨hgo i ys τ H hlt p,?_,Pv (i+1),λys' τ' H' p'=>⟨n-(i+1),by omega,rfl,hlt,p'⟩,λx H' y=>hs i ys τ H x H' hlt p y⟩;have:=hl i ys τ H p;omega
 ·have e:i=n:=by omega
  subst e;exact .inl ⟨hstop ys τ H p,hd ys τ H p⟩
theorem ZI{J:It}{g:TG}{te:TE}{τ0:St}{H0:Hp}{R:List V->Hp->Prop}(n:Nat)(hn:n<=sizeLine)(Pv:Nat->List V->St->Hp->Prop)(h0:Pv 0 [] τ0 H0)(hl:∀i ys τ H,Pv i ys τ H->ys.length<=i)(hgo:∀i ys τ H,i<n->Pv i ys τ H->J.go i H)(hstop:∀ys τ H,Pv n ys τ H->J.stop n H)(hs:∀i ys τ H x H',i<n->Pv i ys τ H->J.yld i H x H'->g x τ H' λτ2 H2=>te τ2 H2 λy H4=>Pv (i+1) (ys++[y]) τ2 H4)(hd:∀ys τ H,Pv n ys τ H->R ys H):∃W:Nat->Nat->List V->St->Hp->Prop,(∃m,W 0 m [] τ0 H0)/\∀i m ys τ H,W i m ys τ H ->(J.stop i H/\R ys H) \/(J.go i H/\ys.length<sizeLine/\∃N:List V->St->Hp->Prop,(∀ys' τ' H',N ys' τ' H'->∃m',m'<m/\W (i+1) m' ys' τ' H') /\∀x H',J.yld i H x H'->g x τ H' λτ2 H2=>tYes τ2 H2 λb H3=>if b=true then te τ2 H3 λy H4=>N (ys++[y]) τ2 H4 else N ys τ2 H3):=Y9 (J:=J) (g:=g) (tc:=tYes) (te:=te) n hn Pv h0 hl hgo hstop hs hd
theorem PM{use:Option (Value->Sem Unit)}{R:Value->ag->Prop}{elt iter tg:Expr}{ifs:List Expr}{scope:Scope}{pos pos2:Pos}{N:List Str}{cp:List (Option Nat)}{wi:TI}{g:TG}{tc:TT}{te:TE}{Q:VK}{pins:List (Addr×Obj)}{s:ag}{σ:St}{H:Hp}(hc:X.calm=true)(hS:CompScope scope X.env.scope)(hN:CompNames X.N scope N cp)(hi:PI X tg iter wi)(hg:∀C s H ex pn,PG (XU X scope N C s H ex pn) tg g)(ht:∀C s H ex pn,PTs (XU X scope N C s H ex pn) ifs tc)(he:∀C s H ex pn,PE (XU X scope N C s H ex pn) elt te)(hs:∀x,fF iter X.env x=pure x)(I:Inv X pins σ H s)(h:KD cp wi g tc te σ H Q)(out:∀(D C:Addr)(H5:Hp)(s4:ag)(m:Str->Option Value),Inv X pins σ H5 s4->s4.heap.Ns C m->C≠X.env.locals->(∀y c,X.env.cells.lookup y=some c->c≠C)->H5 C=none->X.s₀.heap.objs.size<=C->(∀p∈X.pn++pins,p.1≠C)->Q (.ref D) H5->compPost (model X.prog X.w) X.A X.xe use R (.ref D) C (.ok .next) s4):wpAny (model X.prog X.w) X.A (comprehension (.ListComp elt [⟨tg,iter,ifs,0⟩] scope pos) scope X.env pos2 (newList []) false (eval iter X.env) use) R X.xe s:=by
 refine wpAny_comprehension_free (use:=use) (cl:=clOf scope X.env) rfl hs (Sr (Rq I hS)) hS.kind hS.loc (thn (hi pins s σ H _ I h) λv s1 h1=>thn h1 λitv s2 h2=>?_);obtain⟨it,fp,tn,J,H2,rfl,I2,T,st2,f2,W,⟨m0,w0⟩,turn⟩:=h2;refine bX (wpAny_newFunctionEnv hS.nocell (by intro y hy;simp at hy) (λh4 hns hsb=>?_) hS.kind);dsimp only at hns hsb ⊢;have hz:(s2.heap.push (ZW [] 0)).objs.size=s2.heap.objs.size+1:=Heap.size_push ..;have hk4:∀b o,(s2.heap.push (ZW [] 0)).get? b=some o->h4.get? b=some o:=λb o e=>hsb.extBut b o (Nat.ne_of_lt (Heap.lt_size e)) (Heap.get?_push_of_some _ e);have hfo:∀b∈fp,∃o,s2.heap.get? b=some o:=λb hb=>let ⟨o,e,_⟩:=T.obj _ _ st2 b hb;⟨o,e⟩
 have fplt:∀b∈fp,b<s2.heap.objs.size:=λb hb=>let ⟨o,e⟩:=hfo b hb;Heap.lt_size e
 generalize hXc:XU X scope N (s2.heap.push (ZW [] 0)).objs.size {s2 with heap:=s2.heap.push (ZW [] 0)} H2 (s2.heap.objs.size::fp) (X.pn++pins)=Xc;have J0:∀tk,Inv Xc [(s2.heap.objs.size,ZW [] 0)] (inner cp σ) H2 {s2 with heap:=h4,toks:=tk}:=λtk=>by rw[<-hXc];exact LG hS hN I2 f2 hfo MO hns hk4 rfl
 have hg':PG Xc tg g:=hXc▸hg _ _ _ _ _;have ht':PTs Xc ifs tc:=hXc▸ht _ _ _ _ _;have he':PE Xc elt te:=hXc▸he _ _ _ _ _;have eP:Xc.prog=X.prog:=by rw[<-hXc];rfl
 have eW:Xc.w=X.w:=by rw[<-hXc];rfl
 have eK:Xc.K=X.K:=by rw[<-hXc];rfl
 have eA:Xc.A=X.A:=by rw[<-hXc];rfl
 have eC:Xc.calm=true:=by rw[<-hXc];exact hc
 have eX:Xc.xe=NoX:=by rw[<-hXc];rfl
 have eE:Xc.env=compEnvC scope (clOf scope X.env) (s2.heap.push (ZW [] 0)).objs.size X.env:=by rw[<-hXc];rfl
 have eL:Xc.env.locals=(s2.heap.push (ZW [] 0)).objs.size:=by rw[eE];rfl
 have eFs:Xc.fs=frs X.stack:=by rw[<-hXc];rfl
 have eEx:Xc.ex=s2.heap.objs.size::fp:=by rw[<-hXc];rfl
 have eH0:Xc.H₀=H2:=by rw[<-hXc];rfl
 have eS0:Xc.s₀={s2 with heap:=s2.heap.push (ZW [] 0)}:=by rw[<-hXc];rfl
 have ePn:Xc.pn=X.pn++pins:=by rw[<-hXc];rfl
 have stk:∀b∈frs X.stack,b<s2.heap.objs.size:=λb hb=>by
  rcases aA.mp (I2.stkSub b hb)with e|e
  ·rw[e];exact I2.lt
  ·exact Nat.lt_of_not_le λz=>I2.nofs z e
 have hDne:s2.heap.objs.size≠Xc.env.locals:=by rw[eL,hz];exact Nat.ne_of_lt (Nat.lt_succ_self _)
 have hDfs:s2.heap.objs.size∉Xc.fs:=by rw[eFs];exact λz=>Nat.lt_irrefl _ (stk _ z)
 have hDp:∀p∈Xc.pn,p.1≠s2.heap.objs.size:=λp hp=>by rw[ePn]at hp;exact Nat.ne_of_lt (Heap.lt_size (I2.pin p hp).1)
 have hDc:∀{τ:St}{H':Hp}{s':ag}{ps:List (Addr×Obj)},Inv Xc ps τ H' s'->∀x c,Xc.env.cells.lookup x=some c->c≠s2.heap.objs.size:=λI' x c e=>(I'.ok.exf _ (by rw[eEx];exact aB)).2 x c e;have stat:∀{τ:St}{H':Hp}{s':ag}{ps:List (Addr×Obj)}{o:Obj},Inv Xc ps τ H' s'->(∀b∈fp,H' b=none)->∀b∈fp,FpOk Xc [(s2.heap.objs.size,o)] H' b:=λI' hn b hb=>by
  have q:=I'.ok.exf b (by rw[eEx];exact av _ hb);refine⟨hn b hb,q.1,I'.ok.exfs b (by rw[eEx];exact av _ hb),.inl (by rw[eEx];exact av _ hb),q.2,λp hp=>?_⟩;rcases aP.mp hp with hp|hp
  ·rw[ePn]at hp;exact(f2 b hb).2.2.2.2.2 p hp
  ·have e:p.1=s2.heap.objs.size:=by rw[aQ]at hp;rw[hp]
   rw[e];exact Nat.ne_of_gt (fplt b hb)
 have run:∀s5:ag,(∃tk,s5={s2 with heap:=h4,toks:=tk})->fC (model X.prog X.w) X.A (.compLoop (.ListComp elt [⟨tg,iter,ifs,0⟩] scope pos) 0 (.ref it) (.ref s2.heap.objs.size) Xc.env) (compPost (model X.prog X.w) X.A X.xe use R (.ref s2.heap.objs.size) (s2.heap.push (ZW [] 0)).objs.size) s5:=by
  rintro s5 ⟨tk,rfl⟩;refine Rp (λn s'=>∃i ys τ H' its k,Inv Xc [(s2.heap.objs.size,ZW its k)] τ H' s'/\Vals ys its/\tn i s'.heap/\(∀b∈fp,H' b=none)/\W i n ys τ H'/\ys.length<=sizeLine) ?_ m0 ⟨0,[],inner cp σ,H2,[],0,J0 tk,.nil,T.keep _ _ _ st2 λb hb o e=>hk4 b o (Heap.get?_push_of_some _ e),λb hb=>(f2 b hb).1,w0,Nat.zero_le _⟩;rintro n s3 ⟨i,ys,τ,H3,its,k,I3,rv,st3,fr3,w3,hl3⟩;rcases turn i n ys τ H3 w3 with⟨stop,qn⟩|⟨go,hl,Nw,hNw,step⟩
  ·have dn:=T.done Xc eP eW eK eC i _ s3 τ H3 NoX I3 (stat I3 fr3) st3 stop;rw[eA]at dn;refine thn dn λr s4⟨hr,I4⟩=>?_;subst hr;obtain⟨m,hn,_⟩:=id I4.loc;rw[eL]at hn;have hs':Heap.SameBut (s2.heap.push (ZW [] 0)).objs.size s4.heap s4.heap:=Heap.SameBut.refl ..;obtain⟨eD,nD,_⟩:=I4.pin (s2.heap.objs.size,ZW its k) (aW _ aB);have u4:=I4.base;rw[eFs,eEx,eH0,eS0]at u4;have hD2:H2 s2.heap.objs.size=none:=I2.hok.fresh (Nat.le_refl _);have hfree:=I4.free;rw[eL]at hfree;have kp:∀b o,s2.heap.get? b=some o->(s2.heap.push (ZW [] 0)).get? b=some o:=λb o e=>Heap.get?_push_of_some _ e;have nD':∀b o,s2.heap.get? b=some o->b≠s2.heap.objs.size:=λb o e=>Nat.ne_of_lt (Heap.lt_size e);have nC':∀b o,s2.heap.get? b=some o->b≠(s2.heap.push (ZW [] 0)).objs.size:=λb o e=>by rw[hz];exact Nat.ne_of_lt (Nat.lt_succ_of_lt (Heap.lt_size e))
   have nex:∀b o,s2.heap.get? b=some o->b∉fp->b∉s2.heap.objs.size::fp:=λb o e hb z=>(aA.mp z).elim (nD' b o e) hb;have I5:Inv X pins σ (upd H3 s2.heap.objs.size (.lst ys)) s4:=by
    refine I2.call' (s':=s4) (ch:=fp) ?_ ⟨λb o e n hb hx=>?_,λb o e n hb hx=>?_,λb o e n hx=>?_,λb o e hx=>?_,λb xs q=>?_,λb o u q=>?_,λb ps q=>?_⟩ ?_ I4.bare λb hb=>?_
    ·have:=I4.os;rw[eS0]at this;exact this
    ·exact(hs'.2 b (nC' b o e)).trans (u4.keep b o (kp b o e) n hb (nex b o e hx))
    ·obtain⟨sl,q⟩:=u4.slot b o (kp b o e) n hb (nex b o e hx);exact⟨sl,(hs'.2 b (nC' b o e)).trans q⟩
    ·rw[Zh (nD' b o e)];exact u4.free b o (kp b o e) n (nex b o e hx)
    ·obtain⟨o',q⟩:=u4.there b o (kp b o e) (nex b o e hx);exact⟨o',(hs'.2 b (nC' b o e)).trans q⟩
    ·rw[Zh (Zk q hD2)];exact u4.tups b xs q
    ·rw[Zh (Zk q hD2)];exact u4.frzs b o u q
    ·rw[Zh (Zk q hD2)];exact u4.tbls b ps q
    ·intro b ob q;have keepC:∀c v,H3 c≠none->s4.heap.get? c=some v->s4.heap.get? c=some v:=λc v hc q=>(hs'.2 c (λz=>hc (by rw[z];exact hfree))).trans q;by_cases hb:b=s2.heap.objs.size
     ·subst hb;rw[Zd]at q;cases q;exact⟨hl3,its,k,rv,(hs'.2 _ (by rw[hz];exact Nat.ne_of_lt (Nat.lt_succ_self _))).trans eD⟩
     ·rw[Zh hb]at q;have ok4:ZP X.prog X.w H3 s4.heap b ob:=by have:=I4.hok b ob q;rw[eP,eW]at this;exact this
      refine ok4.stay (λc v hc' q'=>keepC c v ?_ q') (λc q'=>by rw[Zh (Zk q' nD)];exact q') λc xs q'=>by rw[Zh (Zk q' nD)];exact q'
      rcases hc' with rfl|hc'
      ·rw[q];simp
      ·rw[hc'];simp
    ·obtain⟨g0,g1,g2,g3,g4,g5⟩:=f2 b hb;exact⟨g3,g1,g4,g5⟩
   have hCn:(s2.heap.push (ZW [] 0)).objs.size≠X.env.locals:=by rw[hz];exact Nat.ne_of_gt (Nat.lt_succ_of_lt I2.lt)
   have hCc:∀y c,X.env.cells.lookup y=some c->c≠(s2.heap.push (ZW [] 0)).objs.size:=λy c e=>by obtain⟨v,o,ho,_⟩:=I2.cell y c e;exact nC' c o ho
   have hCH:upd H3 s2.heap.objs.size (.lst ys) (s2.heap.push (ZW [] 0)).objs.size=none:=by rw[Zh (by rw[hz];exact Nat.succ_ne_self _)];exact hfree
   exact out _ _ _ _ m I5 hn hCn hCc hCH (by rw[hz];exact Nat.le_succ_of_le I2.sz) (λp hp=>nC' p.1 p.2 (I2.pin p hp).1) (qn _ nD)
  ·have itm:=T.item Xc eP eW eK eC i _ s3 τ H3 NoX I3 (stat I3 fr3) st3 go;rw[eA]at itm;refine thn itm λr s4⟨u,hr,h4'⟩=>?_;subst hr;refine thn h4' λ_ s5 hZ=>?_;obtain⟨x,H5,I5,r5,y5,st5,fr5⟩:=hZ;have I5':=I5.pinned (stat I5 fr5) (T.obj _ _ st5);have a1:=hg' _ s5 τ H5 x u _ I5' r5 (step x H5 y5);rw[eP,eW,eA,eX]at a1;refine thn a1 λ_ s6 hZ=>?_;obtain⟨τ6,H6,I6,q6⟩:=hZ;have a2:=ht' _ s6 τ6 H6 _ I6 q6;rw[eP,eW,eA,eX]at a2;refine thn a2 λok s7⟨H7,I7,q7⟩=>?_;have tnAt:∀{τ':St}{H':Hp}{s':ag},Inv Xc ([(s2.heap.objs.size,ZW its k)]++NC fp s5.heap) τ' H' s'->tn (i+1) s'.heap/\∀b∈fp,H' b=none:=λI'=>
    ⟨T.keep _ _ _ st5 λb hb o e=>(I'.pin (b,o) (aW _ (aW _ (mem_pinsAt hb e)))).1,λb hb=>by
     obtain⟨o,e,d⟩:=T.obj _ _ st5 b hb;exact(I'.pin (b,o) (aW _ (aW _ (mem_pinsAt hb e)))).2.1⟩;cases ok with
  |false=>rw[if_neg Bool.false_ne_true]at q7;rw[if_neg Bool.false_ne_true];obtain⟨m',hm,w7⟩:=hNw _ _ _ q7;exact⟨m',hm,i+1,ys,τ6,H7,its,k,I7.unpinned,rv,(tnAt I7).1,(tnAt I7).2,w7,hl3⟩
  |true=>
    rw[if_pos rfl]at q7;rw[if_pos rfl];have a3:=he' _ s7 τ6 H7 _ I7 q7;rw[eP,eW,eA,eX]at a3;refine thn a3 λv s8 hZ=>?_;obtain⟨y,H8,I8,r8,q8⟩:=hZ;obtain⟨m',hm,w8⟩:=hNw _ _ _ q8;obtain⟨eD,nD,_⟩:=I8.pin (s2.heap.objs.size,ZW its k) (aW _ (bp _ aB));have hlen:=rv.length;refine gY F.slot_list_append ⟨_,eD,rfl⟩ F.entry_list_append (F.args_list_append_2 _ _) (PySem.list_append s2.heap.objs.size its.toArray k v (by rw[au];omega)) ⟨eD,?_⟩;have q0:=PySem.IsL.update eD (·.push v);obtain⟨k',q⟩:∃k',(s8.heap.update s2.heap.objs.size (Obj.mapSeq (·.push v))).get? s2.heap.objs.size=some (ZW (its++[v]) k'):=⟨_,by
     have e:(its++[v]).toArray=its.toArray.push v:=by simp
     unfold ZW;rw[e];exact q0⟩;have I9:Inv Xc [] τ6 H8 s8:=I8.pins_of λp hp=>absurd (show p∈([]:List (Addr×Obj))from hp) (by simp);refine⟨m',hm,i+1,ys++[y],τ6,H8,its++[v],k',?_,rv.append (.cons r8 .nil),T.keep _ _ _ (tnAt I8).1 λb hb o e=>?_,(tnAt I8).2,w8,?_⟩
    ·refine Inv.pins_of (pins:=[]) (I9.turned (t':=s8.toks) (it:=s2.heap.objs.size) (λb o hb e=>(Heap.get?_update_other _ _ (bA hb)).trans e) nD hDne (.inl (by rw[eEx];exact aB)) (hDc I9) (λp hp=>hDp p (by simpa using hp))) λp hp=>?_;have e:p=(s2.heap.objs.size,ZW (its++[v]) k'):=by simpa using hp
     subst e;exact⟨q,nD,hDne,hDfs,MO⟩
    ·exact(Heap.get?_update_other _ _ (Nat.ne_of_gt (fplt b hb))).trans e
    ·rw[ay,List.length_singleton];omega
 have st4:tn 0 h4:=T.keep _ _ _ st2 λb hb o e=>hk4 b o (Heap.get?_push_of_some _ e);have fin:=codeAny_compStart_list (run _ ⟨_,rfl⟩) (T.self X.A 0 {s2 with heap:=h4,toks:=s2.toks+([]:List (Str×Value)).length} _ (notedBy (model X.prog X.w) X.A Xc.env λex s'=>(compPost (model X.prog X.w) X.A X.xe use R (.ref s2.heap.objs.size) (s2.heap.push (ZW [] 0)).objs.size) (.error ex) s') st4 (run _ ⟨_,rfl⟩));rw[eE]at fin;exact fin
theorem Z7{elt iter tg:Expr}{ifs:List Expr}{scope:Scope}{pos:Pos}{N:List Str}{cp:List (Option Nat)}{wi:TI}{g:TG}{tc:TT}{te:TE}(hc:X.calm=true){sc:Scope}{N0:List Str}(hS0:CompScope scope sc)(hN0:CompNames N0 scope N cp)(hi:PI X tg iter wi)(hg:∀C s H ex pn,PG (XU X scope N C s H ex pn) tg g)(ht:∀C s H ex pn,PTs (XU X scope N C s H ex pn) ifs tc)(he:∀C s H ex pn,PE (XU X scope N C s H ex pn) elt te)(hsc:X.env.scope=sc:=by rfl)(hxn:X.N=N0:=by rfl)(hs:∀x,fF iter X.env x=pure x:=by intro _;rfl):PE X (.ListComp elt [⟨tg,iter,ifs,0⟩] scope pos) (KD cp wi g tc te):=by subst hsc hxn;intro pins s σ H Q I h;rw[eval_ListComp];exact PM (use:=none) hc hS0 hN0 hi hg ht he hs I h λD C H5 s4 m I5 hn h1 h2 h3 h4 h5 q=>⟨m,hn,λh' hs'=>⟨.ref D,_,I5.turned (t':=s4.toks) (it:=C) (λb o hb e=>(hs'.2 b hb).trans e) h3 h1 (.inr h4) h2 h5,rfl,q⟩⟩
theorem Ds{bs:List Bool}:∀{us:List Value},Vals (bs.map V.bl) us->∀(i:Nat)(v:Value),us[i]?=some v->∃b,bs[i]?=some b/\v=.bool b:=by
 induction bs with
|nil=>intro us r i v e;rw[d6]at r;cases r;simp at e
|cons b bs ih=>
  intro us r i v e;rw[aL]at r;cases r with
 |cons r1 r2=>
   cases i with
  |zero=>simp at e;subst e;exact⟨b,rfl,r1⟩
  |succ i=>obtain⟨b',h1,h2⟩:=ih r2 i v (by simpa using e);exact⟨b',by simpa using h1,h2⟩
theorem all_range(bs:List Bool):(aY bs.length).all (λi=>bs.getD i true)=bs.all id:=by
 rw[Bool.eq_iff_iff,bZ,bZ];constructor
 ·intro h b hb;obtain⟨i,hi⟩:=bh.mp hb;have hl:i<bs.length:=(aj.mp hi).1;have:=h i (b_.mpr hl);rw[bj,hi]at this;exact this
 ·intro h i hi;have hl:=b_.mp hi;rw[bj,List.getElem?_eq_getElem hl];exact h _ (aG hl)
theorem Dj(hc:X.calm=true):Jh X (.builtin "all") (λxs H Q=>∃(p:Addr)(bs:List Bool),xs=[.ref p]/\SqL X.K H p (bs.map V.bl)/\Q (.bl (bs.all id)) H):=by
 intro pins s σ H xs us Q I r h;obtain⟨p,bs,rfl,hq,q⟩:=h;obtain⟨u,rfl,ru⟩:=vals1 r;cases ru;obtain⟨its,rv,pl,hz⟩:=I.list hq;have hl:=rv.length;rw[aZ]at hl;refine call_all_walk (wpAny_pyIter_list pl.isList ?_);have hne:p≠s.heap.objs.size:=by obtain⟨o,n,e,_⟩:=pl;exact Nat.ne_of_lt (Heap.lt_size e)
 refine⟨s.heap.objs.size,_,_,_,_,_,λi=>bs.getD i true,rfl,Walks.list (A:=X.A.in1) (I.ok.hd hc) s.heap.objs.size p hne its.toArray,⟨⟨_,Heap.get?_push_size _ rfl,rfl,rfl⟩,?_⟩,λi v s' Q' E' hp hQ=>?_,λh' tk kk=>?_⟩
 ·obtain⟨o,e,c,n,d⟩:=pl.isList;exact⟨o,Heap.get?_push_of_some _ e,c,n,d⟩
 ·obtain⟨b,hb,rfl⟩:=Ds rv i v (by simpa using hp);have:bs.getD i true=b:=by rw[bj,hb];rfl
  exact bJ (this▸hQ)
 ·have e:(aY its.toArray.size).all (λi=>bs.getD i true)=bs.all id:=by rw[au,<-hl];exact all_range bs
  rw[e];refine⟨.bl (bs.all id),H,I.kept (t':=tk) λb o q=>?_,rfl,q⟩;exact kk b o (by simp;exact Nat.ne_of_lt (Heap.lt_size q)) (Heap.get?_push_of_some _ q)
theorem Dw{ys:List Str}:∀{us:List Value},Vals (ys.map V.str) us->StrsAre us ys:=by
 induction ys with
|nil=>intro us r;rw[d6]at r;cases r;exact .nil
|cons y ys ih=>
  intro us r;rw[aL]at r;cases r with
 |cons r1 r2=>obtain⟨t,e⟩:=r1;subst e;exact .cons y t (ih r2)
theorem TR:MtR X "str.join" (λx vs H Q=>∃(z:Str)(p:Addr)(ys:List Str),x=.str z/\vs=[.ref p]/\SqL X.K H p (ys.map V.str)/\(ys.map (·.length)).sum+ys.length*z.length<=16777216/\Q (.str (Txt.join z ys)) H):=by intro pins s σ H x xs v us Q I rx rs h;obtain⟨z,p,ys,rfl,rfl,hq,hz,q⟩:=h;obtain⟨t,rfl⟩:=rx;obtain⟨u,rfl,ru⟩:=vals1 rs;cases ru;obtain⟨its,rv,pl,hl⟩:=I.list hq;exact join_list pl.isList (by simpa using Dw rv) hz λt' k=>⟨.str (Txt.join z ys),H,I.tok k,⟨t',rfl⟩,q⟩
theorem RP:SlR X (λx lo hi H Q=>∃z,x=.str z/\z.length<=sizeLine/\Q (.str (Txt.slice z lo hi)) H):=by
 intro pins s σ H x v vl vu lo hi sl Q I rx hs pl pu h;obtain⟨z,rfl,hz,q⟩:=h;obtain⟨t,rfl⟩:=rx;have fin:∀t' k,EP X pins σ Q (.str (Txt.slice z lo hi) t') {s with toks:=k}:=λt' k=>⟨.str _,H,I.tok k,⟨t',rfl⟩,q⟩;have len:=Nat.le_trans (Txt.slice_le z lo hi) hz;refine⟨"str",_,PyProof.Rows.slot_str_getitem.lookup,typeIs_str _ _ _,?_⟩;obtain⟨o,ho,hc,hd⟩:=hs;cases pl with
|none=>
  cases pu with
 |none=>exact dJ (l:=none) (u:=none) (st:=none) ⟨o,ho,hc,hd⟩ rfl (gh ⟨len,fin⟩)
 |int j uj=>exact dJ (l:=none) (u:=some (j,uj)) (st:=none) ⟨o,ho,hc,hd⟩ rfl (gh ⟨len,fin⟩)
|int i ui=>
  cases pu with
 |none=>exact dJ (l:=some (i,ui)) (u:=none) (st:=none) ⟨o,ho,hc,hd⟩ rfl (gh ⟨len,fin⟩)
 |int j uj=>exact dJ (l:=some (i,ui)) (u:=some (j,uj)) (st:=none) ⟨o,ho,hc,hd⟩ rfl (gh ⟨len,fin⟩)
def Ab(i j:Int):Prop:=0<j/\j.natAbs.log2<9000
theorem Lm:OpR X (cJ .FloorDiv) (rI Ab λi j=>.int (i / j)):=opI λi j _ _ _ _ _ hc q=>by have h1:(0:Int)<j:=hc.1;exact floordiv_int (by omega) (by rw[Int.fdiv_eq_ediv_of_nonneg i (by omega)];exact q) (.inl (PyProof.noPylong_of_log2 hc.2))
theorem Di:Jh X (.builtin "isinstance") (λxs H Q=>∃x c t b,xs=[x,.ty c]/\TyOf X.K H x t/\ak X.K t (.type c)=some b/\Q (.bl b) H):=by intro pins s σ H xs us Q I r h;obtain⟨x,c,t,b,rfl,ty,e,q⟩:=h;obtain⟨u,w',rfl,ru,rw'⟩:=vals2 r;cases rw';exact PB I ru ty e λtk=>⟨.bl b,H,I.tok tk,rfl,q⟩
end
theorem QA:bF "int"=some (.type "int"):=by decide +kernel
theorem Ej:bF "bool"=some (.type "bool"):=by decide +kernel
theorem Dn:bF "str"=some (.type "str"):=by decide +kernel
def Df(K:aa)(mg:Str->Option Value)(x:Str)(st:Stmt)(ps:List Str):Prop:=∃f fd,Fun K x x st f fd/\mg x=some (.ref f)/\Binds K fd ps []
def Can(P:Program)(w:World)(K:aa)(mg:Str->Option Value)(base:Heap)(k:Nat)(x:Str)(ps:List Str)(sp:Sp):Prop:=∃f fd,FnOk P w K mg base CX0 k f fd ps sp/\mg x=some (.ref f)/\aU K (.ref f)=true/\Binds K fd ps []
section
variable {P:Program}{w:World}{K:aa}{mg:Str->Option Value}{base:Heap}
theorem Can.mono{j k:Nat}{x:Str}{ps:List Str}{sp:Sp}(C:Can P w K mg base j x ps sp)(h:j<=k):Can P w K mg base k x ps sp:=by obtain⟨f,fd,F,r⟩:=C;exact⟨f,fd,F.mono h,r⟩
theorem Df.can{x:Str}{st:Stmt}{N ps:List Str}{k:Nat}{sp:Sp}(D:Df K mg x st ps)(S:FnScope N ps (Zb st))(len:∀vs H Q E,sp vs H Q E->vs.length=ps.length)(hbody:∀(f:Addr)(cdv:Value)(A:aX)(outer:List Env)(s:ag)(H:Hp)(vs:List V)(Q:VK)(E:XK),Room k (A.deeper (de x (Zb st) s.heap.objs.size f cdv))->sp vs H Q E ->∃t,PSs (cxOf CX0 P w K mg base N x (Zb st) f cdv A outer s H E).nox (ZH st) t/\t {nx:=λ_ H'=>Q .non H',rt:=Q} (start N vs) H):Can P w K mg base (k+1) x ps sp:=by obtain⟨f,fd,F,m,b⟩:=D;exact⟨f,fd,F.ok S len (λcdv A outer s H vs Q E hr h=>hbody f cdv A outer s H vs Q E hr h),m,F.kp,b⟩
end
section
variable {X:Cx}
theorem Z2{k:Nat}{x:Str}{ps:List Str}{sp:Sp}{p pos:Pos}{e:Expr}{es:List Expr}{t:TA}(C:Can X.prog X.w X.K X.mg X.base k x ps sp)(hr:Room k X.A)(hg:Gl X x)(ha:PA X (e::es) t)(hdb:(x==("__debug__":Str))=false:=by decide)(he:aD (e::es) X.env=(false,eval e X.env)::aD es X.env:=by rfl)(hpl:(cw pos (aD es X.env)).any (·.1)=false:=by rfl):PE X (.Call (.Name x p) (e::es) [] pos) (Pn sp [] E0 t):=by obtain⟨f,fd,F,m,kp,b⟩:=C;exact TM F hr hg m kp b .nil YM ha hdb he hpl
end
inductive Th(H:Hp):V->String->Prop where
|non:Th H .non "NoneType"
|bl (b:Bool):Th H (.bl b) "bool"
|int (i:Int):Th H (.int i) "int"
|str (z:Str) (h:z.length<=1000):Th H (.str z) "str"
|lst {a:Addr}{xs:List V} (e:H a=some (.lst xs)):Th H (.ref a) "list"
|tup {a:Addr}{xs:List V} (e:H a=some (.tup xs)):Th H (.ref a) "tuple"
|dK {a:Addr}{kvs:List (Key×V)} (e:H a=some (.dK kvs)):Th H (.ref a) "dict"
theorem Th.ty{K:aa}{H:Hp}{v:V}{T:String}(h:Th H v T):TyOf K H v (.type T):=by
 cases h with
|non=>exact .non
|bl b=>exact .bl b
|int i=>exact .int i
|str z h=>exact .str z
|lst e=>exact .lst e
|tup e=>exact .tup e
|dK e=>exact .dK e
theorem Th.same{H H':Hp}(s:Same H H'){v:V}{T:String}(h:Th H v T):Th H' v T:=by
 cases h with
|non=>exact .non
|bl b=>exact .bl b
|int i=>exact .int i
|str z h=>exact .str z h
|lst e=>exact .lst (s _ _ e)
|tup e=>exact .tup (s _ _ e)
|dK e=>exact .dK (s _ _ e)
section
variable (K:aa)
theorem Fp:ak K (.type "NoneType") (.type "int")=some false:=by kernel_rfl
theorem Fq:ak K (.type "NoneType") (.type "bool")=some false:=by kernel_rfl
theorem Fo:ak K (.type "NoneType") (.type "str")=some false:=by kernel_rfl
theorem FE:ak K (.type "bool") (.type "int")=some true:=by kernel_rfl
theorem FF:ak K (.type "bool") (.type "bool")=some true:=by kernel_rfl
theorem FD:ak K (.type "bool") (.type "str")=some false:=by kernel_rfl
theorem Fx:ak K (.type "int") (.type "int")=some true:=by kernel_rfl
theorem Fy:ak K (.type "int") (.type "bool")=some false:=by kernel_rfl
theorem Fw:ak K (.type "int") (.type "str")=some false:=by kernel_rfl
theorem Fm:ak K (.type "str") (.type "int")=some false:=by kernel_rfl
theorem Fn:ak K (.type "str") (.type "bool")=some false:=by kernel_rfl
theorem Fl:ak K (.type "str") (.type "str")=some true:=by kernel_rfl
theorem Fu:ak K (.type "list") (.type "int")=some false:=by kernel_rfl
theorem Fv:ak K (.type "list") (.type "bool")=some false:=by kernel_rfl
theorem Fs:ak K (.type "list") (.type "str")=some false:=by kernel_rfl
theorem Fi:ak K (.type "tuple") (.type "int")=some false:=by kernel_rfl
theorem Fj:ak K (.type "tuple") (.type "bool")=some false:=by kernel_rfl
theorem Fh:ak K (.type "tuple") (.type "str")=some false:=by kernel_rfl
theorem FA:ak K (.type "dict") (.type "int")=some false:=by kernel_rfl
theorem FC:ak K (.type "dict") (.type "bool")=some false:=by kernel_rfl
theorem Fz:ak K (.type "dict") (.type "str")=some false:=by kernel_rfl
end
noncomputable def FL:V->Bool
|.str _=>true
|_=>false
noncomputable def LF:V->Bool
|.int _=>true
|_=>false
noncomputable def EH:V->Bool
|.bl _=>true
|_=>false
theorem Th.kitS{K:aa}{H:Hp}{v:V}{T:String}(h:Th H v T):ak K (.type T) (.type "str")=some (FL v):=by
 cases h with
|non=>exact Fo K
|bl b=>exact FD K
|int i=>exact Fw K
|str z h=>exact Fl K
|lst e=>exact Fs K
|tup e=>exact Fh K
|dK e=>exact Fz K
theorem Th.kitB{K:aa}{H:Hp}{v:V}{T:String}(h:Th H v T):ak K (.type T) (.type "bool")=some (EH v):=by
 cases h with
|non=>exact Fq K
|bl b=>exact FF K
|int i=>exact Fy K
|str z h=>exact Fn K
|lst e=>exact Fv K
|tup e=>exact Fj K
|dK e=>exact FC K
theorem Th.kitI{K:aa}{H:Hp}{v:V}{T:String}(h:Th H v T):ak K (.type T) (.type "int")=some (LF v||EH v):=by
 cases h with
|non=>exact Fp K
|bl b=>exact FE K
|int i=>exact Fx K
|str z h=>exact Fm K
|lst e=>exact Fu K
|tup e=>exact Fi K
|dK e=>exact FA K
section
variable {X:Cx}
def tIsi(K:aa)(c:String)(te:TE):TE:=tCB (λxs H Q=>∃x c t b,xs=[x,.ty c]/\TyOf K H x t/\ak K t (.type c)=some b/\Q (.bl b) H) (J8 te (J8 (tC (.ty c)) tNil))
theorem Mb{e:Expr}{te:TE}{c:String}{cx:Str}{p p2 pos:Pos}(he:PE X e te)(hg:Gl X "isinstance")(hm:X.mg "isinstance"=none)(hg2:Gl X cx)(hm2:X.mg cx=none)(hb:bF cx=some (.type c))(hn:cx≠"__name__":=by decide)(hd:(cx==("__debug__":Str))=false:=by decide)(hs:aD [e,.Name cx p2] X.env=(false,eval e X.env)::aD [.Name cx p2] X.env:=by rfl):PE X (.Call (.Name "isinstance" p) [e,.Name cx p2] [] pos) (tIsi X.K c te):=ZG (p:=p) (pos:=pos) (Di (X:=X)) hg hm bo (Zj he (Zj (Qr (v:=V.ty c) (pos:=p2) hg2 hm2 hb rfl hn hd) Zf) hs) (he:=hs)
end
def RecX(B:Heap)(x:Addr)(c:Value)(dd:Option Addr)(fl:Value)(h:Heap):Prop:=∃o vs,h.get? x=some o/\o.cls=c/\o.dict=dd/\o.data=.fields vs/\1<vs.size /\((vs[1]?=some .none/\fl=.none)\/∃T oT ts,vs[1]?=some (.ref T)/\B.get? T=none/\T≠x/\h.get? T=some oT/\oT.data=.fields ts/\ts[3]?=some fl)
structure Fly(B:Heap)(l:List Env)(x:Addr)(c:Value)(dd:Option Addr)(fl:Value)(h:Heap):Prop where
 keep:B.StaysIn h
 new:B.get? x=none
 frames:h.FunFrames B l
 row:RecX B x c dd fl h
theorem WL(o:Obj)(f:Array Value->Array Value):(o.mapFields f).dict=o.dict:=by obtain⟨c,d,dt,sl⟩:=o;cases dt<;>rfl
theorem Xm{h:Heap}{b T:Addr}{o oT:Obj}{ts:Array Value}(hb:h.get? b=some o)(hn:∀vs,o.data≠.fields vs)(hT:h.get? T=some oT)(hd:oT.data=.fields ts):b≠T:=by rintro rfl;rw[hT]at hb;cases hb;exact hn ts hd
section
variable {M:Model}{A:aX}{E:Value->ag->Prop}{s:ag}{B:Heap}{env:Env}{outer:List Env}{L x:Addr}{c:Value}{dd:Option Addr}{Q:Unit->ag->Prop}
theorem PF{o:Obj}{vs:Array Value}{head:Value}{had:Bool}(hfr:A.frames=some (env::outer))(hf:env.frame=some L)(hl:s.heap.FunFrames B (env::outer))(hk:B.StaysIn s.heap)(hn:B.get? x=none)
  (hx:s.heap.get? x=some o) (hc:o.cls=c) (hdd:o.dict=dd) (hd:o.data=.fields vs) (hz:1<vs.size)
  (hQ:∀h',Fly B (env::outer) x c dd (bU L) h'->s.heap.UpToSlots h'->Q () {s with heap:=h'}):
  wpAny M A (do let fr <-frameOf env;let pl <-entryPlaceOf L had;let t <-EntryCells.newEntry head fr .none (bU L) .none pl;setField (.ref x) 1 t) Q E s:=by
 have xf:x∉(env::outer).filterMap (·.frame):=λhm=>by
  obtain⟨_,u,hu,hnf⟩:=hl.mem hm
  rw[hx]at hu
  cases hu
  exact hnf vs hd
 refine ae (wpAny_frameOf_fun hfr hl hf λh1 so=>?_)
 refine ae (wpAny_entryPlaceOf λpl hpl=>?_)
 unfold EntryCells.newEntry newFields
 refine ae (bX ?_ (hpl.sizeOk5 _ _ _ _ _))
 have x1:h1.get? x=some o:=(so.2.1 x xf).trans hx
 have k1:B.StaysIn h1:=λb u hb=>(so.2.1 b λhm=>by rw[(hl.mem hm).1]at hb;cases hb).trans (hk b u hb)
 generalize hOT:({cls:=.type "traceback",dict:=none,data:=.fields ([head,.ref L,.none,bU L,.none]++(if pl.isEmpty then List.replicate 6 Value.none else pl)).toArray}:Obj)=oT
 have x2:(h1.push oT).get? x=some o:=Heap.get?_push_of_some _ x1
 have nT:h1.objs.size≠x:=Nat.ne_of_gt (Heap.lt_size x1)
 have d3:=Obj.data_mapFields hd (·.setIfInBounds 1 (Value.ref h1.objs.size))
 have x3:=Heap.get?_update_self (Obj.mapFields (·.setIfInBounds 1 (Value.ref h1.objs.size))) x2 (Obj.isFreed_of_fields d3)
 refine bW x2 hd hz (hQ _ ?_ ?_)
 ·have other:∀b u,b≠x->h1.get? b=some u->((h1.push oT).update x (Obj.mapFields (·.setIfInBounds 1 (Value.ref h1.objs.size)))).get? b=some u:=λb u hb q=>by
   rw[Heap.get?_update_other _ _ (bA hb)]
   exact Heap.get?_push_of_some _ q
  refine⟨λb u hb=>other b u (λq=>by rw[q,hn]at hb;cases hb) (k1 b u hb),hn,hl.of_keeps λb u hb hnf=>?_,?_⟩
  ·obtain⟨sl,q⟩:=so.2.2 b u hb
   exact⟨_,other b _ (Xm hb hnf hx hd) q,rfl⟩
  ·have oTf:oT.isFreed=false:=by rw[<-hOT];rfl
   refine⟨_,_,x3,(Obj.cls_mapFields _ _).trans hc,(WL _ _).trans hdd,d3,by simpa using hz,.inr ⟨h1.objs.size,oT,([head,.ref L,.none,bU L,.none]++(if pl.isEmpty then List.replicate 6 Value.none else pl)).toArray,by simp[hz],k1.fresh,nT,?_,by rw[<-hOT],?_⟩⟩
   ·rw[Heap.get?_update_other _ _ (bA nT)]
    exact Heap.get?_push_size h1 oTf
   ·first
    |(simp;done)
    |(rcases hpl with rfl|⟨_,_,_,_,_,_,_,rfl⟩<;>simp)
 ·intro b u hb hnf
  obtain⟨sl,q⟩:=so.2.2 b u hb
  refine⟨sl,?_⟩
  rw[Heap.get?_update_other _ _ (bA (Xm hb hnf hx hd))]
  exact Heap.get?_push_of_some _ q
theorem LR(hfr:A.frames=some (env::outer))(hf:env.frame=some L)(F:Fly B (env::outer) x c dd .none s.heap)(hQ:∀h',Fly B (env::outer) x c dd (bU L) h'->s.heap.UpToSlots h'->Q () {s with heap:=h'}):wpAny M A (noteFrame (.ref x) env) Q E s:=by
 obtain⟨o,vs,hx,hc,hdd,hd,hz,tr⟩:=F.row;unfold noteFrame;simp only[hf];rcases tr with⟨h1,_⟩|⟨T,oT,ts,h1,bT,nT,hT,hdT,h3⟩
 ·refine ae (bt hx hd h1 ?_);rw[if_neg (by decide)];exact PF hfr hf F.frames F.keep F.new hx hc hdd hd hz hQ
 ·refine ae (bt hx hd h1 ?_);rw[if_pos (show(Value.ref T != Value.none)=true from by simp)];refine ae (bt hT hdT h3 ?_);rw[if_neg (show ¬((Value.none==bU L)=true)from by simp[bU])];refine ae (bW hT hdT (Array.getElem?_eq_some_iff.mp h3).1 ?_);have other:∀b,b≠T->(s.heap.update T (Obj.mapFields (·.setIfInBounds 3 Value.none))).get? b=s.heap.get? b:=λb hb=>Heap.get?_update_other _ _ (bA hb);refine PF hfr hf (F.frames.of_keeps λb u hb hnf=>⟨u,(other b (Xm hb hnf hT hdT)).trans hb,rfl⟩) (λb u hb=>(other b λq=>by rw[q,bT]at hb;cases hb).trans (F.keep b u hb)) F.new ((other x (bA nT)).trans hx) hc hdd hd hz λh' F' U=>hQ h' F' λb u hb hnf=>U b u ((other b (Xm hb hnf hT hdT)).trans hb) hnf
theorem LS{l:List Env}{fl:Value}(F:Fly B l x c dd fl s.heap)(hQ:∀h',Fly B l x c dd .none h'->s.heap.UpToSlots h'->Q () {s with heap:=h'}):wpAny M A (setFlight (.ref x) none) Q E s:=by
 obtain⟨o,vs,hx,hc,hdd,hd,hz,tr⟩:=F.row;unfold setFlight;rcases tr with⟨h1,e⟩|⟨T,oT,ts,h1,bT,nT,hT,hdT,h3⟩
 ·subst e;refine ae (bt hx hd h1 ?_);rw[if_neg (by decide)];exact ao (hQ _ F (.refl _))
 ·have z3:3<ts.size:=(Array.getElem?_eq_some_iff.mp h3).1;refine ae (bt hx hd h1 ?_);rw[if_pos (show(Value.ref T != Value.none)=true from by simp)];have other:∀b,b≠T->(s.heap.update T (Obj.mapFields (·.setIfInBounds 3 ((none:Option Addr).elim Value.none λf=>bU f)))).get? b=s.heap.get? b:=λb hb=>Heap.get?_update_other _ _ (bA hb);refine bW hT hdT z3 (hQ _ ⟨λb u hb=>(other b λq=>by rw[q,bT]at hb;cases hb).trans (F.keep b u hb),F.new,F.frames.of_keeps λb u hb hnf=>⟨u,(other b (Xm hb hnf hT hdT)).trans hb,rfl⟩,?_⟩ λb u hb hnf=>⟨u.slots,(other b (Xm hb hnf hT hdT)).trans hb⟩);exact⟨o,vs,(other x (bA nT)).trans hx,hc,hdd,hd,hz,.inr ⟨T,_,_,h1,bT,nT,Heap.get?_update_self _ hT (Obj.isFreed_of_fields (Obj.data_mapFields hdT _)),Obj.data_mapFields hdT _,by simp[z3]⟩⟩
theorem WW(hfr:A.frames=some (env::outer))(hf:env.frame=some L)(F:Fly B (env::outer) x c dd .none s.heap)(hQ:∀h',Fly B outer x c dd .none h'->s.heap.UpToSlots h'->Q () {s with heap:=h'}):wpAny M A (leaving env (.ref x)) Q E s:=by unfold leaving;refine ae (LR hfr hf F λh1 F1 U1=>?_);refine LS (s:={s with heap:=h1}) F1 λh2 F2 U2=>?_;exact hQ h2 ⟨F2.keep,F2.new,F2.frames.2.2,F2.row⟩ (U1.trans U2)
end
structure BaseX(B:Heap)(fs:List Addr)(x:Addr)(H H':Hp)(h:Heap):Prop where
 trk:∀b u,H' b=some u->∃o,B.get? b=some o
 old:∀b o,h.get? b=some o->H b=none->b∉fs->B.get? b=some o
 all:∀b o,h.get? b=some o->b∈fs\/b=x\/∃o',B.get? b=some o'
 xn:H' x=none
noncomputable def CX1(P:Program)(w:World):CXT:=λouter H s E e s'=>∃(x:Addr)(c:Value)(dd:Option Addr)(B:Heap)(H':Hp),e=.ref x/\s'.os=s.os/\fD s'.gens/\Un (frs outer) [] H H' s.heap s'.heap/\HOk P w H' s'.heap /\Fly B outer x c dd .none s'.heap/\BaseX B (frs outer) x H H' s.heap/\E c dd H'
theorem LK{P:Program}{w:World}{H:Hp}{h h' B:Heap}(ok:HOk P w H h)(trk:∀b u,H b=some u->∃o,B.get? b=some o)(k:B.StaysIn h)(k':B.StaysIn h'):HOk P w H h':=λb u e=>by
 have go:∀c v,H c≠none->h.get? c=some v->h'.get? c=some v:=λc v hc q=>by
  cases e':H c with
 |none=>exact absurd e' hc
 |some u'=>obtain⟨o,ho⟩:=trk c u' e';have:=k c o ho;rw[q]at this;cases this;exact k' c _ ho
 refine(ok b u e).stay (λc v hc q=>go c v ?_ q) (λ_ q=>q) λ_ _ q=>q;rcases hc with rfl|hc
 ·rw[e];simp
 ·rw[hc];simp
section
variable {P:Program}{w:World}{K:aa}{mg:Str->Option Value}{base:Heap}{N:List Str}{qual:Str}{scope:Scope}{f:Addr}{cd:Value}{A:aX}{outer:List Env}{s:ag}{H:Hp}{E:XK}
theorem LB{pins:List (Addr×Obj)}{σ:St}{H1:Hp}{s1:ag}{x:Addr}{c:Value}{dd:Option Addr}{B:Heap}(I:Inv (cxOf (CX1 P w) P w K mg base N qual scope f cd A outer s H E) pins σ H1 s1)(F:Fly B (cxOf (CX1 P w) P w K mg base N qual scope f cd A outer s H E).stack x c dd .none s1.heap)(b:BaseX B (frs outer) x H H1 s.heap)(hE:E c dd H1):(cxOf (CX1 P w) P w K mg base N qual scope f cd A outer s H E).xe (.ref x) s1:=by
 refine WW (L:=s.heap.objs.size) I.ok.frames rfl F λh2 F2 U=>?_;have un:Un (frs outer) [] H H1 s.heap s1.heap:=I.base;refine⟨x,c,dd,B,H1,rfl,I.os,I.bare,⟨λd o e n hd _=>F2.keep d o (b.old d o e n hd),λd o e n hd _=>?_,un.free,λd o e _=>?_,un.tups,un.frzs,un.tbls⟩,LK I.hok b.trk F.keep F2.keep,F2,b,hE⟩
 ·obtain⟨sl,q⟩:=un.slot d o e n hd (by simp);obtain⟨_,o',ho',hnf⟩:=I.ok.funs.mem hd;have eo:o'=o:=by have:s.heap.get? d=some o':=ho';rw[e]at this;exact(ar this).symm
  subst eo;obtain⟨sl2,q2⟩:=U d _ q hnf;exact⟨sl2,q2⟩
 ·rcases b.all d o e with z|z|⟨o',z⟩
  ·obtain⟨_,o2,ho2,hnf⟩:=I.ok.funs.mem z;have ho2':s.heap.get? d=some o2:=ho2;obtain⟨sl,q⟩:=un.slot d o2 ho2' (I.ok.frf d z) z (by simp);obtain⟨sl2,q2⟩:=U d _ q hnf;exact⟨_,q2⟩
  ·subst z;obtain⟨o3,_,q,_⟩:=F2.row;exact⟨o3,q⟩
  ·exact⟨o',F2.keep d o' z⟩
theorem BaseX.up{X:Cx}{pins:List (Addr×Obj)}{σ:St}{H1 H2:Hp}{s1:ag}{x:Addr}{B:Heap}(I:Inv X pins σ H1 s1)(hex:X.ex=[])(b:BaseX B (frs X.stack) x H1 H2 s1.heap):BaseX B X.fs x X.H₀ H2 X.s₀.heap:=by
 have low:∀d o,X.s₀.heap.get? d=some o->d∈frs X.stack->d∈X.fs:=λd o e hd=>by
  rcases aA.mp (I.stkSub d hd)with z|z
  ·exact absurd (Nat.lt_of_lt_of_le (Heap.lt_size e) I.ok.above) (by rw[z];exact Nat.lt_irrefl _)
  ·exact z
 refine⟨b.trk,λd o e n hd=>?_,λd o e=>?_,b.xn⟩
 ·exact b.old d o (I.base.keep d o e n hd (by rw[hex];simp)) (I.base.free d o e n (by rw[hex];simp)) λz=>hd (low d o e z)
 ·obtain⟨o1,e1⟩:=I.base.there d o e (by rw[hex];simp);rcases b.all d o1 e1 with z|z|z
  ·exact .inl (low d o e z)
  ·exact .inr (.inl z)
  ·exact .inr (.inr z)
theorem Yt:Passes (CX1 P w) (cxOf (CX1 P w) P w K mg base N qual scope f cd A outer s H E) E:=by intro pins σ H1 s1 e s2 I h;obtain⟨x,c,dd,B,H2,rfl,os,bare,un,hok,F,b,hE⟩:=h;have I2:Inv (cxOf (CX1 P w) P w K mg base N qual scope f cd A outer s H E) pins σ H2 s2:=I.call' os un hok bare λb z=>absurd z (by simp);exact LB I2 F (BaseX.up I rfl b) hE
end
noncomputable abbrev bmV:List Value:=[.type "ValueError",.type "Exception",.type "BaseException",.type "object"]
structure XC(K:aa)(C fI Qa:Addr):Prop where
 obj:∃nm q N bs sn sub ab col dd k0 k1 k2 k3 k5,K.lookup C=some (excClassObj nm q C N bs (.ref Qa::bmV) true sn sub ab col dd k0 k1 k2 k3 k5 "ValueError.__new__") /\
  dX K N=true/\bc K N "__init__"=some (some (.ref fI))
 tail:dW K bmV (.ref Qa::bmV)=true
 fn:∃o,K.lookup fI=some o/\o.cls=.type "function"
 sa:ax K (.ref C) "__setattr__"=some (some (.builtin "object.__setattr__"))
 ob:da K C (.type "object")=some true
theorem R6{K:aa}{h:Heap}{N:Addr}{mg:Str->Option Value}{n:Str}{v:Value}(X:K.In h)(G:h.Ns N mg)(e:bc K N n=some (some v)):mg n=some v:=by
 obtain⟨o,es,ep,ho,hd,_,hf⟩:=G;unfold bc at e;split at e
 ·rename_i c d es' n' sl q;have this:=X _ _ q;rw[ho]at this;cases this;cases hd;split at e
  ·rename_i en he;cases e;rw[<-hf];unfold nsFind findBy;rw[<-Array.find?_toList,he];rfl
  ·split at e<;>cases e
 ·cases e
section
variable {prog:Program}{w:World}{A:aX}{E:Value->ag->Prop}{K:aa}{C fI Qa:Addr}{h:Heap}{g:Array GenState}{d:Drawn}{t:Nat}{os:bB}{rest:List Value}
theorem Rz{Q:Fin->ag->Prop}(X:K.In h)(c:XC K C fI Qa)(hz:rest.length<=sizeLine)(hq:∀h' e,h.objs.size<=e->Heap.MadeExcOf h h' e (.ref C) rest->wpAny (model prog w) A (call (.ref fI) (.ref e::rest)) (λr s'=>r=.none/\Q (.done (.ret (.ref e))) s') E ⟨h',g,d,t,os⟩):wpAny (model prog w) A (dG.«type.__call__» ⟨.ref C::rest,[]⟩) Q E ⟨h,g,d,t,os⟩:=by
 obtain⟨nm,q,N,bs,sn,sub,ab,col,dd,k0,k1,k2,k3,k5,lk,nok,hin⟩:=c.obj;obtain⟨oI,lI,cI⟩:=c.fn;have FV:=PySem.F.excBase_ValueError;have hC:=X _ _ lk;have hN:h.Ns N (h.nsMap N):=.of_isNs (PySem.W.isNs_of_in X nok);have hI:h.nsMap N "__init__"=some (.ref fI):=R6 X hN hin;have TL:OwnTail h bmV (.ref Qa::bmV):=PySem.W.tail_of_in X c.tail;repeat (first|with_reducible refine dr hC ?_|(with_reducible refine wpAny_madeBy_exc hC ?_)|wp_step)
 refine codeAny_call_builtin_code (Code.quiet_builtin _ FV.quiet) (wpAny_check_new_subU FV FV.hasB TL hC ?_);refine codeAny_exc_new_subU FV FV.hasB FV TL hC ?_ hz;show wpAny _ _ _ _ _ _;generalize hh1:(h.push {cls:=.type "tuple",data:=.seq rest.toArray}).push {cls:=.ref C,data:=.fields #[.ref h.objs.size,.none,.none,.none,.bool false,.none]}=h1;have k1':∀b o,h.get? b=some o->h1.get? b=some o:=λb o e=>by rw[<-hh1];exact Heap.get?_push_of_some _ (Heap.get?_push_of_some _ e)
 have ge:h1.get? (h.objs.size+1)=some {cls:=.ref C,data:=.fields #[.ref h.objs.size,.none,.none,.none,.bool false,.none]}:=by rw[<-hh1];heap_get
 have gt:h1.get? h.objs.size=some {cls:=.type "tuple",data:=.seq rest.toArray}:=by rw[<-hh1];exact Heap.get?_push_of_some _ (Heap.get?_push_at rfl rfl)
 have hC1:=k1' _ _ hC;have hcC:(Value.ref C::.ref Qa::bmV).contains (.ref C)=true:=by simp
 unfold isInstance;repeat (first|with_reducible refine dr ge ?_|(with_reducible refine wpAny_isSubtype_exc hC1 ?_;rw[hcC])|wp_step)
 show wpAny _ _ (gX (.ref C) _) _ _ _;refine wpAny_typeLookup_tail hC1 (hN.keeps k1') (TL.keeps k1') FV.mroIs FV.init.lookup ?_;rw[hI];refine bz (ae (m:=bindSpecial _ _) ?_);unfold bindSpecial;refine ae (wpAny_typeOf (T:="function") ⟨_,k1' _ _ (X _ _ lI),cI⟩ ?_);rw[if_pos (by decide)];have mk:Heap.MadeExcOf h h1 (h.objs.size+1) (.ref C) rest:=⟨k1',Heap.get?_none_of_le (Nat.le_succ _),h.objs.size,ge,Heap.get?_none_of_le (Nat.le_refl _),gt⟩;refine ao (ae (c5 (hq h1 _ (Nat.le_succ _) mk) (λr s' hr=>?_) λ_ _ z=>z));obtain⟨rfl,hQ⟩:=hr;wp_walk;exact hQ
theorem F5{Q:Value->ag->Prop}(X:K.In h)(c:XC K C fI Qa)(hz:rest.length<=sizeLine)(hq:∀h' e,h.objs.size<=e->Heap.MadeExcOf h h' e (.ref C) rest->wpAny (model prog w) (A.under (.builtin "type.__call__" ⟨.ref C::rest,[]⟩)) (call (.ref fI) (.ref e::rest)) (λr s'=>r=.none/\Q (.ref e) s') E ⟨h',g,d,t,os⟩):wpAny (model prog w) A (call (.ref C) rest) Q E ⟨h,g,d,t,os⟩:=by
 obtain⟨nm,q,N,bs,sn,sub,ab,col,dd,k0,k1,k2,k3,k5,lk,nok,hin⟩:=id c.obj;have hC:=X _ _ lk;have f1:=tc_lookup;have f2:=tc_bind (.ref C);have hT:(⟨h,g,d,t,os⟩:ag).TypeIs (.ref C) "type":=⟨_,hC,rfl⟩;refine wpAny_call (codeAny_of_tree ?_);show wpAny _ _ (callAny (.ref C) _) _ _ _;repeat (any_goals (first|assumption|with_reducible refine dr hC ?_|wp_step))
 refine⟨rfl,codeAny_call_builtin_at (Code.quiet_builtin _ (by decide +kernel)) entry_typeCall (wpAny_check_type_call_sub hC ?_)⟩;exact Rz X c hz λh' e he hm=>hq h' e he hm
theorem P1{x:Addr}{name:Str}{v:Value}{mA:Str->Option Value}{tk:Tok}{Q:Fin->ag->Prop}{ns:List Str}(X:K.In h)(c:XC K C fI Qa)(hna:ax K (.ref C) name=some none)(I:h.Inst x C mA)(hw:Within mA ns)(hz:ns.length<=1000)(hq:∀h' tk',h'.Inst x C (λy=>if y=name then some v else mA y) ->(∀b o,b≠x->(∀o₀ dx,h.get? x=some o₀->o₀.dict=some dx->b≠dx)->h.get? b=some o->h'.get? b=some o) ->(∀o₀,h.get? x=some o₀->∃o₁ d₁,h'.get? x=some o₁/\o₁.cls=o₀.cls/\o₁.data=o₀.data/\o₁.dict=some d₁/\((o₀.dict=some d₁)\/(o₀.dict=none/\h.get? d₁=none)))->Q (.done (.ret .none)) ⟨h',g,d,tk',os⟩):wpAny (model prog w) A (dG.«object.__setattr__» ⟨[.ref x,.str name tk,v],[]⟩) Q E ⟨h,g,d,t,os⟩:=by
 obtain⟨nm,q,N,bs,sn,sub,ab,col,dd,k0,k1,k2,k3,k5,lk,nok,hin⟩:=c.obj;have hC:=X _ _ lk;obtain⟨o,hx,hc,hnc,hd⟩:=I;have hpass:=PySem.F.store_ValueError.passes (.ref x);have LN:=PySem.W.looks_findIn (M:=model prog w) X hna;unfold dG.«object.__setattr__»;repeat (first|rw[refuse_eq]|(rw[refuseLoop_ref,refuseLoop_ref,hpass])|(with_reducible refine dr hx ?_;rw[hc])|(with_reducible refine wpAny_mroOf_exc hC ?_)|(with_reducible refine LN.at ?_)|wp_step)
 rcases hd with⟨hdn,hmA⟩|⟨dx,hdx,hne,hns⟩
 ·rw[hdn,if_neg (by simp[typeHasDict])];split
  ·rename_i hcd;cases hcd
  split
  ·rename_i cc hcd;exact absurd hcd (hnc cc)
  ·have xs:x≠h.objs.size:=Nat.ne_of_lt (Heap.lt_size hx);have dn:h.get? h.objs.size=none:=Heap.get?_none_of_le (Nat.le_refl _);have x1:(h.push {cls:=.type "dict",data:=.dict #[]}).get? x=some o:=Heap.get?_push_of_some _ hx;refine ae (wpAny_alloc' (ae (wpAny_update' x1 (ao ?_))));generalize hU:(h.push {cls:=.type "dict",data:=.dict #[]}).update x (λo=>{cls:=o.cls,dict:=some h.objs.size,data:=o.data,slots:=o.slots})=hu;have gd:hu.get? h.objs.size=some {cls:=.type "dict",data:=.dict #[]}:=by rw[<-hU];exact(Heap.get?_update_ne _ _ _ _ xs.symm).trans (Heap.get?_push_at rfl rfl)
   have gx:hu.get? x=some {cls:=o.cls,dict:=some h.objs.size,data:=o.data,slots:=o.slots}:=by rw[<-hU];refine Heap.get?_update_self _ x1 ?_;have hfr:=(Heap.get?_some_iff.mp hx).2;obtain⟨oc,od,odt,osl⟩:=o;cases odt<;>first|rfl|exact hfr
   have nd:hu.Ns h.objs.size (λ_=>none):=⟨_,#[],_,gd,rfl,λe he=>absurd he (by simp),λ_=>rfl⟩;have ob:∀b u,b≠x->h.get? b=some u->hu.get? b=some u:=λb u hb e=>by rw[<-hU];exact(Heap.get?_update_ne _ _ _ _ hb).trans (Heap.get?_push_of_some _ e)
   show wpAny _ _ (cz h.objs.size (.str name tk) name v) _ _ _;unfold cz fA;refine ae (ao (ae (wpAny_nsSet1 (Heap.Ns1.of_empty nd) λh2 n2 s2=>?_)));obtain⟨oD,esD,epD,hoD,hdD,hcD⟩:=n2.count (Within.cons name v Within.nil);refine ae (wpAny_lookBehind hoD (by rw[hdD];exact pastItsLine_dict (Nat.le_trans hcD (by rw[aN,List.length_nil,d_];omega))) ?_);wp_walk;have gx2:h2.get? x=some {cls:=o.cls,dict:=some h.objs.size,data:=o.data,slots:=o.slots}:=(s2.2 x xs).trans gx;refine hq h2 _ ⟨_,gx2,hc,hnc,.inr ⟨h.objs.size,rfl,xs.symm,?_⟩⟩ (λb u hb _ e=>(s2.2 b (Nat.ne_of_lt (Heap.lt_size e))).trans (ob b u hb e)) λo₀ e₀=>?_
   ·obtain⟨o',es,ep,e1,e2,e3,eu,e4⟩:=n2;exact⟨o',es,ep,e1,e2,e3,eu,λy=>by rw[e4 y];by_cases hy:y=name<;>simp[hy,hmA]⟩
   ·have eo:o=o₀:=ar (hx.symm.trans e₀);subst eo;exact⟨_,h.objs.size,gx2,rfl,rfl,rfl,.inr ⟨hdn,dn⟩⟩
 ·rw[hdx];refine ao ?_;show wpAny _ _ (cz dx (.str name tk) name v) _ _ _;unfold cz fA;refine ae (ao (ae (wpAny_nsSet1 hns λh2 n2 s2=>?_)));obtain⟨oD,esD,epD,hoD,hdD,hcD⟩:=n2.count (Within.cons name v hw);refine ae (wpAny_lookBehind hoD (by rw[hdD];exact pastItsLine_dict (Nat.le_trans hcD (by rw[aN,d_];omega))) ?_);wp_walk;have gx2:=(s2.2 x hne.symm).trans hx;refine hq h2 _ ⟨o,gx2,hc,hnc,.inr ⟨dx,hdx,hne,n2⟩⟩ (λb u _ hbd e=>(s2.2 b (hbd o dx hx hdx)).trans e) λo₀ e₀=>?_;have eo:o=o₀:=ar (hx.symm.trans e₀);subst eo;exact⟨_,dx,gx2,rfl,rfl,hdx,.inl hdx⟩
end
noncomputable def ErrN(x C:Addr)(dd:Option Addr):HO:=.ext λh=>∃o vs,h.get? x=some o/\o.cls=.ref C/\o.dict=dd/\o.data=.fields vs/\1<vs.size/\vs[1]?=some .none
noncomputable def XD(d:Addr)(fs:List (Str×V)):HO:=.ext λh=>∃mA,h.Ns1 d mA/\(∀f,RelO (fs.lookup f) (mA f))/\dq mA (fs.map (·.1))/\fs.length<=1000
section
variable {P:Program}{w:World}{H:Hp}{h:Heap}{x C d:Addr}{dd:Option Addr}{fs:List (Str×V)}
theorem J4:ZP P w H h x (ErrN x C dd)↔∃o vs,h.get? x=some o/\o.cls=.ref C/\o.dict=dd/\o.data=.fields vs/\1<vs.size/\vs[1]?=some .none:=by
 constructor
 ·intro z;exact z.1
 ·rintro ⟨o,vs,hx,r⟩;exact⟨⟨o,vs,hx,r⟩,⟨o,hx⟩,λh1 h2⟨o',vs',e,r'⟩k=>⟨o',vs',k _ e,r'⟩⟩
theorem Kr:ZP P w H h d (XD d fs)↔∃mA,h.Ns1 d mA/\(∀f,RelO (fs.lookup f) (mA f))/\dq mA (fs.map (·.1))/\fs.length<=1000:=by
 constructor
 ·intro z;exact z.1
 ·rintro ⟨mA,⟨o,es,ep,e,r⟩,q⟩;exact⟨⟨mA,⟨o,es,ep,e,r⟩,q⟩,⟨o,e⟩,λh1 h2⟨m,⟨o',es',ep',e',r'⟩,q'⟩k=>⟨m,⟨o',es',ep',k _ e',r'⟩,q'⟩⟩
end
section
variable {X:Cx}{pins:List (Addr×Obj)}{σ:St}{H:Hp}{s:ag}{x C fI Qa:Addr}{name:Str}{y:V}{u:Value}{Q:Unit->ag->Prop}
theorem QI{A:aX}{E:Value->ag->Prop}{mA:Str->Option Value}{ns:List Str}(I:Inv X pins σ H s)(c:XC X.K C fI Qa)(hna:ax X.K (.ref C) name=some none)(In:s.heap.Inst x C mA)(hw:dq mA ns)(hz:ns.length<=1000)(hq:∀h' tk',h'.Inst x C (λz=>if z=name then some u else mA z) ->(∀b o,b≠x->(∀o₀ dx,s.heap.get? x=some o₀->o₀.dict=some dx->b≠dx)->s.heap.get? b=some o->h'.get? b=some o) ->(∀o₀,s.heap.get? x=some o₀->∃o₁ d₁,h'.get? x=some o₁/\o₁.cls=o₀.cls/\o₁.data=o₀.data/\o₁.dict=some d₁/\((o₀.dict=some d₁)\/(o₀.dict=none/\s.heap.get? d₁=none)))->Q () {s with heap:=h',toks:=tk'}):wpAny (model X.prog X.w) A (setAttr (.ref x) name u) Q E s:=by
 have KX:=I.kIn;obtain⟨o,hx,hc,hnc,hd⟩:=id In;have no:PySem.W.notCls o=true:=by
  unfold PySem.W.notCls;split
  ·rename_i cc e;exact absurd e (hnc cc)
  ·rfl
 obtain⟨od,IA⟩:∃od,PySem.W.InstAt s.heap x o C od:=by
  rcases hd with⟨e,_⟩|⟨dx,e,_,oD,es,ep,hD,_⟩
  ·exact⟨none,hx,hc,no,by rw[e];trivial⟩
  ·exact⟨some oD,hx,hc,no,by rw[e];exact hD⟩
 have SF:=PySem.F.store_object;refine PySem.W.set_plain KX IA c.sa ?_;have sub:PySem.W.Looks (model X.prog X.w) s.heap (isInstance (.ref x) (.type "object")) true:=IA.type.andThen (PySem.W.looks_mroIn KX c.ob);refine codeAny_call_builtin SF.slot.plain SF.entry (@PySem.W.check_slot (model X.prog X.w) _ _ {s with toks:=s.toks+1} "object.__setattr__" "object" "__setattr__" (.ref x) [.str name s.toks,u] [] _ SF.kind SF.split sub (SF.args (.ref x) (.str name s.toks) u) ?_);exact P1 (h:=s.heap) (g:=s.gens) (d:=s.drawn) (t:=s.toks+1) (os:=s.os) KX c hna In hw hz λh' tk' I' kk same=>hq h' tk' I' kk same
end
def Vd(H:Hp)(h:Heap)(d:Addr):Prop:=(H d=none/\h.get? d=none)\/∃φ,H d=some (.ext φ)
section
variable {P:Program}{w:World}{H:Hp}{h h':Heap}{x d:Addr}{o1 o2:HO}{fs:List Addr}
theorem Vd.ne{b:Addr}{u:HO}(q:Vd H h d)(e:H b=some u)(hu:∀φ,u≠.ext φ):b≠d:=by
 rintro rfl;rcases q with⟨z,_⟩|⟨φ,z⟩
 ·rw[e]at z;cases z
 ·rw[e]at z;cases z;exact hu φ rfl
theorem Us{b:Addr}(hx:b≠x)(hd:b≠d):upd (upd H d o1) x o2 b=H b:=by rw[Zh hx,Zh hd]
theorem Rb{a:Addr}{o:HO}(z:ZP P w H h a o):∃ob,h.get? a=some ob:=by
 induction o with
|lst xs=>obtain⟨_,_,_,_,e⟩:=z;exact⟨_,e⟩
|tup xs=>obtain⟨_,_,_,ob,e,_⟩:=z;exact⟨_,e⟩
|dK kvs=>obtain⟨_,_,_,_,ob,_,_,e,_⟩:=z;exact⟨_,e⟩
|dT kvs=>obtain⟨_,_,_,_,ob,_,_,e,_⟩:=z;exact⟨_,e⟩
|set S n=>obtain⟨ob,_,_,_,e,_⟩:=z;exact⟨_,e⟩
|ins C dx fs=>obtain⟨_,_,_,e,_⟩:=z;exact⟨_,e⟩
|own y=>exact z
|xd fs=>obtain⟨_,⟨ob,_,_,e,_⟩,_⟩:=z;exact⟨_,e⟩
|rng lo hi=>obtain⟨_,_,_,e⟩:=z;exact⟨_,e⟩
|frz ob u ih=>exact⟨_,z.1⟩
|tbl ps=>exact⟨_,z⟩
|met f y=>exact⟨_,z⟩
|ext φ=>exact z.2.1
theorem Kw(qx:Vd H h x)(qd:Vd H h d)(k:∀b o,b≠x->b≠d->h.get? b=some o->h'.get? b=some o)(xo:∃o,h'.get? x=some o)(dO:∃o,h'.get? d=some o):Un fs [] H (upd (upd H d o1) x o2) h h':=by
 have off:∀{z:Addr},Vd H h z->∀b o,h.get? b=some o->H b=none->b≠z:=by
  intro z q b o e n;rintro rfl;rcases q with⟨_,y⟩|⟨φ,y⟩
  ·rw[e]at y;cases y
  ·rw[n]at y;cases y
 refine⟨λb o e n _ _=>k b o (off qx b o e n) (off qd b o e n) e,λb o e n _ _=>⟨o.slots,k b o (off qx b o e n) (off qd b o e n) e⟩,λb o e n _=>(Us (off qx b o e n) (off qd b o e n)).trans n,λb o e _=>?_,λb xs e=>(Us (qx.ne e (by simp)) (qd.ne e (by simp))).trans e,λb o u e=>(Us (qx.ne e (by simp)) (qd.ne e (by simp))).trans e,λb ps e=>⟨#[],(Us (qx.ne e (by simp)) (qd.ne e (by simp))).trans (by simpa using e)⟩⟩;by_cases hx:b=x
 ·exact hx▸xo
 ·by_cases hd:b=d
  ·exact hd▸dO
  ·exact⟨o,k b o hx hd e⟩
theorem TZ(ok:HOk P w H h)(qx:Vd H h x)(qd:Vd H h d)(ne:d≠x)(k:∀b o,b≠x->b≠d->h.get? b=some o->h'.get? b=some o)(nx:ZP P w (upd (upd H d o1) x o2) h' x o2)(nd:ZP P w (upd (upd H d o1) x o2) h' d o1):HOk P w (upd (upd H d o1) x o2) h':=λb u e=>by
 by_cases hx:b=x
 ·subst hx;rw[Zd]at e;cases e;exact nx
 ·by_cases hd:b=d
  ·subst hd;rw[Zh ne,Zd]at e;cases e;exact nd
  ·rw[Us hx hd]at e;refine(ok b u e).stay (λc v hc q=>?_) (λc q=>(Us (qx.ne q (by simp)) (qd.ne q (by simp))).trans q) λc xs q=>(Us (qx.ne q (by simp)) (qd.ne q (by simp))).trans q;rcases hc with rfl|hc
   ·exact k _ v hx hd q
   ·exact k _ v (qx.ne hc (by simp)) (qd.ne hc (by simp)) q
end
section
variable {X:Cx}{pins:List (Addr×Obj)}{σ:St}{H:Hp}{s:ag}{x C fI Qa:Addr}{f:Str}{y:V}{u:Value}{Q:Unit->ag->Prop}
theorem PH{dd:Option Addr}{h:Heap}(e:H x=some (ErrN x C dd)):Vd H h x:=.inr ⟨_,e⟩
theorem Q2{fs:List (Str×V)}{mA:Str->Option Value}(r:∀g,RelO (fs.lookup g) (mA g))(ry:RelV y u)(g:Str):RelO ((putF f y fs).lookup g) (if g=f then some u else mA g):=by
 rw[Zn];by_cases q:g=f
 ·rw[if_pos q,if_pos q];exact ry
 ·rw[if_neg q,if_neg q];exact r g
theorem Ni{fs:List (Str×V)}{mA:Str->Option Value}(wi:dq mA (fs.map (·.1))):dq (λg=>if g=f then some u else mA g) ((putF f y fs).map (·.1)):=λg hg=>by
 by_cases q:g=f
 ·rw[q];exact(JL f y fs).1
 ·refine(JL f y fs).2 g (wi g λz=>hg ?_);show(if g=f then some u else mA g)=none;rw[if_neg q];exact z
theorem Kp{A:aX}{E:Value->ag->Prop}(I:Inv X pins σ H s)(c:XC X.K C fI Qa)(hna:ax X.K (.ref C) f=some none)(e:H x=some (ErrN x C none))(ry:RelV y u)(h:∀d s',d≠x->H d=none->Inv X pins σ (upd (upd H d (XD d [(f,y)])) x (ErrN x C (some d))) s'->Q () s'):wpAny (model X.prog X.w) A (setAttr (.ref x) f u) Q E s:=by
 obtain⟨o,vs,hx,hc,hdd,hd,hz,h1⟩:=J4.mp (I.hok x _ e);have In:s.heap.Inst x C (λ_=>none):=⟨o,hx,hc,(λcc q=>by rw[hd]at q;cases q),.inl ⟨hdd,λ_=>rfl⟩⟩;refine QI (ns:=[]) I c hna In (λg hg=>absurd rfl hg) (Nat.zero_le _) λh' tk' I' k same=>?_;obtain⟨o₁,d₁,hx',c1,dt1,dd1,sd⟩:=same o hx;have dn:s.heap.get? d₁=none:=by
  rcases sd with z|⟨_,z⟩
  ·rw[hdd]at z;cases z
  ·exact z
 obtain⟨o',hx2,_,_,hdx⟩:=I';have eo:o'=o₁:=ar (hx2.symm.trans hx');subst eo;have Hd:H d₁=none:=by
  cases q:H d₁ with
 |none=>rfl
 |some v=>
   obtain⟨ob,z⟩:∃ob,s.heap.get? d₁=some ob:=by have:=I.hok _ _ q;exact Rb this
   rw[dn]at z;cases z
 rcases hdx with⟨z,_⟩|⟨dx,z,ne,ns⟩
 ·rw[dd1]at z;cases z
 ·have ed:d₁=dx:=by rw[dd1]at z;exact ar z
  subst ed;have kk:∀b ob,b≠x->b≠d₁->s.heap.get? b=some ob->h'.get? b=some ob:=λb ob hb _ q=>k b ob hb (λo₀ dx' e0 e1=>by rw[hx]at e0;cases e0;rw[hdd]at e1;cases e1) q;have qx:Vd H s.heap x:=PH e;have qd:Vd H s.heap d₁:=.inl ⟨Hd,dn⟩;have nd:ZP X.prog X.w (upd (upd H d₁ (XD d₁ [(f,y)])) x (ErrN x C (some d₁))) h' d₁ (XD d₁ [(f,y)]):=Kr.mpr ⟨_,ns,λg=>Q2 (fs:=[]) (mA:=λ_=>none) (λ_=>bK) ry g,Ni (fs:=[]) λg hg=>absurd rfl hg,by simp⟩;have nx:ZP X.prog X.w (upd (upd H d₁ (XD d₁ [(f,y)])) x (ErrN x C (some d₁))) h' x (ErrN x C (some d₁)):=J4.mpr ⟨o',vs,hx',c1.trans hc,dd1,dt1.trans hd,hz,h1⟩;obtain⟨oD,_,_,hoD,_⟩:=id ns;exact h d₁ _ ne Hd (I.un (Kw qx qd kk ⟨_,hx'⟩ ⟨_,hoD⟩) (TZ I.hok qx qd ne kk nx nd))
theorem Wo{A:aX}{E:Value->ag->Prop}{d:Addr}{fs:List (Str×V)}(I:Inv X pins σ H s)(c:XC X.K C fI Qa)(hna:ax X.K (.ref C) f=some none)(e:H x=some (ErrN x C (some d)))(ed:H d=some (XD d fs))(ne:d≠x)(hl:fs.length<1000)(ry:RelV y u)(h:∀s',Inv X pins σ (upd (upd H d (XD d (putF f y fs))) x (ErrN x C (some d))) s'->Q () s'):wpAny (model X.prog X.w) A (setAttr (.ref x) f u) Q E s:=by
 obtain⟨o,vs,hx,hc,hdd,hd,hz,h1⟩:=J4.mp (I.hok x _ e);obtain⟨mA,ns,r,wi,_⟩:=Kr.mp (I.hok d _ ed);have In:s.heap.Inst x C mA:=⟨o,hx,hc,(λcc q=>by rw[hd]at q;cases q),.inr ⟨d,hdd,ne,ns⟩⟩;refine QI (ns:=fs.map (·.1)) I c hna In wi (by rw[aZ];omega) λh' tk' I' k same=>?_;obtain⟨o₁,d₁,hx',c1,dt1,dd1,sd⟩:=same o hx;have e1:d₁=d:=by
  rcases sd with z|⟨z,_⟩
  ·rw[hdd]at z;exact(ar z).symm
  ·rw[hdd]at z;cases z
 subst e1;obtain⟨o',hx2,_,_,hdx⟩:=I';have eo:o'=o₁:=ar (hx2.symm.trans hx');subst eo;rcases hdx with⟨z,_⟩|⟨dx,z,_,ns'⟩
 ·rw[dd1]at z;cases z
 ·have ed':d₁=dx:=by rw[dd1]at z;exact ar z
  subst ed';have kk:∀b ob,b≠x->b≠d₁->s.heap.get? b=some ob->h'.get? b=some ob:=λb ob hb hbd q=>k b ob hb (λo₀ dx' e0 e1=>by rw[hx]at e0;cases e0;rw[hdd]at e1;cases e1;exact hbd) q;have qx:Vd H s.heap x:=PH e;have qd:Vd H s.heap d₁:=.inr ⟨_,ed⟩;have nd:ZP X.prog X.w (upd (upd H d₁ (XD d₁ (putF f y fs))) x (ErrN x C (some d₁))) h' d₁ (XD d₁ (putF f y fs)):=Kr.mpr ⟨_,ns',λg=>Q2 r ry g,Ni wi,by have:=Ye f y fs;omega⟩;have nx:ZP X.prog X.w (upd (upd H d₁ (XD d₁ (putF f y fs))) x (ErrN x C (some d₁))) h' x (ErrN x C (some d₁)):=J4.mpr ⟨o',vs,hx',c1.trans hc,dd1,dt1.trans hd,hz,h1⟩;obtain⟨oD,_,_,hoD,_⟩:=id ns';exact h _ (I.un (Kw qx qd kk ⟨_,hx'⟩ ⟨_,hoD⟩) (TZ I.hok qx qd ne kk nx nd))
def Hr(K:aa)(ta tv:TE)(f:Str):TS:=λD σ H=>tv σ H λy H1=>ta σ H1 λx H2=>∃a C fI Qa,x=.ref a/\H2 a=some (ErrN a C none)/\XC K C fI Qa/\ax K (.ref C) f=some none /\∀d,d≠a->H2 d=none->D.nx σ (upd (upd H2 d (XD d [(f,y)])) a (ErrN a C (some d)))
def Hs(K:aa)(ta tv:TE)(f:Str):TS:=λD σ H=>tv σ H λy H1=>ta σ H1 λx H2=>∃a C fI Qa d fs,x=.ref a/\H2 a=some (ErrN a C (some d))/\H2 d=some (XD d fs)/\d≠a/\fs.length<1000/\XC K C fI Qa/\ax K (.ref C) f=some none /\D.nx σ (upd (upd H2 d (XD d (putF f y fs))) a (ErrN a C (some d)))
section
variable {o value:Expr}{pos pos':Pos}{ta tv:TE}
theorem TH(ha:PE X o ta)(hv:PE X value tv)(hs:eZ value (some (.Attribute o f pos')) pos.line X.env=pure false):PS X (.Assign [.Attribute o f pos'] value pos) (Hr X.K ta tv f):=by intro pins s σ H D I h;refine dR (thn (hv pins s σ H _ I h) λu s1⟨y,H1,I1,ry,q⟩=>thn (ha pins s1 σ H1 _ I1 q) λov s2 hZ=>?_) hs;obtain⟨x,H2,I2,rx,a,C,fI,Qa,ex,ea,c,n,q2⟩:=hZ;subst ex;obtain rfl:ov=Value.ref a:=rx;exact Kp I2 c n ea ry λd s3 ne hn I3=>⟨σ,_,I3,q2 d ne hn⟩
theorem TJ(ha:PE X o ta)(hv:PE X value tv)(hs:eZ value (some (.Attribute o f pos')) pos.line X.env=pure false):PS X (.Assign [.Attribute o f pos'] value pos) (Hs X.K ta tv f):=by intro pins s σ H D I h;refine dR (thn (hv pins s σ H _ I h) λu s1⟨y,H1,I1,ry,q⟩=>thn (ha pins s1 σ H1 _ I1 q) λov s2 hZ=>?_) hs;obtain⟨x,H2,I2,rx,a,C,fI,Qa,d,fs,ex,ea,ed,ne,hl,c,n,q2⟩:=hZ;subst ex;obtain rfl:ov=Value.ref a:=rx;exact Wo I2 c n ea ed ne hl ry λs3 I3=>⟨σ,_,I3,q2⟩
end
end
section
variable {X:Cx}{CX:CXT}{k:Nat}{f C Qa:Addr}{fd:bN}{ps:List Str}{sp:Sp}{dvs:List V}{ds:List Value}{E:XK}{x m:Str}{p pos apos:Pos}{e o:Expr}{es:List Expr}{ta:TE}{t:TA}
theorem Ww{pins:List (Addr×Obj)}{σ:St}{H:Hp}{s:ag}{Q:VK}{us:List Value}{vs:List V}(c:XC X.K C f Qa)(F:FnOk X.prog X.w X.K X.mg X.base CX k f fd ps sp)(hr:Room (k+1) X.A)(hb:Binds X.K fd ps ds)(hd:Vals dvs ds)(hx:Passes CX X E)(I:Inv X pins σ H s)(r:Vals vs us)(hz:us.length<=sizeLine)(h:∀x,H x=none->sp (.ref x::(vs++dvs)) (upd H x (ErrN x C none)) (λv H2=>v=.non/\Q (.ref x) H2) E):wpAny (model X.prog X.w) X.A (call (.ref C) us) (EP X pins σ Q) X.xe s:=by
 refine F5 (h:=s.heap) (g:=s.gens) (d:=s.drawn) (t:=s.toks) (os:=s.os) I.kIn c hz λh' a ha mk=>?_;obtain⟨kk,_,T,ge,_,_⟩:=mk;have hq:=h a (I.hok.fresh ha);have I2:Inv X pins σ (upd H a (ErrN a C none)) {s with heap:=h'}:=I.laid (t':=s.toks) kk ha (J4.mpr ⟨_,_,ge,rfl,rfl,rfl,by simp,by simp⟩);have r2:Vals (V.ref a::(vs++dvs)) (Value.ref a::(us++ds)):=.cons rfl (r.append hd);have hl:(Value.ref a::us++ds).length=ps.length:=by have e:=r2.length;rw[F.len _ _ _ _ hq]at e;exact e.symm
 refine wpAny_call (fX (F.run _ X.stack {s with heap:=h'} _ ⟨Value.ref a::us,[]⟩ (Value.ref a::(us++ds)) _ _ E (hr.make C us []) (I2.env0.make C us []) (hb _ (Value.ref a::us) I2.kIn hl) r2 hq) λr s' hq'=>?_);cases r with
|error e=>exact hx pins σ _ _ e s' I2 hq'
|ok fl=>
  cases fl with
 |ret u=>obtain⟨v,H',I3,rv,ev,q3⟩:=I2.after hq';subst ev;exact⟨rv,⟨V.ref a,H',I3,rfl,q3⟩⟩
 |next=>exact bQ hq'
 |brk=>exact bQ hq'
 |cont=>exact bQ hq'
end
noncomputable def del(H:Hp)(a:Addr):Hp:=λb=>if b=a then none else H b
theorem VG{H:Hp}{a:Addr}:del H a a=none:=by simp[del]
theorem Jx{H:Hp}{a b:Addr}(h:b≠a):del H a b=H b:=by simp[del,h]
section
variable {M:Model}{A:aX}{E:Value->ag->Prop}{env:Env}{K:aa}
theorem WA{s:ag}{x:Sem Value}{Q:Flow->ag->Prop}(hh:A.handled=none)(h:wpAny M A x (λv s₁=>∃e oe C fI Qa vs,v=.ref e/\XC K C fI Qa/\K.In s₁.heap/\s₁.heap.get? e=some oe/\oe.cls=.ref C/\oe.data=.fields vs/\vs[1]?=some .none/\E (.ref e) s₁) E s):wpAny M A (raiseStmt env (some x) none) Q E s:=by
 unfold raiseStmt;refine ae (c5 h (λv s₁ h₁=>?_) λ_ _ x=>x);obtain⟨e,⟨oc,od,odt,osl⟩,C,fI,Qa,vs,rfl,c,KI,he,hc,hvs,h1,hE⟩:=h₁;obtain rfl:oc=.ref C:=hc;obtain rfl:odt=.fields vs:=hvs;obtain⟨hp,g,d,tk,os⟩:=s₁;obtain⟨nm,q,N,bs,sn,sub,ab,col,dd,k0,k1,k2,k3,k5,lk,nok,hin⟩:=id c.obj;have hC:=KI _ _ lk;have hcB:(Value.ref C::.ref Qa::bmV).contains (.type "BaseException")=true:=by rw[gB,gB,show bmV.contains (.type "BaseException")=true from by decide,Bool.or_true,Bool.or_true]
 repeat (first|with_reducible refine dr he ?_|with_reducible refine dr hC ?_|(with_reducible refine wpAny_isSubtype_exc hC ?_;rw[hcB])|wp_step)
 show wpAny M A (match vs[1]? with|some x=>pure x|none=>unsupported "internal:no-such-field") _ _ _
 rw[h1];refine ao ?_;show wpAny M A (if(Value.none != Value.none)=true then _ else pure ()) _ _ _;rw[if_neg (by decide)];exact ao (wpAny_raiseNew_none hh hE)
end
section
variable {X:Cx}{pins:List (Addr×Obj)}{σ:St}{H:Hp}{s:ag}{a C:Addr}{dd:Option Addr}{E:XK}
theorem raised(I:Inv X pins σ H s)(e:H a=some (ErrN a C dd))(hE:E (.ref C) dd (del H a)):CX1 X.prog X.w X.stack H s E (.ref a) s:=by
 obtain⟨o,vs,hx,hc,hdd,hd,hz,h1⟩:=J4.mp (I.hok a _ e);have na:∀b u,H b=some u->(∀φ,u≠.ext φ)->b≠a:=λb u q n z=>by subst z;rw[e]at q;cases q;exact n _ rfl
 have fr:a∉frs X.stack:=λz=>by rw[I.stkFree a z]at e;cases e
 have hB:∀b o',s.heap.get? b=some o'->b≠a->b∉frs X.stack->(fv s.heap (a::frs X.stack)).get? b=some o':=λb o' q n1 n2=>PySem.W.hideAll_get _ q λz=>by
  rcases aA.mp z with z|z
  ·exact n1 z
  ·exact n2 z
 refine⟨a,.ref C,dd,fv s.heap (a::frs X.stack),del H a,rfl,rfl,I.bare,⟨λb o q _ _ _=>q,λb o q _ _ _=>⟨o.slots,q⟩,λb o q n _=>?_,λb o q _=>⟨o,q⟩,λb xs q=>(Jx (na b _ q (by simp))).trans q,λb o u q=>(Jx (na b _ q (by simp))).trans q,λb ps q=>⟨#[],by rw[Jx (na b _ q (by simp))];simpa using q⟩⟩,?_,?_,?_,hE⟩
 ·by_cases hb:b=a
  ·rw[hb];exact VG
  ·rw[Jx hb];exact n
 ·intro b u q;have hb:b≠a:=λz=>by rw[z,VG]at q;cases q
  rw[Jx hb]at q;exact(I.hok b u q).stay (λ_ _ _ z=>z) (λc z=>(Jx (na c _ z (by simp))).trans z) λc xs z=>(Jx (na c _ z (by simp))).trans z
 ·refine⟨λb u q=>PySem.W.of_hideAll _ q,fM _ (.head _),?_,o,vs,hx,hc,hdd,hd,hz,.inl ⟨h1,rfl⟩⟩;have go:∀l:List Env,(∀b∈frs l,b∈a::frs X.stack)->s.heap.FunFrames X.base l->s.heap.FunFrames (fv s.heap (a::frs X.stack)) l:=by
   intro l;induction l with
  |nil=>intro _ _;trivial
  |cons env r ih=>
    intro hs ⟨hk,⟨L,oL,hf,hn,ho,hnd⟩,hr⟩;have hL:frs (env::r)=L::frs r:=by unfold frs;rw[dZ,hf]
    exact⟨hk,⟨L,oL,hf,fM _ (hs L (by rw[hL];exact .head _)),ho,hnd⟩,ih (λb hb=>hs b (by rw[hL];exact .tail _ hb)) hr⟩
  exact go X.stack (λb hb=>.tail _ hb) I.stack
 ·refine⟨λb u q=>?_,λb o' q n hb=>hB b o' q (λz=>by rw[z,e]at n;cases n) hb,λb o' q=>?_,VG⟩
  ·have hb:b≠a:=λz=>by rw[z,VG]at q;cases q
   rw[Jx hb]at q;obtain⟨o',z⟩:=Rb (I.hok b u q);exact⟨o',hB b o' z hb λm=>by rw[I.stkFree b m]at q;cases q⟩
  ·by_cases hb:b=a
   ·exact .inr (.inl hb)
   ·by_cases hf:b∈frs X.stack
    ·exact .inl hf
    ·exact .inr (.inr ⟨o',hB b o' q hb hf⟩)
end
noncomputable def ErrC(x C:Addr)(dd:Option Addr):HO:=.ext λh=>∃o vs,h.get? x=some o/\o.cls=.ref C/\o.dict=dd/\o.data=.fields vs
structure XB(K:aa)(D:Addr):Prop where
 obj:∃nm q N bs bm hd sn sub ab col dd k0 k1 k2 k3 k5 nid,K.lookup D=some (excClassObj nm q D N bs bm hd sn sub ab col dd k0 k1 k2 k3 k5 nid)/\bm.contains (.type "BaseException")=true
def Hd(X:Cx)(hs:List ExceptHandler)(th:Addr->Addr->Option Addr->TS):Prop:=∀(pins:List (Addr×Obj))(s:ag)(σ:St)(H:Hp)(D:Ends)(x C:Addr)(dd:Option Addr)(B:Heap),Inv X pins σ H s->H x=some (ErrC x C dd)->RecX B x (.ref C) dd .none s.heap->th x C dd D σ H ->wpAny (model X.prog X.w) X.A (handleBy (.ref x) X.env hs) (SP X pins D) X.xe s
structure XR(K:aa)(C:Addr):Prop where
 ga:ax K (.ref C) "__getattribute__"=some (some (.builtin "BaseException.__getattribute__"))
 gg:ax K (.ref C) "__getattr__"=some none
 hd:cD K C=true
 be:da K C (.type "BaseException")=some true
section
variable {P:Program}{w:World}{K:aa}{mg:Str->Option Value}{base:Heap}
theorem Fun.okX{x qual:Str}{st:Stmt}{f:Addr}{fd:bN}{N ps:List Str}{k:Nat}{sp:Sp}(F:Fun K x qual st f fd)(S:FnScope N ps (Zb st))(len:∀vs H Q E,sp vs H Q E->vs.length=ps.length)(hbody:∀(cdv:Value)(A:aX)(outer:List Env)(s:ag)(H:Hp)(vs:List V)(Q:VK)(E:XK),Room k (A.deeper (de qual (Zb st) s.heap.objs.size f cdv))->sp vs H Q E ->∃t,PSs (cxOf (CX1 P w) P w K mg base N qual (Zb st) f cdv A outer s H E) (ZH st) t/\t {nx:=λ_ H'=>Q .non H',rt:=Q} (start N vs) H):FnOk P w K mg base (CX1 P w) (k+1) f fd ps sp:=by obtain⟨oc,od,kV,doc,pm,an,cdv,ct,osl,rfl,lk,hcd⟩:=F.ex;exact EJ lk hcd S len λA outer s H vs Q E hr hsp=>hbody cdv A outer s H vs Q E hr hsp
def CanX(P:Program)(w:World)(K:aa)(mg:Str->Option Value)(base:Heap)(k:Nat)(x:Str)(ps:List Str)(sp:Sp):Prop:=∃f fd,FnOk P w K mg base (CX1 P w) k f fd ps sp/\mg x=some (.ref f)/\aU K (.ref f)=true/\Binds K fd ps []
theorem CanX.mono{j k:Nat}{x:Str}{ps:List Str}{sp:Sp}(C:CanX P w K mg base j x ps sp)(h:j<=k):CanX P w K mg base k x ps sp:=by obtain⟨f,fd,F,r⟩:=C;exact⟨f,fd,F.mono h,r⟩
theorem Df.canX{x:Str}{st:Stmt}{N ps:List Str}{k:Nat}{sp:Sp}(D:Df K mg x st ps)(S:FnScope N ps (Zb st))(len:∀vs H Q E,sp vs H Q E->vs.length=ps.length)(hbody:∀(f:Addr)(cdv:Value)(A:aX)(outer:List Env)(s:ag)(H:Hp)(vs:List V)(Q:VK)(E:XK),Room k (A.deeper (de x (Zb st) s.heap.objs.size f cdv))->sp vs H Q E ->∃t,PSs (cxOf (CX1 P w) P w K mg base N x (Zb st) f cdv A outer s H E) (ZH st) t/\t {nx:=λ_ H'=>Q .non H',rt:=Q} (start N vs) H):CanX P w K mg base (k+1) x ps sp:=by obtain⟨f,fd,F,m,b⟩:=D;exact⟨f,fd,F.okX S len (λcdv A outer s H vs Q E hr h=>hbody f cdv A outer s H vs Q E hr h),m,F.kp,b⟩
end
section
variable {X:Cx}{E:XK}
theorem Jp{k:Nat}{x:Str}{ps:List Str}{sp:Sp}{p pos:Pos}{e:Expr}{es:List Expr}{t:TA}(C:CanX X.prog X.w X.K X.mg X.base k x ps sp)(hx:Passes (CX1 X.prog X.w) X E)(hr:Room k X.A)(hg:Gl X x)(ha:PA X (e::es) t)(hdb:(x==("__debug__":Str))=false:=by decide)(he:aD (e::es) X.env=(false,eval e X.env)::aD es X.env:=by rfl)(hpl:(cw pos (aD es X.env)).any (·.1)=false:=by rfl):PE X (.Call (.Name x p) (e::es) [] pos) (Pn sp [] E t):=by obtain⟨f,fd,F,m,kp,b⟩:=C;exact TM F hr hg m kp b .nil hx ha hdb he hpl
end
def RN(C:Addr)(names:List Str):Sp:=λvs H Q _=>∃a xs,vs=.ref a::xs/\xs.length=names.length/\H a=some (ErrN a C none) /\∀H' d,d≠a->H d=none->H' a=some (ErrN a C (some d))->H' d=some (XD d (names.zip xs))->(∀b,b≠a->b≠d->H' b=H b)->Q .non H'
structure Err(P:Program)(w:World)(K:aa)(mg:Str->Option Value)(base:Heap)(x:Str)(names:List Str)(C:Addr):Prop where
 xc:∃fI Qa fd ps,XC K C fI Qa/\FnOk P w K mg base CX0 1 fI fd ps (RN C names)/\ps.length<=1000/\Binds K fd ps []
 xr:XR K C
 mg:mg x=some (.ref C)
 kp:aU K (.ref C)=true
section
variable {X:Cx}{E:XK}{x:Str}{names:List Str}{C:Addr}{p cpos pos:Pos}{e:Expr}{es:List Expr}{t:TA}
def DG(C:Addr)(names:List Str)(t:TA)(E:XK):TS:=λ_ σ H=>t σ H λvs H1=>vs.length=names.length/\∀H' d,H1 d=none->H' d=some (XD d (names.zip vs))->(∀b,b≠d->H' b=H1 b)->E (.ref C) (some d) H'
theorem Xk(R:Err X.prog X.w X.K X.mg X.base x names C)(hx:Passes (CX1 X.prog X.w) X E)(hcalm:X.calm=true)(hr:Room 2 X.A)(hg:Gl X x)(ha:PA X (e::es) t)(hdb:(x==("__debug__":Str))=false:=by decide)(he:aD (e::es) X.env=(false,eval e X.env)::aD es X.env:=by rfl)(hpl:(cw cpos (aD es X.env)).any (·.1)=false:=by rfl):PS X (.Raise (some (.Call (.Name x p) (e::es) [] cpos)) none pos) (DG C names t E):=by
 obtain⟨fI,Qa,fd,ps,xc,F,hn,hb⟩:=R.xc;intro pins s σ H D I h;rw[arm_exec_Raise];refine ae (d5 ?_);refine WA (K:=X.K) (I.ok.hd hcalm) (ae (c5 (di (Na I hg R.mg ?_ hdb)) (λu s1 q=>ae (d5 (ao q))) λ_ _ z=>z));refine dA (h₀:=X.base) I.ok.mod.kin R.kp (thn (ha cpos pins s σ H _ I h) λus s1⟨vs,H1,I1,r,hl,q⟩=>⟨I1.kIn,?_⟩) he hpl;refine thn (Ww (k:=1) (E:=E0) (Q:=λv H2=>∃a d H',v=.ref a/\H2 a=some (ErrN a C (some d))/\del H2 a=H'/\E (.ref C) (some d) H') (dvs:=[]) (ds:=[]) xc F hr hb .nil YM I1 r ?_ λa ha'=>?_) λu s2 q2=>?_
 ·rw[d_];have e1:=r.length;have e2:=F.len (.ref s1.heap.objs.size::vs) (upd H1 s1.heap.objs.size (ErrN s1.heap.objs.size C none)) (λ_ _=>True) E0 ⟨_,vs,rfl,hl,Zd ..,λ_ _ _ _ _ _ _=>trivial⟩;rw[aN]at e2;have e3:us.length=vs.length:=e1.symm;show us.length<=_;omega
 ·rw[aT];refine⟨a,vs,rfl,hl,Zd ..,λH' d hne hd h1 h2 h3=>⟨rfl,a,d,_,rfl,h1,rfl,q (del H' a) d ?_ ?_ ?_⟩⟩
  ·rwa [Zh hne]at hd
  ·rw[Jx hne];exact h2
  ·intro b hb;by_cases hba:b=a
   ·rw[hba,VG,ha']
   ·rw[Jx hba,h3 b hba hb,Zh hba]
 ·obtain⟨v,H2,I2,rv,a,d,H',ev,ea,eH,hE⟩:=q2;subst ev;obtain rfl:u=Value.ref a:=rv;obtain⟨o,vs',hx',hc,hdd,hd,hz,h1⟩:=J4.mp (I2.hok a _ ea);exact⟨a,o,C,fI,Qa,vs',rfl,xc,I2.kIn,hx',hc,hd,h1,hx pins σ H2 s2 _ s2 I2 (raised I2 ea (by rw[eH];exact hE))⟩
end
noncomputable def UQ(f v:Str)(p1 p2 p3 p4:Pos):Stmt:=.Assign [.Attribute (.Name "self" p1) f p2] (.Name v p3) p4
theorem Vu{N ps:List Str}{sc:Scope}(S:FnScope N ps sc){x:Str}(h:x∈ps):Vis sc x:=by
 rcases S.par x h with z|z
 ·exact .inl z
 ·exact .inr (.inl z)
section
variable {P:Program}{w:World}{K:aa}{mg:Str->Option Value}{base:Heap}{fI C Qa:Addr}{fd:bN}{qual f1 v1 f2 v2 f3 v3:Str}{st:Stmt}{p1 p2 p3 p4 q1 q2 q3 q4 r1 r2 r3 r4:Pos}
def Plain(x:Str):Prop:=(x==("__debug__":Str))=false/\(x==("__classdict__":Str))=false
theorem HS(F:Fun K "__init__" qual st fI fd)(S:FnScope ["self",v1] ["self",v1] (Zb st))(hb:ZH st=[UQ f1 v1 p1 p2 p3 p4])(pl:Plain v1)(xc:XC K C fI Qa)(n1:Ys K C f1):FnOk P w K mg base CX0 1 fI fd ["self",v1] (RN C [f1]):=by
 refine F.ok (k:=0) S (λvs H Q E h=>?_) λcdv A outer s H vs Q E hr h=>?_
 ·obtain⟨a,xs,rfl,hl,_⟩:=h;rw[aN,hl];rfl
 ·obtain⟨a,xs,rfl,hl,hH,k⟩:=h;obtain⟨y,rfl⟩:=len1 hl;rw[hb];refine⟨_,Zi (TH (JX (i:=0) rfl (Vu S (by simp)) (by decide) (by decide)) (JX (i:=1) rfl (Vu S (by simp)) pl.1 pl.2) rfl),?_⟩;refine⟨y,rfl,.ref a,rfl,a,C,fI,Qa,rfl,hH,xc,n1,λd hne hd=>?_⟩;exact k _ d hne hd (Zd ..) (by rw[Zh hne,Zd];rfl) λb hb1 hb2=>by rw[Zh hb1,Zh hb2]
theorem HR(F:Fun K "__init__" qual st fI fd)(S:FnScope ["self",v1,v2,v3] ["self",v1,v2,v3] (Zb st))(hb:ZH st=[UQ f1 v1 p1 p2 p3 p4,UQ f2 v2 q1 q2 q3 q4,UQ f3 v3 r1 r2 r3 r4])(pl1:Plain v1)(pl2:Plain v2)(pl3:Plain v3)(xc:XC K C fI Qa)(n1:Ys K C f1)(n2:Ys K C f2)(n3:Ys K C f3)(h12:f1≠f2)(h13:f1≠f3)(h23:f2≠f3):FnOk P w K mg base CX0 1 fI fd ["self",v1,v2,v3] (RN C [f1,f2,f3]):=by
 refine F.ok (k:=0) S (λvs H Q E h=>?_) λcdv A outer s H vs Q E hr h=>?_
 ·obtain⟨a,xs,rfl,hl,_⟩:=h;rw[aN,hl];rfl
 ·obtain⟨a,xs,rfl,hl,hH,k⟩:=h;obtain⟨y,z,u,rfl⟩:=len3 hl;rw[hb];refine⟨_,Ze (TH (JX (i:=0) rfl (Vu S (by simp)) (by decide) (by decide)) (JX (i:=1) rfl (Vu S (by simp)) pl1.1 pl1.2) rfl) (Ze (TJ (JX (i:=0) rfl (Vu S (by simp)) (by decide) (by decide)) (JX (i:=2) rfl (Vu S (by simp)) pl2.1 pl2.2) rfl) (Zi (TJ (JX (i:=0) rfl (Vu S (by simp)) (by decide) (by decide)) (JX (i:=3) rfl (Vu S (by simp)) pl3.1 pl3.2) rfl))),?_⟩;refine⟨y,rfl,.ref a,rfl,a,C,fI,Qa,rfl,hH,xc,n1,λd hne hd=>?_⟩;refine⟨z,rfl,.ref a,rfl,a,C,fI,Qa,d,[(f1,y)],rfl,Zd ..,by rw[Zh hne,Zd],hne,by simp,xc,n2,?_⟩;refine⟨u,rfl,.ref a,rfl,a,C,fI,Qa,d,putF f2 z [(f1,y)],rfl,Zd ..,by rw[Zh hne,Zd],hne,by simp[putF,h12],xc,n3,?_⟩;refine k _ d hne hd (Zd ..) ?_ λb hb1 hb2=>by rw[Zh hb1,Zh hb2,Zh hb1,Zh hb2,Zh hb1,Zh hb2]
  rw[Zh hne,Zd];show some (XD d (putF f3 u (putF f2 z [(f1,y)])))=_;simp[putF,h12,h13,h23]
end
structure XK1(K:aa)(mg:Str->Option Value)(x:Str)(C fI Qa:Addr):Prop where
 xc:XC K C fI Qa
 xr:XR K C
 xb:XB K C
 mg:mg x=some (.ref C)
 kp:aU K (.ref C)=true
section
variable {K:aa}{σ:St}{H:Hp}{Q:VK}{i:Nat}{n:Int}{p:Addr}{xs:List V}{v:V}
theorem iaL(hp:H p=some (.lst xs))(hj:atI xs n=some v)(k:Q v H)(hv:σ[i]?=some (some (.ref p)):=by rfl):tOp (rIxL K) (tVar i) (tC (.int n)) σ H Q:=⟨_,hv,p,xs,n,v,rfl,rfl,SqL.of hp,hj,k⟩
theorem iaT(hp:H p=some (.tup xs))(hj:atI xs n=some v)(k:Q v H)(hv:σ[i]?=some (some (.ref p)):=by rfl):tOp (rIxT K) (tVar i) (tC (.int n)) σ H Q:=⟨_,hv,p,xs,n,v,rfl,rfl,SqT.of hp,hj,k⟩
theorem ixL(j:Nat)(hp:H p=some (.lst xs))(hj:xs[j]?=some v)(k:Q v H)(hv:σ[i]?=some (some (.ref p)):=by rfl):tOp (rIxL K) (tVar i) (tC (.int j)) σ H Q:=iaL hp (Zr hj) k hv
theorem ixT(j:Nat)(hp:H p=some (.tup xs))(hj:xs[j]?=some v)(k:Q v H)(hv:σ[i]?=some (some (.ref p)):=by rfl):tOp (rIxT K) (tVar i) (tC (.int j)) σ H Q:=iaT hp (Zr hj) k hv
theorem mthV{C t dx:Addr}{m:Str}{sp:Sp}{dvs:List V}{E:XK}{ta:TA}{fs:List (Str×V)}(ht:H t=some (.ins C dx fs))(ho:fs.lookup m=none)(k:ta σ H λvs H2=>sp (.ref t::(vs++dvs)) H2 Q E)(hv:σ[i]?=some (some (.ref t)):=by rfl):QL C m sp dvs E (tVar i) ta σ H Q:=⟨_,hv,t,dx,fs,rfl,ht,ho,k⟩
end
section
variable {X:Cx}{a b e:Expr}{es:List Expr}{ta tb te:TE}{t:TA}{pos:Pos}
noncomputable def notStar:Expr->Bool
|.Starred ..=>false
|_=>true
theorem RL{env:Env}(h:notStar e=true):aD (e::es) env=(false,eval e env)::aD es env:=by cases e<;>first|rfl|cases h
theorem Za(ha:PE X e te)(hr:PA X es t)(hn:notStar e=true:=by rfl):PA X (e::es) (J8 te t):=Zj ha hr (RL hn)
theorem pa1(ha:PE X e te)(hn:notStar e=true):PA X [e] (J8 te tNil):=Za ha Zf hn
theorem pa2(ha:PE X e te)(hb:PE X a ta)(hn:(notStar e&&notStar a)=true):PA X [e,a] (J8 te (J8 ta tNil)):=Za ha (pa1 hb (Bool.and_eq_true_iff.mp hn).2) (Bool.and_eq_true_iff.mp hn).1
theorem pa3(ha:PE X e te)(hb:PE X a ta)(hc:PE X b tb)(hn:(notStar e&&(notStar a&&notStar b))=true):PA X [e,a,b] (J8 te (J8 ta (J8 tb tNil))):=Za ha (pa2 hb hc (Bool.and_eq_true_iff.mp hn).2) (Bool.and_eq_true_iff.mp hn).1
theorem nmT(i:Nat){x:Str}(hN:X.N.Nodup)(hi:X.N[i]?=some x:=by rfl)(hx:Loc X.env.scope x:=by exact bw rfl)(hf:X.fn x=true\/X.env.scope.names.lookup x=some .local:=by first|exact .inl rfl|exact .inr rfl|assumption):PG X (.Name x pos) (XQ i):=VV hN hi hx hf
theorem il(K:aa)(ha:PE X a ta)(hb:PE X b tb)(hK:X.K=K:=by rfl)(hs:QD b:=by exact λ_ _=>rfl):PE X (.Subscript a b pos) (tOp (rIxL K) ta tb):=by subst hK;exact Yj Ec ha hb hs
theorem it(K:aa)(ha:PE X a ta)(hb:PE X b tb)(hK:X.K=K:=by rfl)(hs:QD b:=by exact λ_ _=>rfl):PE X (.Subscript a b pos) (tOp (rIxT K) ta tb):=by subst hK;exact Yj Yb ha hb hs
theorem cn{k j:Nat}{x:Str}{ps:List Str}{sp:Sp}{p:Pos}(C:Can X.prog X.w X.K X.mg X.base k x ps sp)(hr:Room j X.A)(ha:PA X (e::es) t)(hk:k<=j:=by decide)(hg:Gl X x:=by rfl)(hdb:(x==("__debug__":Str))=false:=by decide)(he:aD (e::es) X.env=(false,eval e X.env)::aD es X.env:=by rfl)(hpl:(cw pos (aD es X.env)).any (·.1)=false:=by rfl):PE X (.Call (.Name x p) (e::es) [] pos) (Pn sp [] E0 t):=Z2 C (hr.mono hk) hg ha hdb he hpl
theorem st(i:Nat){x:Str}{p:Pos}(hN:X.N.Nodup)(he:PE X e te)(hi:X.N[i]?=some x:=by rfl)(hx:Loc X.env.scope x:=by exact bw rfl)(hs:eZ e (some (.Name x p)) pos.line X.env=pure false:=by rfl)(hf:X.fn x=true\/X.env.scope.names.lookup x=some .local:=by first|exact .inl rfl|exact .inr rfl):PS X (.Assign [.Name x p] e pos) (tAsg te (XQ i)):=Z9 hN hi hx he hs hf
end
theorem Room.m{j k:Nat}{A:aX}(r:Room k A)(h:j<=k:=by decide):Room j A:=r.mono h
theorem zl{n:Nat}(h:Nat.ble n 1000=true:=by rfl):n<=sizeLine:=Nat.le_trans (Nat.le_of_ble_eq_true h) (by decide)
theorem gE{α:Type}{l:List α}{i:Nat}(h:i<l.length):l[i]?=some l[i]:=List.getElem?_eq_getElem h
theorem lm{α β:Type}{f:α->β}{l:List α}:(l.map f).length=l.length:=aZ f
theorem scO{N P:List Str}{sc:Scope}(h:sc.kind=.function/\sc.isCoroutine=false/\sc.isGenerator=false/\N.Nodup/\N.take P.length=P/\(∀x∈P,sc.names.lookup x=some .local\/sc.names.lookup x=some .cell)/\∀y∈sc.names,y.2≠.free:=by decide +kernel):FnScope N P sc:=⟨h.1,h.2.1,h.2.2.1,h.2.2.2.1,h.2.2.2.2.1,h.2.2.2.2.2.1,h.2.2.2.2.2.2⟩
noncomputable def csx(l:List (Str×dz)):Scope:={kind:=.function,names:=l,isGenerator:=false,isCoroutine:=false,more:=[]}
section
variable {P:Program}{w:World}{K:aa}{mg:Str->Option Value}{base:Heap}{x:Str}{st:Stmt}{N ps:List Str}{k:Nat}{sp:Sp}
theorem Df.cn(D:Df K mg x st ps)(S:FnScope N ps (Zb st))(hb:∀(f:Addr)(cdv:Value)(A:aX)(outer:List Env)(s:ag)(H:Hp)(vs:List V)(Q:VK)(E:XK),Room k (A.deeper (de x (Zb st) s.heap.objs.size f cdv))->sp vs H Q E->∃t,PSs (cxOf CX0 P w K mg base N x (Zb st) f cdv A outer s H E).nox (ZH st) t/\t {nx:=λ_ H'=>Q .non H',rt:=Q} (start N vs) H)(len:∀vs H Q E,sp vs H Q E->vs.length=ps.length:=by intro _ _ _ _ h;repeat (obtain⟨a,h⟩:=h;first|(subst a;rfl)|skip)):Can P w K mg base (k+1) x ps sp:=D.can S len hb
theorem Df.cnX(D:Df K mg x st ps)(S:FnScope N ps (Zb st))(hb:∀(f:Addr)(cdv:Value)(A:aX)(outer:List Env)(s:ag)(H:Hp)(vs:List V)(Q:VK)(E:XK),Room k (A.deeper (de x (Zb st) s.heap.objs.size f cdv))->sp vs H Q E->∃t,PSs (cxOf (CX1 P w) P w K mg base N x (Zb st) f cdv A outer s H E) (ZH st) t/\t {nx:=λ_ H'=>Q .non H',rt:=Q} (start N vs) H)(len:∀vs H Q E,sp vs H Q E->vs.length=ps.length:=by intro _ _ _ _ h;repeat (obtain⟨a,h⟩:=h;first|(subst a;rfl)|skip)):CanX P w K mg base (k+1) x ps sp:=D.canX S len hb
end
theorem tq{a b:TS}{D:Ends}{σ:St}{H:Hp}(h:∀D':Ends,(∀σ' H',b D σ' H'->D'.nx σ' H')->a D' σ H):tSeq a b D σ H:=h _ λ_ _ x=>x
theorem shp{σ:St}{p:(Nat->Option V)->St}(h:σ=p λi=>σ.getD i none):∃o,σ=p o:=⟨_,h⟩
theorem td{a:TS}{D:Ends}{σ:St}{H:Hp}(h:∀D':Ends,(∀σ' H',D.nx σ' H'->D'.nx σ' H')->a D' σ H):a D σ H:=h _ λ_ _ x=>x
theorem tqr{a b:TS}{D:Ends}{σ:St}{H:Hp}(h:∀D':Ends,(∀σ' H',b D σ' H'->D'.nx σ' H')->(∀v H',D.rt v H'->D'.rt v H')->a D' σ H):tSeq a b D σ H:=h _ (λ_ _ x=>x) (λ_ _ x=>x)
def Jg(K:aa)(w:World)(a:Addr)(z:Str)(v:V):Prop:=∃es n u,K.lookup a=some ⟨.type "dict",none,.dict es n,#[]⟩/\PySem.W.KeysLit w.params es.toList/\bc K a z=some (some u)/\RelV v u
def Hj(K:aa)(w:World)(td ty:TE):TE:=λσ H Q=>td σ H λx H1=>ty σ H1 λy H2=>∃a z v,x=.ref a/\y=.str z/\Jg K w a z v/\Q v H2
section
variable {X:Cx}{o i:Expr}{td ty:TE}{pos:Pos}
theorem Qq(ho:PE X o td)(hi:PE X i ty)(hs:NoSl i):PE X (.Subscript o i pos) (Hj X.K X.w td ty):=by intro pins s σ H Q I h;refine SY PySem.F.slot_dict_getitem.lookup hs (thn (ho pins s σ H _ I h) λu s1⟨x,H1,I1,rx,q1⟩=>thn (hi pins s1 σ H1 _ I1 q1) λiv s2 hZ=>?_);obtain⟨y,H2,I2,ry,a,z,v,ex,ey,⟨es,n,u',hl,hk,hn,rv⟩,q2⟩:=hZ;subst ex ey;obtain rfl:u=Value.ref a:=rx;obtain⟨t,rfl⟩:=(show ∃t,iv=Value.str z t from ry);have hm:=PySem.W.mapOf_K (prog:=X.prog) I2.kIn hl hk;exact⟨hm.typeIs,wpAny_getItem_of (strKind_is X.prog X.w z t) hm (PySem.W.find_K hl hn) ⟨v,H2,I2.tok _,rv,q2⟩⟩
end
end L2
namespace T
open PySem L2
noncomputable def top(i:Nat):Stmt:=af.main.body.getD i (.Pass ⟨0,0,0,0⟩)
noncomputable abbrev m_BadTable___init__:Stmt:=inClass (top 3) 0
noncomputable abbrev m_NoRide___init__:Stmt:=inClass (top 4) 0
noncomputable abbrev m_NoHomes___init__:Stmt:=inClass (top 5) 0
noncomputable abbrev m_NoTurn___init__:Stmt:=inClass (top 6) 0
noncomputable abbrev f_is_whole:Stmt:=top 13
noncomputable abbrev f_is_within:Stmt:=top 14
noncomputable abbrev f_is_text_of:Stmt:=top 15
noncomputable abbrev f_is_name:Stmt:=top 16
noncomputable abbrev f_is_group_name:Stmt:=top 17
noncomputable abbrev m_Step___init__:Stmt:=inClass (top 19) 0
noncomputable abbrev m_Step_key:Stmt:=inClass (top 19) 1
noncomputable abbrev m_Step_tail:Stmt:=inClass (top 19) 2
noncomputable abbrev m_Step_head:Stmt:=inClass (top 19) 3
noncomputable abbrev m_Step_room:Stmt:=inClass (top 19) 4
noncomputable abbrev m_Step_price:Stmt:=inClass (top 19) 5
noncomputable abbrev m_SetOut___init__:Stmt:=inClass (top 20) 0
noncomputable abbrev m_Ride___init__:Stmt:=inClass (top 21) 0
noncomputable abbrev m_Walk___init__:Stmt:=inClass (top 22) 0
noncomputable abbrev m_Wait___init__:Stmt:=inClass (top 23) 0
noncomputable abbrev f_set_outs_of:Stmt:=top 24
noncomputable abbrev f_walks_of:Stmt:=top 25
noncomputable abbrev f_waits_of:Stmt:=top 26
noncomputable abbrev f_moves_of:Stmt:=top 27
noncomputable abbrev f_steps_of:Stmt:=top 28
noncomputable abbrev f_is_known:Stmt:=top 36
noncomputable abbrev f_rows_of:Stmt:=top 37
noncomputable abbrev f_wrong_beginning:Stmt:=top 38
noncomputable abbrev f_wrong_ends:Stmt:=top 39
noncomputable abbrev f_wrong_place:Stmt:=top 40
noncomputable abbrev f_wrong_ride:Stmt:=top 41
noncomputable abbrev f_wrong_way:Stmt:=top 42
noncomputable abbrev f_wrong_group:Stmt:=top 43
noncomputable abbrev f_refuse_row:Stmt:=top 44
noncomputable abbrev m_Table___init__:Stmt:=inClass (top 45) 0
noncomputable abbrev m_Table_take_places:Stmt:=inClass (top 45) 1
noncomputable abbrev m_Table_take_rides:Stmt:=inClass (top 45) 2
noncomputable abbrev m_Table_take_ways:Stmt:=inClass (top 45) 3
noncomputable abbrev m_Table_take_groups:Stmt:=inClass (top 45) 4
noncomputable abbrev m_Table_is_place:Stmt:=inClass (top 45) 6
noncomputable abbrev m_Table_is_home:Stmt:=inClass (top 45) 7
noncomputable abbrev m_Table_is_ride:Stmt:=inClass (top 45) 8
noncomputable abbrev m_Table_homes:Stmt:=inClass (top 45) 12
noncomputable abbrev m_Table_ride_row:Stmt:=inClass (top 45) 13
noncomputable abbrev m_Table_with_rides:Stmt:=inClass (top 45) 17
noncomputable abbrev m_Table_with_ride_as:Stmt:=inClass (top 45) 18
noncomputable abbrev m_Table_with_ride:Stmt:=inClass (top 45) 19
noncomputable abbrev m_Table_with_groups:Stmt:=inClass (top 45) 20
noncomputable abbrev m_Table_without_ride:Stmt:=inClass (top 45) 21
noncomputable abbrev m_Table_with_later:Stmt:=inClass (top 45) 23
noncomputable abbrev m_Table_with_homes:Stmt:=inClass (top 45) 24
noncomputable abbrev f__law_box:Stmt:=top 48
noncomputable abbrev f__law_take:Stmt:=top 49
noncomputable abbrev f__law_names:Stmt:=top 50
noncomputable abbrev f__law_places:Stmt:=top 51
noncomputable abbrev f__law_size:Stmt:=top 52
noncomputable abbrev f__law_ends:Stmt:=top 53
noncomputable abbrev f__law_ride:Stmt:=top 54
noncomputable abbrev f__law_way:Stmt:=top 55
noncomputable abbrev f__law_group:Stmt:=top 56
noncomputable abbrev f__law_world:Stmt:=top 57
noncomputable abbrev f__law_steps:Stmt:=top 58
noncomputable abbrev f__law_table:Stmt:=top 59
noncomputable abbrev f__law_kind:Stmt:=top 60
noncomputable abbrev f__law_right:Stmt:=top 61
noncomputable abbrev f__law_otherwise:Stmt:=top 62
noncomputable abbrev f__law_beside:Stmt:=top 63
noncomputable abbrev f_law:Stmt:=top 64
end T
namespace K1
noncomputable def LET:List Nat:=[97,98,99,100,101,102,103,104,105,106,107,108,109,110,111,112,113,114,115,116,117,118,119,120,121,122]
noncomputable def FIG:List Nat:=[48,49,50,51,52,53,54,55,56,57]
noncomputable def lenB(n:Int)(y:List Nat):Bool:=decide ((1:Int)<=y.length)&&decide ((y.length:Int)<=n)
noncomputable def YI(n:Int)(zs y:List Nat):Bool:=lenB n y&&y.all λc=>decide (c∈zs)
noncomputable def XO(n:Int)(zs y:List Nat):Bool:=YI n zs y&&decide (y.getD 0 0∈LET)
open PySem L2
noncomputable abbrev K2:Stmt:=T.f_is_whole
noncomputable abbrev Tu:Stmt:=T.f_is_within
noncomputable abbrev Ql:Stmt:=T.f_is_text_of
noncomputable abbrev Ex:Stmt:=T.f_is_name
noncomputable abbrev K3:Stmt:=T.f_is_group_name
noncomputable def tLET:Str:="abcdefghijklmnopqrstuvwxyz"
noncomputable def tNAME:Str:="abcdefghijklmnopqrstuvwxyz0123456789"
noncomputable def tGROUP:Str:="abcdefghijklmnopqrstuvwxyz0123456789."
structure Txt(K:aa)(mg:Str->Option Value):Prop where
 lets:∃t,mg "LETTERS"=some (.str tLET t)
 names:∃t,mg "NAME_SIGNS"=some (.str tNAME t)
 groups:∃t,mg "GROUP_SIGNS"=some (.str tGROUP t)
 ln:∃t,mg "LONGEST_NAME"=some (.int 8 t)
 lg:∃t,mg "LONGEST_GROUP_NAME"=some (.int 12 t)
 isi:mg "isinstance"=none
 int:mg "int"=none
 bool:mg "bool"=none
 str:mg "str"=none
 len:mg "len"=none
 all:mg "all"=none
noncomputable def Ku(x:V):Bool:=LF x
noncomputable def Zq(x:V)(lo hi:Int):Bool:=match x with
|.int i=>decide (lo<=i)&&decide (i<=hi)
|_=>false
noncomputable def codes(z:Str):List Nat:=z.cps.toList
noncomputable def SW(x:V)(n:Int)(z:Str):Bool:=match x with
|.str y=>YI n (codes z) (codes y)
|_=>false
noncomputable def UX(x:V)(n:Int)(z:Str):Bool:=match x with
|.str y=>XO n (codes z) (codes y)
|_=>false
def Td:Sp:=λvs H Q _=>∃x T,vs=[x]/\Th H x T/\Q (.bl (Ku x)) H
def Xv:Sp:=λvs H Q _=>∃x T lo hi,vs=[x,.int lo,.int hi]/\Th H x T/\Q (.bl (Zq x lo hi)) H
def Nt:Sp:=λvs H Q _=>∃x T n z,vs=[x,.int n,.str z]/\Th H x T/\∀H',Same H H'->Q (.bl (SW x n z)) H'
def P8(n:Int)(z:Str):Sp:=λvs H Q _=>∃x T,vs=[x]/\Th H x T/\∀H',Same H H'->Q (.bl (UX x n z)) H'
theorem slen{z:Str}(h:z.length<=1000):z.length<=sizeLine:=Nat.le_of_lt (XF h)
theorem clen(z:Str):(codes z).length=z.length:=by simp[codes,Str.length]
section
variable {P:Program}{w:World}{K:aa}{mg:Str->Option Value}{base:Heap}
theorem DB:FnScope ["thing"] ["thing"] (Zb K2):=⟨rfl,rfl,rfl,by decide +kernel,rfl,by decide +kernel,by decide +kernel⟩
theorem PQ(T:Txt K mg)(D:Df K mg "is_whole" K2 ["thing"]):Can P w K mg base 1 "is_whole" ["thing"] Td:=by
 refine D.can DB (λvs H Q E h=>?_) (λf cdv A outer s H vs Q E hr h=>?_)
 ·obtain⟨x,T',rfl,_⟩:=h;rfl
 ·obtain⟨x,T',rfl,th,k⟩:=h;refine⟨_,Zi (Zo (Mc (Mb (c:="int") (pv 0) rfl T.isi rfl T.int QA) (Ju (E6 (Mb (c:="bool") (pv 0) rfl T.isi rfl T.bool Ej))))),?_⟩;refine⟨_,rfl,_,_,_,_,rfl,th.ty,th.kitI,_,rfl,?_⟩;have fin:∀b,b=Ku x->Q (.bl b) H:=λb e=>e▸k;refine ite2 (λe=>?_) (λe=>fin _ ?_)
  ·refine⟨_,rfl,_,_,_,_,rfl,th.ty,th.kitB,_,rfl,fin _ ?_⟩;cases th<;>first|rfl|(exact absurd (show false=true from e) Bool.false_ne_true)
  ·cases th<;>first|rfl|(exact absurd rfl e)
theorem KQ:FnScope ["thing","low","high"] ["thing","low","high"] (Zb Tu):=⟨rfl,rfl,rfl,by decide +kernel,rfl,by decide +kernel,by decide +kernel⟩
theorem N4(D:Df K mg "is_within" Tu ["thing","low","high"])(CW:Can P w K mg base 1 "is_whole" ["thing"] Td):Can P w K mg base 2 "is_within" ["thing","low","high"] Xv:=by
 refine D.can KQ (λvs H Q E h=>?_) (λf cdv A outer s H vs Q E hr h=>?_)
 ·obtain⟨x,T',lo,hi,rfl,_⟩:=h;rfl
 ·obtain⟨x,T',lo,hi,rfl,th,k⟩:=h;refine⟨_,Zi (Zo (Mc (Z2 CW hr rfl (Zj (pv 0) Zf)) (Ju (Lg TN TN (pv 1) (pv 0) (pv 2))))),?_⟩;refine⟨_,rfl,x,T',rfl,th,_,rfl,?_⟩;have fin:∀b,b=Zq x lo hi->Q (.bl b) H:=λb e=>e▸k;refine ite2 (λe=>?_) (λe=>fin _ ?_)
  ·cases th with
  |int i=>
    refine⟨_,rfl,_,rfl,_,_,rfl,rfl,_,rfl,?_⟩;refine ite2 (λe2=>?_) (λe2=>fin _ ?_)
    ·refine⟨_,rfl,_,_,rfl,rfl,fin _ ?_⟩;show _=(decide (lo<=i)&&decide (i<=hi));rw[e2,Bool.true_and]
    ·show false=(decide (lo<=i)&&decide (i<=hi));have e3:decide (lo<=i)=false:=by simpa using e2
     rw[e3,Bool.false_and]
  |_=>exact absurd (show false=true from e) Bool.false_ne_true
  ·cases th<;>first|rfl|(exact absurd rfl e)
theorem KU:FnScope ["thing","longest","signs"] ["thing","longest","signs"] (Zb Ql):=⟨rfl,rfl,rfl,by decide +kernel,rfl,by decide +kernel,by decide +kernel⟩
noncomputable def cs1:Scope:={kind:=.function,names:=[(Str.ofString ".0",.local),(Str.ofString "sign",.local),(Str.ofString "signs",.free)],isGenerator:=false,isCoroutine:=false,more:=[]}
theorem FU:CompScope cs1 (Zb Ql):=⟨rfl,by decide +kernel,by decide +kernel,by decide +kernel⟩
theorem FX:(["sign","signs"]:List Str).Nodup:=by decide +kernel
theorem FW:CompNames ["thing","longest","signs"] cs1 ["sign","signs"] [none,some 2]:=.mk' (by decide +kernel)
theorem Si(z:Str)(c:Nat):(!(gV z ⟨#[c]⟩ 0 z.length 1).isEmpty)=decide (c∈codes z):=PySem.StrLaws.found_one z c
theorem take_all{α β:Type}(l:List α)(p:α->β)(i:Nat)(c:α)(h:l[i]?=some c):(l.take (i+1)).map p=(l.take i).map p++[p c]:=by rw[List.take_add_one,h,aE];rfl
theorem Sz(T:Txt K mg)(D:Df K mg "is_text_of" Ql ["thing","longest","signs"]):Can P w K mg base 1 "is_text_of" ["thing","longest","signs"] Nt:=by
 refine D.can KU (λvs H Q E h=>?_) (λf cdv A outer s H vs Q E hr h=>?_)
 ·obtain⟨x,T',n,z,rfl,_⟩:=h;rfl
 ·obtain⟨x,T',n,z,rfl,th,k⟩:=h;refine⟨_,Ze (ZO (PW.pt (JH (Z8 (Z1 (Mb (c:="str") (pv 0) rfl T.isi rfl T.str Dn))) (Xj (Z8 (La TN TN Zc (ZG Dh rfl T.len bC (Zj (pv 0) Zf)) (pv 1)))))) (Zi (Zo MM)) Zy) (Zi (Zo (ZG (Dj rfl) rfl T.all PyProof.Rows.boot_all (Zj (Z7 (scope:=cs1) (N:=["sign","signs"]) (cp:=[none,some 2]) rfl FU FW (E5 (pv 0)) (λC s H ex pn=>VV (i:=0) FX rfl (bw rfl)) (λC s H ex pn=>ZV) (λC s H ex pn=>JY Mf (pv 0) (pv 1) (by with_unfolding_all rfl))) Zf)))),?_⟩;have fin:∀b H',Same H H'->b=SW x n z->Q (.bl b) H':=λb H' sm e=>e▸k H' sm;refine⟨_,rfl,_,_,_,_,rfl,th.ty,th.kitS,_,rfl,?_⟩;refine ite2 (λe=>?_) (λe=>?_)
  ·refine iteT (fin _ _ (Same.refl _) ?_);cases th<;>first|rfl|(exact absurd (show false=true from e) Bool.false_ne_true)
  ·cases th with
  |str y hy=>
    have hlen:(codes y).length=y.length:=clen y;refine⟨_,rfl,_,_,rfl,⟨slen hy,rfl⟩,_,_,rfl,rfl,_,rfl,?_⟩;refine ite2 (λe1=>?_) (λe1=>?_)
    ·refine⟨_,rfl,_,_,rfl,rfl,_,rfl,?_⟩;refine ite2 (λe2=>?_) (λe2=>?_)
     ·refine fin _ _ (Same.refl _) ?_;show false=YI n (codes z) (codes y);unfold YI lenB;have e3:decide ((y.length:Int)<=n)=false:=by simpa using e2
      rw[hlen,e3,Bool.and_false,Bool.false_and]
     ·have e3:decide ((y.length:Int)<=n)=true:=by simpa using e2
      refine⟨_,rfl,y,rfl,ZI (J:=Its y) y.length (slen hy) (λi ys τ H1=>H1=H/\ys=((codes y).take i).map (λc=>V.bl (decide (c∈codes z)))/\∃v,τ=[v,some (.str z)]) ⟨rfl,rfl,none,rfl⟩ (λi ys τ H1 p=>?_) (λi ys τ H1 hi p=>hi) (λys τ H1 p=>Nat.le_refl _) (λi ys τ H1 x' H2 hi p yl=>?_) (λys τ H1 p l hl=>?_)⟩
      ·rw[p.2.1,aZ,aw];omega
      ·obtain⟨rfl,rfl,v,rfl⟩:=p;obtain⟨rfl,c,hc,rfl⟩:=yl;refine⟨_,rfl,_,rfl,_,_,rfl,rfl,rfl,?_,_,rfl⟩;rw[Si];exact(take_all (codes y) (λc=>V.bl (decide (c∈codes z))) i c hc).symm
      ·obtain⟨rfl,rfl,v,rfl⟩:=p;refine⟨l,(codes y).map (λc=>decide (c∈codes z)),rfl,SqL.of ?_,fin _ _ (λb o q=>?_) ?_⟩
       ·rw[Zd,<-hlen,aF,bI];rfl
       ·rw[Zh (Zk q hl)];exact q
       ·show _=YI n (codes z) (codes y);unfold YI lenB;rw[hlen,e1,e3,Bool.true_and,Bool.true_and,List.all_map];rfl
    ·refine⟨_,rfl,iteT (fin _ _ (Same.refl _) ?_)⟩;show false=YI n (codes z) (codes y);unfold YI lenB;have e3:decide ((1:Int)<=y.length)=false:=by simpa using e1
     rw[hlen,e3,Bool.false_and,Bool.false_and]
  |_=>exact absurd rfl e
theorem cLET:codes tLET=LET:=by decide +kernel
theorem Aa:codes tNAME=LET++FIG++[]:=by decide +kernel
theorem Dk:codes tGROUP=LET++FIG++[46]:=by decide +kernel
theorem Pk{x:V}{n:Int}{z:Str}(h:SW x n z=true):∃y c r,x=.str y/\codes y=c::r:=by
 cases x with
|str y=>
  have h':YI n (codes z) (codes y)=true:=h;unfold YI lenB at h';rw[Bool.and_eq_true,Bool.and_eq_true]at h';have h1:=of_decide_eq_true h'.1.1;cases e:codes y with
 |nil=>rw[e]at h1;simp at h1
 |cons c r=>exact⟨y,c,r,rfl,e⟩
|_=>exact absurd (show false=true from h) Bool.false_ne_true
theorem Wk{y:Str}{c:Nat}{r:List Nat}(e:codes y=c::r):atI y.cps.toList 0=some c:=by have e':y.cps.toList=c::r:=e;rw[e'];exact Zr (j:=0) rfl
theorem _root_.L2.Th.strLen{H:Hp}{y:Str}{T:String}(h:Th H (.str y) T):y.length<=1000:=by
 cases h with
|str z h=>exact h
theorem MH{x:V}{n:Int}{z:Str}(h:SW x n z=false):UX x n z=false:=by
 cases x with
|str y=>have h':YI n (codes z) (codes y)=false:=h;show(YI n (codes z) (codes y)&&_)=false;rw[h',Bool.false_and]
|_=>rfl
theorem DA:FnScope ["thing"] ["thing"] (Zb Ex):=⟨rfl,rfl,rfl,by decide +kernel,rfl,by decide +kernel,by decide +kernel⟩
theorem L9(T:Txt K mg)(D:Df K mg "is_name" Ex ["thing"])(CT:Can P w K mg base 1 "is_text_of" ["thing","longest","signs"] Nt):Can P w K mg base 2 "is_name" ["thing"] (P8 8 tNAME):=by
 refine D.can DA (λvs H Q E h=>?_) (λf cdv A outer s H vs Q E hr h=>?_)
 ·obtain⟨x,T',rfl,_⟩:=h;rfl
 ·obtain⟨x,T',rfl,th,k⟩:=h;obtain⟨t1,h1⟩:=T.ln;obtain⟨t2,h2⟩:=T.names;obtain⟨t3,h3⟩:=T.lets;refine⟨_,Zi (Zo (Mc (Z2 CT hr rfl (Zj (pv 0) (Zj (ZR (v:=V.int 8) rfl h1 ⟨t1,rfl⟩) (Zj (ZR (v:=V.str tNAME) rfl h2 ⟨t2,rfl⟩) Zf)))) (Ju (JY Mf (Yj NS (pv 0) Zc (λ_ _=>rfl)) (ZR (v:=V.str tLET) rfl h3 ⟨t3,rfl⟩) (by with_unfolding_all rfl))))),?_⟩;refine⟨_,rfl,x,T',8,tNAME,rfl,th,λH' sm=>⟨_,rfl,?_⟩⟩;have fin:∀b,b=UX x 8 tNAME->Q (.bl b) H':=λb e=>e▸k H' sm;refine ite2 (λe=>?_) (λe=>fin _ ?_)
  ·obtain⟨y,c,r,rfl,ey⟩:=Pk e;refine⟨_,rfl,y,0,c,rfl,rfl,slen th.strLen,Wk ey,_,_,rfl,rfl,fin _ ?_⟩;have e':YI 8 (codes tNAME) (codes y)=true:=e;show _=(YI 8 (codes tNAME) (codes y)&&decide ((codes y).getD 0 0∈LET));rw[Si,e',Bool.true_and,cLET,ey];rfl
  ·exact(MH (by simpa using e)).symm
theorem KP:FnScope ["thing"] ["thing"] (Zb K3):=⟨rfl,rfl,rfl,by decide +kernel,rfl,by decide +kernel,by decide +kernel⟩
theorem Ki(T:Txt K mg)(D:Df K mg "is_group_name" K3 ["thing"])(CT:Can P w K mg base 1 "is_text_of" ["thing","longest","signs"] Nt):Can P w K mg base 2 "is_group_name" ["thing"] (P8 12 tGROUP):=by
 refine D.can KP (λvs H Q E h=>?_) (λf cdv A outer s H vs Q E hr h=>?_)
 ·obtain⟨x,T',rfl,_⟩:=h;rfl
 ·obtain⟨x,T',rfl,th,k⟩:=h;obtain⟨t1,h1⟩:=T.lg;obtain⟨t2,h2⟩:=T.groups;obtain⟨t3,h3⟩:=T.lets;refine⟨_,Zi (Zo (Mc (Z2 CT hr rfl (Zj (pv 0) (Zj (ZR (v:=V.int 12) rfl h1 ⟨t1,rfl⟩) (Zj (ZR (v:=V.str tGROUP) rfl h2 ⟨t2,rfl⟩) Zf)))) (Ju (JY Mf (Yj NS (pv 0) Zc (λ_ _=>rfl)) (ZR (v:=V.str tLET) rfl h3 ⟨t3,rfl⟩) (by with_unfolding_all rfl))))),?_⟩;refine⟨_,rfl,x,T',12,tGROUP,rfl,th,λH' sm=>⟨_,rfl,?_⟩⟩;have fin:∀b,b=UX x 12 tGROUP->Q (.bl b) H':=λb e=>e▸k H' sm;refine ite2 (λe=>?_) (λe=>fin _ ?_)
  ·obtain⟨y,c,r,rfl,ey⟩:=Pk e;refine⟨_,rfl,y,0,c,rfl,rfl,slen th.strLen,Wk ey,_,_,rfl,rfl,fin _ ?_⟩;have e':YI 12 (codes tGROUP) (codes y)=true:=e;show _=(YI 12 (codes tGROUP) (codes y)&&decide ((codes y).getD 0 0∈LET));rw[Si,e',Bool.true_and,cLET,ey];rfl
  ·exact(MH (by simpa using e)).symm
end
end K1
namespace TB
open PySem L2 PySem.Spec PyProof.Rows
def Bad(C:Addr)(p a y:V)(H:Hp)(E:XK):Prop:=∀H' d,H d=none->H' d=some (XD d [("part",p),("at",a),("why",y)])->(∀b,b≠d->H' b=H b)->E (.ref C) (some d) H'
def Vy(C:Addr):Sp:=λvs H Q E=>∃p a y,vs=[p,a,y]/\((y=.non/\Q .non H)\/(y≠.non/\Bad C p a y H E))
section
variable {P:Program}{w:World}{K:aa}{mg:Str->Option Value}{base:Heap}{C:Addr}
theorem KW:FnScope ["part","at","why"] ["part","at","why"] (Zb T.f_refuse_row):=scO
theorem SA(B:Err P w K mg base "BadTable" ["part","at","why"] C)(D:Df K mg "refuse_row" T.f_refuse_row ["part","at","why"]):CanX P w K mg base 3 "refuse_row" ["part","at","why"] (Vy C):=by
 refine D.cnX KW λf cdv A outer s H vs Q E hr h=>?_;obtain⟨p,a,y,rfl,h⟩:=h;refine⟨_,Zi (ZO (Zw VX (pv 2) Yc (ZC _)) (Zi (Xk (E:=E) B Yt rfl hr rfl (Zj (pv 0) (Zj (pv 1) (Zj (pv 2) Zf))))) Zy),?_⟩;refine⟨_,rfl,rfl,_,rfl,?_⟩;rcases h with⟨rfl,h⟩|⟨hn,h⟩
 ·exact iteF h
 ·rw[if_pos (by simp[hn])];exact⟨_,rfl,_,rfl,_,rfl,rfl,h⟩
structure Txt(K:aa)(mg:Str->Option Value):Prop where
 turns:∃t,mg "MOST_TURNS"=some (.int 50 t)
 room:∃t,mg "MOST_ROOM"=some (.int 1000 t)
 way:∃t,mg "LONGEST_WAY"=some (.int 50 t)
 people:∃t,mg "MOST_PEOPLE"=some (.int 300 t)
 isi:mg "isinstance"=none
 str:mg "str"=none
 tup:mg "tuple"=none
 lst:mg "list"=none
 len:mg "len"=none
noncomputable def Yh(r:V):V:=if(decide (r=.non)||K1.Zq r 0 1000)=true then .non else .str "number"
def QO:Sp:=λvs H Q _=>∃p n r T,vs=[.ref p]/\H p=some (.tup [n,r])/\Th H r T/\Q (Yh r) H
theorem KR:FnScope ["row"] ["row"] (Zb T.f_wrong_place):=scO
theorem Su(G:Txt K mg)(D:Df K mg "wrong_place" T.f_wrong_place ["row"])(CI:Can P w K mg base 2 "is_within" ["thing","low","high"] K1.Xv):Can P w K mg base 3 "wrong_place" ["row"] QO:=by
 obtain⟨t1,h1⟩:=G.room;refine D.cn KR λf cdv A outer s H vs Q E hr h=>?_;obtain⟨p,n,r,T',rfl,hp,th,k⟩:=h;refine⟨_,Ze (ZO (PW.pt (JH (Zw NJ (Yj Yb (pv 0) Zc (λ_ _=>rfl)) Yc (ZC _)) (Xj (Z1 (Z2 CI hr rfl (Zj (Yj Yb (pv 0) Zc (λ_ _=>rfl)) (Zj Zc (Zj (ZR (v:=V.int 1000) rfl h1 ⟨t1,rfl⟩) Zf)))))))) (Zi (Zo Yc)) Zy) (Zi (Zo Zu)),?_⟩;refine⟨_,rfl,p,[n,r],1,r,rfl,rfl,SqT.of hp,rfl,rfl,_,rfl,?_⟩;unfold Yh at k;refine ite2 (λe=>?_) (λe=>?_)
 ·rw[if_pos (by simp[e])]at k;exact iteT k
 ·refine⟨_,rfl,p,[n,r],1,r,rfl,rfl,SqT.of hp,rfl,r,T',0,1000,rfl,th,_,rfl,?_⟩;refine ite2 (λe2=>?_) (λe2=>?_)
  ·rw[if_pos (by simp[e2])]at k;exact k
  ·rw[if_neg (by simpa using⟨by simpa using e,by simpa using e2⟩)]at k;exact k
noncomputable def ZM(x:V)(kvs:List (Key×V)):Bool:=match x with
|.str z=>(valV kvs (.inr z)).isSome
|_=>false
def Qc:Sp:=λvs H Q _=>∃x T d kvs,vs=[x,.ref d]/\Th H x T/\H d=some (.dK kvs)/\Q (.bl (ZM x kvs)) H
theorem DE:FnScope ["thing","names"] ["thing","names"] (Zb T.f_is_known):=scO
theorem PU(G:Txt K mg)(D:Df K mg "is_known" T.f_is_known ["thing","names"]):Can P w K mg base 1 "is_known" ["thing","names"] Qc:=by
 refine D.cn DE λf cdv A outer s H vs Q E hr h=>?_;obtain⟨x,T',d,kvs,rfl,th,hd,k⟩:=h;refine⟨_,Zi (Zo (Mc (Mb (c:="str") (pv 0) rfl G.isi rfl G.str Dn) (Ju (E7 (Lh (J9 hr) (pv 0) (pv 1)))))),?_⟩;refine⟨_,rfl,_,_,_,_,rfl,th.ty,th.kitS,_,rfl,?_⟩;have fin:∀b,b=ZM x kvs->Q (.bl b) H:=λb e=>e▸k;refine ite2 (λe=>?_) (λe=>fin _ ?_)
 ·obtain⟨z,rfl⟩:∃z,x=.str z:=by cases th<;>first|exact⟨_,rfl⟩|(exact absurd (show false=true from e) Bool.false_ne_true)
  exact⟨_,rfl,_,rfl,d,_,rfl,DGet.k (k:=cq z) hd,k⟩
 ·cases th<;>first|rfl|(exact absurd rfl e)
end
end TB
namespace L2
open PySem PySem.Spec PyProof.Rows
theorem VQ:bF "tuple"=some (.type "tuple"):=by decide +kernel
theorem GW:bF "list"=some (.type "list"):=by decide +kernel
theorem Th.kitT{K:aa}{H:Hp}{v:V}{T:String}(h:Th H v T):ak K (.type T) (.type "tuple")=some (decide (T="tuple")):=by cases h<;>(unfold ak;first|rfl|decide +kernel|(show _=_;simp;rfl))
end L2
namespace TB
open PySem L2 PySem.Spec PyProof.Rows
noncomputable def Z5(g:Bool)(x:V):Bool:=if g=true then K1.UX x 12 K1.tGROUP else K1.UX x 8 K1.tNAME
noncomputable def begV(g:Bool)(n:Nat)(kvs:List (Key×V))(xs:List V):V:=if xs.length≠n then .str "form" else if Z5 g (xs.getD 0 .non)=false then .str "name" else if ZM (xs.getD 0 .non) kvs=true then .str "double" else .non
def Row(H:Hp)(v:V)(r:Option (List V)):Prop:=match r with
|none=>∃T,Th H v T/\T≠"tuple"
|some xs=>∃p,v=.ref p/\H p=some (.tup xs)/\∀x∈xs,∃T,Th H x T
noncomputable def begR(g:Bool)(n:Nat)(kvs:List (Key×V)):Option (List V)->V
|none=>.str "form"
|some xs=>begV g n kvs xs
structure Sizes(K:aa)(w:World)(mg:Str->Option Value):Prop where
 at_:∃a,mg "ROW_SIZES"=some (.ref a)/\Jg K w a "places" (.int 2)/\Jg K w a "rides" (.int 6)/\Jg K w a "ways" (.int 5)/\Jg K w a "groups" (.int 4)
noncomputable def NG:List (Str×Nat):=[("places",2),("rides",6),("ways",5),("groups",4)]
def Vx:Sp:=λvs H Q _=>∃z n row r d kvs,vs=[.str z,row,.ref d]/\(z,n)∈NG/\Row H row r/\H d=some (.dK kvs)/\∀H',Same H H'->Q (begR (decide (z="groups")) n kvs r) H'
section
variable {P:Program}{w:World}{K:aa}{mg:Str->Option Value}{base:Heap}{C:Addr}
theorem KS:FnScope ["part","row","names_ahead","fits"] ["part","row","names_ahead"] (Zb T.f_wrong_beginning):=scO
theorem Sy(G:Txt K mg)(Z:Sizes K w mg)(D:Df K mg "wrong_beginning" T.f_wrong_beginning ["part","row","names_ahead"])(CN:Can P w K mg base 2 "is_name" ["thing"] (K1.P8 8 K1.tNAME))(CG:Can P w K mg base 2 "is_group_name" ["thing"] (K1.P8 12 K1.tGROUP)):Can P w K mg base 3 "wrong_beginning" ["part","row","names_ahead"] Vx:=by
 obtain⟨aS,hS,k1,k2,k3,k4⟩:=Z.at_;have nd:(["part","row","names_ahead","fits"]:List Str).Nodup:=by decide +kernel
 refine D.cn KS λf cdv A outer s H vs Q E hr h=>?_;obtain⟨z,n,row,r,d,kvs,rfl,hz,hrow,hd,k⟩:=h;have hK:Jg K w aS z (.int n):=by simp only[NG,aA,eJ,aJ,or_false]at hz;rcases hz with⟨rfl,rfl⟩|⟨rfl,rfl⟩|⟨rfl,rfl⟩|⟨rfl,rfl⟩<;>assumption
 refine⟨_,Ze (ZO (PW.pt (JH (Z8 (Z1 (Mb (c:="tuple") (pv 1) rfl G.isi rfl G.tup VQ))) (Xj (Zw Ra (ZG J6 rfl G.len bC (Zj (pv 1) Zf)) (Qq (ZR (v:=V.ref aS) rfl hS rfl) (pv 0) (λ_ _=>rfl)) (ZC _))))) (Zi (Zo Zu)) Zy) (Ze (Z9 (i:=3) nd rfl (bw rfl) (VE (Zw YR (pv 0) Zu (ZC _)) (Z2 CG hr rfl (Zj (Yj Yb (pv 1) Zc (λ_ _=>rfl)) Zf)) (Z2 CN hr rfl (Zj (Yj Yb (pv 1) Zc (λ_ _=>rfl)) Zf)))) (Ze (ZO (Z8 (Z1 (pv 3))) (Zi (Zo Zu)) Zy) (Ze (ZO (E4 (Lh (J9 hr) (Yj Yb (pv 1) Zc (λ_ _=>rfl)) (pv 2))) (Zi (Zo Zu)) Zy) (Zi (Zo Yc))))),?_⟩;cases r with
|none=>obtain⟨T',th,hT⟩:=hrow;refine⟨_,rfl,_,_,_,_,rfl,th.ty,th.kitT,_,rfl,?_⟩;rw[decide_eq_false hT];refine iteT ?_;exact k H (Same.refl H)
|some xs=>
  obtain⟨p,rfl,hp,hx⟩:=hrow;have th:Th H (.ref p) "tuple":=.tup hp;refine⟨_,rfl,_,_,_,_,rfl,th.ty,th.kitT,_,rfl,?_⟩;refine iteF ?_;refine⟨_,rfl,p,xs,rfl,.inr (SqT.of hp),_,rfl,aS,z,.int n,rfl,rfl,hK,rfl,_,rfl,?_⟩;refine ite2 (λe=>?_) (λe=>?_)
  ·have hl:xs.length≠n:=λq=>by rw[q]at e;simp at e
   show Q (.str "form") H;have q:=k H (Same.refl H);simpa[begR,begV,hl]using q
  ·have hl:xs.length=n:=by
    have e':(xs.length:Int)=n:=by simpa using e
    omega
   obtain⟨x,r,rfl⟩:∃x r,xs=x::r:=by
    cases xs with
   |nil=>simp only[NG,aA,eJ,aJ,or_false]at hz;simp at hl;omega
   |cons x r=>exact⟨x,r,rfl⟩
   obtain⟨T',tx⟩:=hx x (by simp);have a0:∀(u:V)(l:List V),atI (u::l) 0=some u:=λu l=>Zr (xs:=u::l) (j:=0) rfl;have fin:∀b H',Same H H'->b=Z5 (decide (z="groups")) x->(if(!b)=true then Q (.str "name") H' else if ZM x kvs=true then Q (.str "double") H' else Q .non H'):=by
    rintro b H' sm rfl;have q:=k H' sm;simp only[begR,begV,hl,ne_eq,not_true_eq_false,if_false,List.getD_cons_zero]at q;cases hb:Z5 (decide (z="groups")) x with
   |false=>rw[if_pos (by decide)];rw[hb,if_pos rfl]at q;exact q
   |true=>
     rw[if_neg (by decide)];rw[hb,if_neg (by decide)]at q;by_cases hk:ZM x kvs=true
     ·rw[if_pos hk]at q ⊢;exact q
     ·rw[if_neg hk]at q ⊢;exact q
   have isS:∀b,b=Z5 (decide (z="groups")) x->b=true->∃y,x=.str y:=by
    rintro _ rfl hb;unfold Z5 at hb;cases x with
   |str y=>exact⟨y,rfl⟩
   |_=>split at hb<;>cases hb
   refine⟨_,rfl,rfl,_,rfl,?_⟩;refine ite2 (λe2=>?_) (λe2=>?_)
   ·refine⟨_,rfl,p,x::r,0,x,rfl,rfl,SqT.of hp,a0 x r,x,T',rfl,tx,λH' sm=>?_⟩;have hb:K1.UX x 12 K1.tGROUP=Z5 (decide (z="groups")) x:=by
     have e3:z="groups":=by simpa using e2
     simp[Z5,e3]
    have q:=fin _ H' sm hb;refine⟨_,rfl,_,rfl,?_⟩;refine ite2 (λe3=>?_) (λe3=>?_)
    ·rw[if_pos e3]at q;exact q
    ·rw[if_neg e3]at q;obtain⟨y,rfl⟩:=isS _ hb (by simpa using e3);exact⟨_,rfl,p,_::r,0,_,rfl,rfl,SqT.of (sm _ _ hp),a0 _ r,_,rfl,d,_,rfl,DGet.k (k:=cq y) (sm _ _ hd),_,rfl,q⟩
   ·refine⟨_,rfl,p,x::r,0,x,rfl,rfl,SqT.of hp,a0 x r,x,T',rfl,tx,λH' sm=>?_⟩;have hb:K1.UX x 8 K1.tNAME=Z5 (decide (z="groups")) x:=by
     have e3:z≠"groups":=by simpa using e2
     simp[Z5,e3]
    have q:=fin _ H' sm hb;refine⟨_,rfl,_,rfl,?_⟩;refine ite2 (λe3=>?_) (λe3=>?_)
    ·rw[if_pos e3]at q;exact q
    ·rw[if_neg e3]at q;obtain⟨y,rfl⟩:=isS _ hb (by simpa using e3);exact⟨_,rfl,p,_::r,0,_,rfl,rfl,SqT.of (sm _ _ hp),a0 _ r,_,rfl,d,_,rfl,DGet.k (k:=cq y) (sm _ _ hd),_,rfl,q⟩
end
end TB
namespace L2
open PySem PySem.Spec PyProof.Rows
def DfM(K:aa)(C:Addr)(m qual:Str)(st:Stmt)(ps:List Str):Prop:=∃f fd,Fun K m qual st f fd/\Meth K C m f/\Binds K fd ps []
def CanM(P:Program)(w:World)(K:aa)(mg:Str->Option Value)(base:Heap)(CX:CXT)(k:Nat)(C:Addr)(m:Str)(ps:List Str)(sp:Sp):Prop:=∃f fd,FnOk P w K mg base CX k f fd ps sp/\Meth K C m f/\Binds K fd ps []
section
variable {P:Program}{w:World}{K:aa}{mg:Str->Option Value}{base:Heap}{C:Addr}{m qual:Str}{st:Stmt}{N ps:List Str}{k:Nat}{sp:Sp}
theorem CanM.mono{j:Nat}{CX:CXT}(c:CanM P w K mg base CX j C m ps sp)(h:j<=k):CanM P w K mg base CX k C m ps sp:=by obtain⟨f,fd,F,r⟩:=c;exact⟨f,fd,F.mono h,r⟩
theorem DfM.can(D:DfM K C m qual st ps)(S:FnScope N ps (Zb st))(len:∀vs H Q E,sp vs H Q E->vs.length=ps.length)(hbody:∀(f:Addr)(cdv:Value)(A:aX)(outer:List Env)(s:ag)(H:Hp)(vs:List V)(Q:VK)(E:XK),Room k (A.deeper (de qual (Zb st) s.heap.objs.size f cdv))->sp vs H Q E ->∃t,PSs (cxOf CX0 P w K mg base N qual (Zb st) f cdv A outer s H E).nox (ZH st) t/\t {nx:=λ_ H'=>Q .non H',rt:=Q} (start N vs) H):CanM P w K mg base CX0 (k+1) C m ps sp:=by obtain⟨f,fd,F,me,b⟩:=D;exact⟨f,fd,F.ok S len (λcdv A outer s H vs Q E hr h=>hbody f cdv A outer s H vs Q E hr h),me,b⟩
theorem DfM.canX(D:DfM K C m qual st ps)(S:FnScope N ps (Zb st))(len:∀vs H Q E,sp vs H Q E->vs.length=ps.length)(hbody:∀(f:Addr)(cdv:Value)(A:aX)(outer:List Env)(s:ag)(H:Hp)(vs:List V)(Q:VK)(E:XK),Room k (A.deeper (de qual (Zb st) s.heap.objs.size f cdv))->sp vs H Q E ->∃t,PSs (cxOf (CX1 P w) P w K mg base N qual (Zb st) f cdv A outer s H E) (ZH st) t/\t {nx:=λ_ H'=>Q .non H',rt:=Q} (start N vs) H):CanM P w K mg base (CX1 P w) (k+1) C m ps sp:=by obtain⟨f,fd,F,me,b⟩:=D;exact⟨f,fd,F.okX S len (λcdv A outer s H vs Q E hr h=>hbody f cdv A outer s H vs Q E hr h),me,b⟩
theorem DfM.cn(D:DfM K C m qual st ps)(S:FnScope N ps (Zb st))(hbody:∀(f:Addr)(cdv:Value)(A:aX)(outer:List Env)(s:ag)(H:Hp)(vs:List V)(Q:VK)(E:XK),Room k (A.deeper (de qual (Zb st) s.heap.objs.size f cdv))->sp vs H Q E ->∃t,PSs (cxOf CX0 P w K mg base N qual (Zb st) f cdv A outer s H E).nox (ZH st) t/\t {nx:=λ_ H'=>Q .non H',rt:=Q} (start N vs) H)(len:∀vs H Q E,sp vs H Q E->vs.length=ps.length:=by intro _ _ _ _ h;repeat (obtain⟨a,h⟩:=h;first|(subst a;rfl)|skip)):CanM P w K mg base CX0 (k+1) C m ps sp:=D.can S len hbody
theorem DfM.cnX(D:DfM K C m qual st ps)(S:FnScope N ps (Zb st))(hbody:∀(f:Addr)(cdv:Value)(A:aX)(outer:List Env)(s:ag)(H:Hp)(vs:List V)(Q:VK)(E:XK),Room k (A.deeper (de qual (Zb st) s.heap.objs.size f cdv))->sp vs H Q E ->∃t,PSs (cxOf (CX1 P w) P w K mg base N qual (Zb st) f cdv A outer s H E) (ZH st) t/\t {nx:=λ_ H'=>Q .non H',rt:=Q} (start N vs) H)(len:∀vs H Q E,sp vs H Q E->vs.length=ps.length:=by intro _ _ _ _ h;repeat (obtain⟨a,h⟩:=h;first|(subst a;rfl)|skip)):CanM P w K mg base (CX1 P w) (k+1) C m ps sp:=D.canX S len hbody
end
section
variable {X:Cx}{CX:CXT}{k:Nat}{C:Addr}{ps:List Str}{sp:Sp}{E:XK}{m:Str}{pos apos:Pos}{e o:Expr}{es:List Expr}{ta:TE}{t:TA}
theorem Z4{pl:Sem Bool}(c:CanM X.prog X.w X.K X.mg X.base CX k C m ps sp)(cl:Cls X.K C)(hx:Passes CX X E)(hr:Room k X.A)(he:PE X o ta)(ha:PA X (e::es) t)
  (hst:aD (e::es) X.env=(false,eval e X.env)::aD es X.env:=by rfl) (hpl:(cw pos (aD es X.env)).any (·.1)=false:=by rfl)
  (ht:eval (.Call (.Attribute o m apos) (e::es) [] pos) X.env=(do
   let ov <-eval o X.env
   gI apos.atName
   let (f,first) <-eR [ov] (e_ ov m pl)
   gF pos f first (cw pos (aD (e::es) X.env)) (d8 pos (dh [] X.env))):=by rfl):
  PE X (.Call (.Attribute o m apos) (e::es) [] pos) (QL C m sp [] E ta t):=by
 obtain⟨f,fd,F,me,b⟩:=c
 exact DO he cl me F hr b .nil hx ha hst hpl ht
end
end L2
namespace TB
open PySem L2 PySem.Spec PyProof.Rows
noncomputable def fields:List Str:=["turns","places","room_by_place","rides","ride_by_name","ways","way_by_name","groups","group_by_name"]
structure TCl(K:aa)(C:Addr):Prop where
 cl:Cls K C
 na:∀f∈fields,Ys K C f
structure Tab(H:Hp)(C t:Addr)(fs:List (Str×V)):Prop where
 at_:∃dx,H t=some (.ins C dx fs)
 only:∀g,g∉fields->fs.lookup g=none
section
variable {P:Program}{w:World}{K:aa}{mg:Str->Option Value}{base:Heap}{C:Addr}
def Pp(C:Addr)(fld:Str):Sp:=λvs H Q _=>∃t x T fs d kvs,vs=[.ref t,x]/\Tab H C t fs/\fs.lookup fld=some (.ref d)/\H d=some (.dK kvs)/\Th H x T/\Q (.bl (ZM x kvs)) H
theorem Ho:FnScope ["self","thing"] ["self","thing"] (Zb T.m_Table_is_place):=scO
theorem Ru(Z:TCl K C)(D:DfM K C "is_place" "Table.is_place" T.m_Table_is_place ["self","thing"])(CK:Can P w K mg base 1 "is_known" ["thing","names"] Qc):CanM P w K mg base CX0 2 C "is_place" ["self","thing"] (Pp C "room_by_place"):=by refine D.cn Ho λf cdv A outer s H vs Q E hr h=>?_;obtain⟨t,x,T',fs,d,kvs,rfl,⟨⟨dx,ht⟩,_⟩,hl,hd,th,k⟩:=h;refine⟨_,Zi (Zo (Z2 CK hr rfl (Zj (pv 1) (Zj (ZD (pv 0) rfl) Zf)))),?_⟩;exact⟨_,rfl,_,rfl,t,C,dx,fs,_,rfl,ht,Z.cl,Z.na _ (by simp[fields]),hl,x,T',d,kvs,rfl,th,hd,k⟩
noncomputable def U3(x:V)(kvs:List (Key×V)):Bool:=match x with
|.str z=>decide (valV kvs (.inr z)=some .non)
|_=>false
theorem YA{x:V}{kvs:List (Key×V)}(h:ZM x kvs=true):∃z v,x=.str z/\valV kvs (.inr z)=some v:=by
 cases x with
|str z=>have h':(valV kvs (.inr z)).isSome=true:=h;exact⟨z,_,rfl,(Option.some_get h').symm⟩
|_=>cases h
theorem Sj{x:V}{kvs:List (Key×V)}(h:ZM x kvs=false):U3 x kvs=false:=by
 cases x with
|str z=>
  have h':(valV kvs (.inr z)).isSome=false:=h;show decide (valV kvs (.inr z)=some .non)=false;cases e:valV kvs (.inr z)with
 |none=>simp
 |some v=>rw[e]at h';cases h'
|_=>rfl
def QT(C:Addr):Sp:=λvs H Q _=>∃t x T fs d kvs,vs=[.ref t,x]/\Tab H C t fs/\fs.lookup ("room_by_place":Str)=some (.ref d)/\H d=some (.dK kvs)/\Th H x T/\Q (.bl (U3 x kvs)) H
theorem K0:FnScope ["self","thing"] ["self","thing"] (Zb T.m_Table_is_home):=scO
theorem SI(Z:TCl K C)(D:DfM K C "is_home" "Table.is_home" T.m_Table_is_home ["self","thing"])(CP:CanM P w K mg base CX0 2 C "is_place" ["self","thing"] (Pp C "room_by_place")):CanM P w K mg base CX0 3 C "is_home" ["self","thing"] (QT C):=by
 refine D.cn K0 λf cdv A outer s H vs Q E hr h=>?_;obtain⟨t,x,T',fs,d,kvs,rfl,tb,hl,hd,th,k⟩:=h;obtain⟨dx,ht⟩:=id tb.at_;refine⟨_,Zi (Zo (Mc (Z4 CP Z.cl YM hr (pv 0) (Zj (pv 1) Zf)) (Ju (JY NJ (TK (J9 hr) (ZD (pv 0) rfl) (pv 1) (λ_ _=>rfl)) Yc (by with_unfolding_all rfl))))),?_⟩;refine mthV ht (tb.only _ (by decide +kernel)) ⟨_,rfl,t,x,T',fs,d,kvs,rfl,tb,hl,hd,th,_,rfl,?_⟩;have fin:∀b,b=U3 x kvs->Q (.bl b) H:=λb e=>e▸k;refine ite2 (λe=>?_) (λe=>fin _ ?_)
 ·obtain⟨z,v,rfl,hv⟩:=YA e;refine⟨_,rfl,t,C,dx,fs,_,rfl,ht,Z.cl,Z.na _ (by simp[fields]),hl,_,rfl,d,v,rfl,(by rw[<-hv];exact DGet.k (k:=cq z) hd),rfl,fin _ ?_⟩;show decide (v=.non)=decide (valV kvs (.inr z)=some .non);rw[hv];simp
 ·have e':ZM x kvs=false:=by simpa using e
  exact(Sj e').symm
noncomputable def YF(kvs:List (Key×V))(s g:V):V:=if(!ZM s kvs||!ZM g kvs)=true then .str "place" else if U3 s kvs=true then .str "home" else if g=s then .str "alike" else .non
def RO(C:Addr):Sp:=λvs H Q _=>∃t x y T T' fs d kvs,vs=[.ref t,x,y]/\Tab H C t fs/\fs.lookup ("room_by_place":Str)=some (.ref d)/\H d=some (.dK kvs)/\Th H x T/\Th H y T'/\Q (YF kvs x y) H
theorem E1:FnScope ["table","start","goal"] ["table","start","goal"] (Zb T.f_wrong_ends):=scO
theorem Dg(Z:TCl K C)(D:Df K mg "wrong_ends" T.f_wrong_ends ["table","start","goal"])(CP:CanM P w K mg base CX0 2 C "is_place" ["self","thing"] (Pp C "room_by_place"))(CH:CanM P w K mg base CX0 3 C "is_home" ["self","thing"] (QT C)):Can P w K mg base 4 "wrong_ends" ["table","start","goal"] (RO C):=by
 refine D.cn E1 λf cdv A outer s H vs Q E hr h=>?_;obtain⟨t,x,y,T1,T2,fs,d,kvs,rfl,tb,hl,hd,tx,ty,k⟩:=h;obtain⟨dx,ht⟩:=id tb.at_;have hr2:Room 2 (A.deeper (de "wrong_ends" (Zb T.f_wrong_ends) s.heap.objs.size f cdv)):=hr.mono (by decide);refine⟨_,Ze (ZO (PW.pt (JH (Z8 (Z1 (Z4 CP Z.cl YM hr2 (pv 0) (Zj (pv 1) Zf)))) (Xj (Z8 (Z1 (Z4 CP Z.cl YM hr2 (pv 0) (Zj (pv 2) Zf))))))) (Zi (Zo Zu)) Zy) (Ze (ZO (Z1 (Z4 CH Z.cl YM hr (pv 0) (Zj (pv 1) Zf))) (Zi (Zo Zu)) Zy) (Ze (ZO (Zw YR (pv 2) (pv 1) (ZC _)) (Zi (Zo Zu)) Zy) (Zi (Zo Yc)))),?_⟩;unfold YF at k;refine mthV ht (tb.only _ (by decide +kernel)) ⟨_,rfl,t,x,T1,fs,d,kvs,rfl,tb,hl,hd,tx,_,rfl,?_⟩;refine ite2 (λe=>?_) (λe=>?_)
 ·rw[if_pos (by rw[e];rfl)]at k;exact iteT k
 ·refine mthV ht (tb.only _ (by decide +kernel)) ⟨_,rfl,t,y,T2,fs,d,kvs,rfl,tb,hl,hd,ty,_,rfl,?_⟩;refine ite2 (λe2=>?_) (λe2=>?_)
  ·rw[if_pos (by rw[e2];simp)]at k;exact k
  ·have kx:ZM x kvs=true:=by simpa using e
   have ky:ZM y kvs=true:=by simpa using e2
   rw[if_neg (by rw[kx,ky];decide)]at k;refine mthV ht (tb.only _ (by decide +kernel)) ⟨_,rfl,t,x,T1,fs,d,kvs,rfl,tb,hl,hd,tx,_,rfl,?_⟩;refine ite2 (λe3=>?_) (λe3=>?_)
   ·rw[if_pos e3]at k;exact k
   ·rw[if_neg e3]at k;obtain⟨zx,_,rfl,_⟩:=YA kx;obtain⟨zy,_,rfl,_⟩:=YA ky;refine⟨_,rfl,_,rfl,rfl,_,rfl,?_⟩;refine ite2 (λe4=>?_) (λe4=>?_)
    ·rw[if_pos (by simpa using e4)]at k;exact k
    ·rw[if_neg (by simpa using e4)]at k;exact k
noncomputable def Jm(kvs:List (Key×V))(n:Int)(s l g a m:V):V:=if YF kvs s g≠.non then YF kvs s g else match l with
 |.int i=>if(!K1.Zq (.int i) 0 (n-1)||!K1.Zq a (i+1) n)=true then .str "turn" else if(!K1.Zq m 0 1000)=true then .str "number" else .non
 |_=>.str "turn"
noncomputable def wayV(kvs:List (Key×V))(s g l m:V):V:=if YF kvs s g≠.non then YF kvs s g else if(!K1.Zq l 1 50||!K1.Zq m 0 1000)=true then .str "number" else .non
theorem at0{α:Type}{xs:List α}(j:Nat){v:α}(h:xs[j]?=some v):atI xs (j:Int)=some v:=Zr h
def KL(C:Addr):Sp:=λvs H Q _=>∃t p x0 x1 x2 x3 x4 x5 fs d kvs n,vs=[.ref t,.ref p]/\Tab H C t fs/\fs.lookup ("room_by_place":Str)=some (.ref d)/\fs.lookup ("turns":Str)=some (.int n)/\H d=some (.dK kvs) /\H p=some (.tup [x0,x1,x2,x3,x4,x5])/\(∀x∈[x0,x1,x2,x3,x4,x5],∃T,Th H x T)/\Q (Jm kvs n x1 x2 x3 x4 x5) H
theorem EZ:FnScope ["table","row","leave","why"] ["table","row"] (Zb T.f_wrong_ride):=scO
theorem L6(G:Txt K mg)(Z:TCl K C)(D:Df K mg "wrong_ride" T.f_wrong_ride ["table","row"])(CI:Can P w K mg base 2 "is_within" ["thing","low","high"] K1.Xv)(CE:Can P w K mg base 4 "wrong_ends" ["table","start","goal"] (RO C)):Can P w K mg base 5 "wrong_ride" ["table","row"] (KL C):=by
 obtain⟨t1,h1⟩:=G.room;have nd:(["table","row","leave","why"]:List Str).Nodup:=by decide +kernel
 refine D.cn EZ λf cdv A outer s H vs Q E hr h=>?_;obtain⟨t,p,x0,x1,x2,x3,x4,x5,fs,d,kvs,n,rfl,tb,hl,hn,hd,hp,hx,k⟩:=h;obtain⟨dx,ht⟩:=id tb.at_;obtain⟨T1,h01⟩:=hx x1 (by simp);obtain⟨T2,h02⟩:=hx x2 (by simp);obtain⟨T3,h03⟩:=hx x3 (by simp);obtain⟨T4,h04⟩:=hx x4 (by simp);obtain⟨T5,h05⟩:=hx x5 (by simp);have hr2:Room 2 (A.deeper (de "wrong_ride" (Zb T.f_wrong_ride) s.heap.objs.size f cdv)):=hr.mono (by decide);refine⟨_,Ze (Z9 (i:=2) nd rfl (bw rfl) (Yj Yb (pv 1) Zc (λ_ _=>rfl))) (Ze (Z9 (i:=3) nd rfl (bw rfl) (Z2 CE hr rfl (Zj (pv 0) (Zj (Yj Yb (pv 1) Zc (λ_ _=>rfl)) (Zj (Yj Yb (pv 1) Zc (λ_ _=>rfl)) Zf))))) (Ze (ZO (Zw VX (pv 3) Yc (ZC _)) (Zi (Zo (pv 3))) Zy) (Ze (ZO (PW.pt (JH (Z8 (Z1 (Z2 CI hr2 rfl (Zj (pv 2) (Zj Zc (Zj (Zv Jv (ZD (pv 0) rfl) Zc) Zf)))))) (Xj (Z8 (Z1 (Z2 CI hr2 rfl (Zj (Yj Yb (pv 1) Zc (λ_ _=>rfl)) (Zj (Zv ZT (pv 2) Zc) (Zj (ZD (pv 0) rfl) Zf))))))))) (Zi (Zo Zu)) Zy) (Ze (ZO (Z8 (Z1 (Z2 CI hr2 rfl (Zj (Yj Yb (pv 1) Zc (λ_ _=>rfl)) (Zj Zc (Zj (ZR (v:=V.int 1000) rfl h1 ⟨t1,rfl⟩) Zf)))))) (Zi (Zo Zu)) Zy) (Zi (Zo Yc)))))),?_⟩;refine⟨_,rfl,p,_,2,x2,rfl,rfl,SqT.of hp,at0 2 rfl,?_⟩;refine⟨_,rfl,_,rfl,p,_,1,x1,rfl,rfl,SqT.of hp,at0 1 rfl,_,rfl,p,_,3,x3,rfl,rfl,SqT.of hp,at0 3 rfl,t,x1,x3,T1,T3,fs,d,kvs,rfl,tb,hl,hd,h01,h03,?_⟩;unfold Jm at k;refine⟨_,rfl,rfl,_,rfl,?_⟩;refine ite2 (λe=>?_) (λe=>?_)
 ·have e':YF kvs x1 x3≠.non:=by simpa using e
  rw[if_pos e']at k;exact⟨_,rfl,k⟩
 ·have e':¬YF kvs x1 x3≠.non:=by simpa using e
  rw[if_neg e']at k;refine⟨_,rfl,_,rfl,t,C,dx,fs,_,rfl,ht,Z.cl,Z.na _ (by simp[fields]),hn,_,_,rfl,rfl,x2,T2,0,n-1,rfl,h02,_,rfl,?_⟩;refine ite2 (λe2=>?_) (λe2=>?_)
  ·have q:Q (.str "turn") H:=by
    cases x2 with
   |int i=>
     have k':Q (if(!K1.Zq (.int i) 0 (n-1)||!K1.Zq x4 (i+1) n)=true then V.str "turn" else if(!K1.Zq x5 0 1000)=true then .str "number" else .non) H:=k
     rw[if_pos (by rw[e2];rfl)]at k';exact k'
   |_=>exact k
   exact iteT q
  ·obtain⟨i,rfl⟩:∃i,x2=.int i:=by
    cases x2 with
   |int i=>exact⟨i,rfl⟩
   |_=>exact absurd rfl e2
   have k':Q (if(!K1.Zq (.int i) 0 (n-1)||!K1.Zq x4 (i+1) n)=true then V.str "turn" else if(!K1.Zq x5 0 1000)=true then .str "number" else .non) H:=k
   have w1:K1.Zq (.int i) 0 (n-1)=true:=by simpa using e2
   rw[w1]at k';refine⟨_,rfl,p,_,4,x4,rfl,rfl,SqT.of hp,at0 4 rfl,_,rfl,_,_,rfl,rfl,_,rfl,t,C,dx,fs,_,rfl,ht,Z.cl,Z.na _ (by simp[fields]),hn,x4,T4,i+1,n,rfl,h04,_,rfl,?_⟩;refine ite2 (λe3=>?_) (λe3=>?_)
   ·rw[if_pos (by rw[e3];rfl)]at k';exact k'
   ·have w2:K1.Zq x4 (i+1) n=true:=by simpa using e3
    rw[w2,if_neg (by decide)]at k';refine⟨_,rfl,p,_,5,x5,rfl,rfl,SqT.of hp,at0 5 rfl,x5,T5,0,1000,rfl,h05,_,rfl,?_⟩;refine ite2 (λe4=>?_) (λe4=>?_)
    ·rw[if_pos e4]at k';exact k'
    ·rw[if_neg e4]at k';exact k'
noncomputable def YO(kvs:List (Key×V))(n pa:Int)(p t m:V):V:=if(!ZM p kvs)=true then .str "place" else if(!K1.Zq t 0 n)=true then .str "turn" else match m with
 |.int i=>if(!K1.Zq (.int i) 0 300)=true then .str "number" else if pa+i>300 then .str "people" else .non
 |_=>.str "number"
def Eu(C:Addr):Sp:=λvs H Q _=>∃t p x0 x1 x2 x3 x4 fs d kvs,vs=[.ref t,.ref p]/\Tab H C t fs/\fs.lookup ("room_by_place":Str)=some (.ref d)/\H d=some (.dK kvs) /\H p=some (.tup [x0,x1,x2,x3,x4])/\(∀x∈[x0,x1,x2,x3,x4],∃T,Th H x T)/\Q (wayV kvs x1 x2 x3 x4) H
theorem Hn:FnScope ["table","row","why"] ["table","row"] (Zb T.f_wrong_way):=scO
theorem Eh(G:Txt K mg)(Z:TCl K C)(D:Df K mg "wrong_way" T.f_wrong_way ["table","row"])(CI:Can P w K mg base 2 "is_within" ["thing","low","high"] K1.Xv)(CE:Can P w K mg base 4 "wrong_ends" ["table","start","goal"] (RO C)):Can P w K mg base 5 "wrong_way" ["table","row"] (Eu C):=by
 obtain⟨t1,h1⟩:=G.room;obtain⟨t2,h2⟩:=G.way;have nd:(["table","row","why"]:List Str).Nodup:=by decide +kernel
 refine D.cn Hn λf cdv A outer s H vs Q E hr h=>?_;obtain⟨t,p,x0,x1,x2,x3,x4,fs,d,kvs,rfl,tb,hl,hd,hp,hx,k⟩:=h;obtain⟨dx,ht⟩:=id tb.at_;obtain⟨T1,h01⟩:=hx x1 (by simp);obtain⟨T2,h02⟩:=hx x2 (by simp);obtain⟨T3,h03⟩:=hx x3 (by simp);obtain⟨T4,h04⟩:=hx x4 (by simp);have hr2:Room 2 (A.deeper (de "wrong_way" (Zb T.f_wrong_way) s.heap.objs.size f cdv)):=hr.mono (by decide);refine⟨_,Ze (Z9 (i:=2) nd rfl (bw rfl) (Z2 CE hr rfl (Zj (pv 0) (Zj (Yj Yb (pv 1) Zc (λ_ _=>rfl)) (Zj (Yj Yb (pv 1) Zc (λ_ _=>rfl)) Zf))))) (Ze (ZO (Zw VX (pv 2) Yc (ZC _)) (Zi (Zo (pv 2))) Zy) (Ze (ZO (PW.pt (JH (Z8 (Z1 (Z2 CI hr2 rfl (Zj (Yj Yb (pv 1) Zc (λ_ _=>rfl)) (Zj Zc (Zj (ZR (v:=V.int 50) rfl h2 ⟨t2,rfl⟩) Zf)))))) (Xj (Z8 (Z1 (Z2 CI hr2 rfl (Zj (Yj Yb (pv 1) Zc (λ_ _=>rfl)) (Zj Zc (Zj (ZR (v:=V.int 1000) rfl h1 ⟨t1,rfl⟩) Zf))))))))) (Zi (Zo Zu)) Zy) (Zi (Zo Yc)))),?_⟩;refine⟨_,rfl,_,rfl,p,_,1,x1,rfl,rfl,SqT.of hp,at0 1 rfl,_,rfl,p,_,2,x2,rfl,rfl,SqT.of hp,at0 2 rfl,t,x1,x2,T1,T2,fs,d,kvs,rfl,tb,hl,hd,h01,h02,?_⟩;unfold wayV at k;refine⟨_,rfl,rfl,_,rfl,?_⟩;refine ite2 (λe=>?_) (λe=>?_)
 ·have e':YF kvs x1 x2≠.non:=by simpa using e
  rw[if_pos e']at k;exact⟨_,rfl,k⟩
 ·have e':¬YF kvs x1 x2≠.non:=by simpa using e
  rw[if_neg e']at k;refine⟨_,rfl,p,_,3,x3,rfl,rfl,SqT.of hp,at0 3 rfl,x3,T3,1,50,rfl,h03,_,rfl,?_⟩;refine ite2 (λe2=>?_) (λe2=>?_)
  ·rw[if_pos (by rw[e2];rfl)]at k;exact iteT k
  ·have w1:K1.Zq x3 1 50=true:=by simpa using e2
   rw[w1]at k;refine⟨_,rfl,p,_,4,x4,rfl,rfl,SqT.of hp,at0 4 rfl,x4,T4,0,1000,rfl,h04,_,rfl,?_⟩;refine ite2 (λe3=>?_) (λe3=>?_)
   ·rw[if_pos (by rw[e3];rfl)]at k;exact k
   ·have w2:K1.Zq x4 0 1000=true:=by simpa using e3
    rw[w2,if_neg (by decide)]at k;exact k
def Tr(C:Addr):Sp:=λvs H Q _=>∃t p x0 x1 x2 x3 fs d kvs n pa,vs=[.ref t,.ref p,.int pa]/\Tab H C t fs/\fs.lookup ("room_by_place":Str)=some (.ref d)/\fs.lookup ("turns":Str)=some (.int n)/\H d=some (.dK kvs) /\H p=some (.tup [x0,x1,x2,x3])/\(∀x∈[x0,x1,x2,x3],∃T,Th H x T)/\Q (YO kvs n pa x1 x2 x3) H
theorem DF:FnScope ["table","row","people_ahead"] ["table","row","people_ahead"] (Zb T.f_wrong_group):=scO
theorem Sw(G:Txt K mg)(Z:TCl K C)(D:Df K mg "wrong_group" T.f_wrong_group ["table","row","people_ahead"])(CI:Can P w K mg base 2 "is_within" ["thing","low","high"] K1.Xv)(CP:CanM P w K mg base CX0 2 C "is_place" ["self","thing"] (Pp C "room_by_place")):Can P w K mg base 3 "wrong_group" ["table","row","people_ahead"] (Tr C):=by
 obtain⟨t1,h1⟩:=G.people;refine D.cn DF λf cdv A outer s H vs Q E hr h=>?_;obtain⟨t,p,x0,x1,x2,x3,fs,d,kvs,n,pa,rfl,tb,hl,hn,hd,hp,hx,k⟩:=h;obtain⟨dx,ht⟩:=id tb.at_;obtain⟨T1,h01⟩:=hx x1 (by simp);obtain⟨T2,h02⟩:=hx x2 (by simp);obtain⟨T3,h03⟩:=hx x3 (by simp);refine⟨_,Ze (ZO (Z8 (Z1 (Z4 CP Z.cl YM hr (pv 0) (Zj (Yj Yb (pv 1) Zc (λ_ _=>rfl)) Zf)))) (Zi (Zo Zu)) Zy) (Ze (ZO (Z8 (Z1 (Z2 CI hr rfl (Zj (Yj Yb (pv 1) Zc (λ_ _=>rfl)) (Zj Zc (Zj (ZD (pv 0) rfl) Zf)))))) (Zi (Zo Zu)) Zy) (Ze (ZO (Z8 (Z1 (Z2 CI hr rfl (Zj (Yj Yb (pv 1) Zc (λ_ _=>rfl)) (Zj Zc (Zj (ZR (v:=V.int 300) rfl h1 ⟨t1,rfl⟩) Zf)))))) (Zi (Zo Zu)) Zy) (Ze (ZO (Zw Ll (Zv ZT (pv 2) (Yj Yb (pv 1) Zc (λ_ _=>rfl))) (ZR (v:=V.int 300) rfl h1 ⟨t1,rfl⟩) (ZC _)) (Zi (Zo Zu)) Zy) (Zi (Zo Yc))))),?_⟩;unfold YO at k;refine mthV ht (tb.only _ (by decide +kernel)) ⟨_,rfl,p,_,1,x1,rfl,rfl,SqT.of hp,at0 1 rfl,t,x1,T1,fs,d,kvs,rfl,tb,hl,hd,h01,_,rfl,?_⟩;refine ite2 (λe=>?_) (λe=>?_)
 ·rw[if_pos e]at k;exact k
 rw[if_neg e]at k;refine⟨_,rfl,p,_,2,x2,rfl,rfl,SqT.of hp,at0 2 rfl,_,rfl,t,C,dx,fs,_,rfl,ht,Z.cl,Z.na _ (by simp[fields]),hn,x2,T2,0,n,rfl,h02,_,rfl,?_⟩;refine ite2 (λe2=>?_) (λe2=>?_)
 ·rw[if_pos e2]at k;exact k
 rw[if_neg e2]at k;refine⟨_,rfl,p,_,3,x3,rfl,rfl,SqT.of hp,at0 3 rfl,x3,T3,0,300,rfl,h03,_,rfl,?_⟩;refine ite2 (λe3=>?_) (λe3=>?_)
 ·cases x3 with
 |int i=>have k':Q (if(!K1.Zq (.int i) 0 300)=true then V.str "number" else if pa+i>300 then .str "people" else .non) H:=k;rw[if_pos e3]at k';exact k'
 |_=>exact k
 ·obtain⟨i,rfl⟩:∃i,x3=.int i:=by
   cases x3 with
  |int i=>exact⟨i,rfl⟩
  |_=>exact absurd rfl e3
  have k':Q (if(!K1.Zq (.int i) 0 300)=true then V.str "number" else if pa+i>300 then .str "people" else .non) H:=k;rw[if_neg e3]at k';refine⟨_,rfl,_,rfl,p,_,3,_,rfl,rfl,SqT.of hp,at0 3 rfl,_,_,rfl,rfl,_,_,rfl,rfl,_,rfl,?_⟩;refine ite2 (λe4=>?_) (λe4=>?_)
  ·rw[if_pos (by simpa using e4)]at k';exact k'
  ·rw[if_neg (by simpa using e4)]at k';exact k'
end
end TB
namespace L2
open PySem PySem.Spec PyProof.Rows
theorem sameNew{l:Addr}{H H1:Hp}{o:HO}(x:Same H H1)(hl:H1 l=none):Same H (upd H1 l o):=λc u h=>by rw[Zh (Zk (x c u h) hl)];exact x c u h
theorem nl{c:Addr}{H:Hp}{o:HO}{G:Hp->Prop}(h:H c=none)(k:∀H',Same H H'->H' c=some o->G H'):G (upd H c o):=k _ (sameNew (λ_ _ e=>e) h) Zd
theorem nl2{c:Addr}{H:Hp}{o:HO}{R:Type}{q:R}{G:Hp->R->Prop}(h:H c=none)(k:∀H',Same H H'->H' c=some o->G H' q):G (upd H c o) q:=nl (G:=λH=>G H q) h k
theorem SU:∀{cs:List String}{us:List Value},Vals (cs.map V.ty) us->us=cs.map Value.type
|[],_,h=>by cases h;rfl
|c::cs,_,h=>by
  cases h with
 |cons r t=>have e:=SU t;cases(show _=Value.type c from r);rw[e];rfl
section
variable {X:Cx}
theorem Kl:Jh X (.builtin "isinstance") (λxs H Q=>∃(x:V)(p:Addr)(cs:List String)(T:String)(b:Bool),xs=[x,.ref p]/\Th H x T/\H p=some (.tup (cs.map V.ty))/\g8 X.K (.type T) (cs.map Value.type)=some b/\Q (.bl b) H):=by
 intro pins s σ H xs us Q I r h;obtain⟨x,p,cs,T,b,rfl,th,hp,e,q⟩:=h;obtain⟨u,w',rfl,ru,rw'⟩:=vals2 r;cases(show w'=Value.ref p from rw');obtain⟨_,its,rv,⟨oc,od,odt,osl⟩,h1,hc,n,hdt⟩:=(show ZP X.prog X.w H s.heap p (.tup (cs.map V.ty))from I.hok p _ hp);have ei:=SU rv;subst ei;obtain rfl:oc=.type "tuple":=hc;obtain rfl:odt=.seq (cs.map Value.type).toArray n:=hdt;have fin:∀tk,EP X pins σ Q (.bool b) {s with toks:=tk}:=λtk=>⟨.bl b,H,I.tok tk,rfl,q⟩;cases th with
|non=>cases(show u=Value.none from ru);exact c_ PySem.W.kitx_none I.kIn bK h1 e (λz=>nomatch z) fin
|bl y=>cases(show u=Value.bool y from ru);exact c_ PySem.W.kitx_bool I.kIn bK h1 e (λz=>nomatch z) fin
|int i=>obtain⟨t,z⟩:=(show ∃t,u=Value.int i t from ru);cases z;exact c_ PySem.W.kitx_int I.kIn bK h1 e (λz=>nomatch z) fin
|str y _=>obtain⟨t,z⟩:=(show ∃t,u=Value.str y t from ru);cases z;exact c_ PySem.W.kitx_str I.kIn bK h1 e (λz=>nomatch z) fin
|@lst a xs ea=>cases(show u=Value.ref a from ru);obtain⟨_,_,n',_,h2⟩:=(show ZP X.prog X.w H s.heap a (.lst xs)from I.hok a _ ea);exact c_ gu I.kIn ⟨_,h2,rfl⟩ h1 e (λz=>nomatch z) fin
|@tup a xs ea=>cases(show u=Value.ref a from ru);obtain⟨_,_,_,o,h2,h3,_⟩:=(show ZP X.prog X.w H s.heap a (.tup xs)from I.hok a _ ea);exact c_ PySem.W.kitx_tuple I.kIn ⟨o,h2,h3⟩ h1 e (λz=>nomatch z) fin
|@dK a kvs ea=>cases(show u=Value.ref a from ru);obtain⟨_,_,vs,_,o,es,ep,h2,h3,_⟩:=(show ZP X.prog X.w H s.heap a (.dK kvs)from I.hok a _ ea);exact c_ gv I.kIn ⟨o,h2,h3.1⟩ h1 e (λz=>nomatch z) fin
end
theorem Th.kitLT{K:aa}{H:Hp}{v:V}{T:String}(h:Th H v T):g8 K (.type T) (["list","tuple"].map Value.type)=some (decide (T="list"\/T="tuple")):=by cases h<;>(first|kernel_rfl|(unfold g8;rfl))
end L2
namespace TB
open PySem L2 PySem.Spec PyProof.Rows
structure Mosts(K:aa)(w:World)(mg:Str->Option Value):Prop where
 at_:∃a,mg "MOST_ROWS"=some (.ref a)/\Jg K w a "places" (.int 14)/\Jg K w a "rides" (.int 80)/\Jg K w a "ways" (.int 40)/\Jg K w a "groups" (.int 300)
noncomputable def MN:List (Str×Nat):=[("places",14),("rides",80),("ways",40),("groups",300)]
def Part(H:Hp)(v:V)(r:Option (List V)):Prop:=match r with
|none=>∃T,Th H v T/\T≠"list"/\T≠"tuple"
|some xs=>∃p,v=.ref p/\(H p=some (.lst xs)\/H p=some (.tup xs))
def RM(C:Addr):Sp:=λvs H Q E=>∃z n v r,vs=[.str z,v]/\(z,n)∈MN/\Part H v r/\match r with
|none=>∀H1,Same H H1->Bad C (.str z) .non (.str "form") H1 E
|some xs=>if xs.length>n then ∀H1,Same H H1->Bad C (.str z) (.int n) (.str "many") H1 E else ∀H1 l,Same H H1->H1 l=some (.tup xs)->Q (.ref l) H1
section
variable {P:Program}{w:World}{K:aa}{mg:Str->Option Value}{base:Heap}{C:Addr}
theorem EY:FnScope ["part","rows"] ["part","rows"] (Zb T.f_rows_of):=scO
theorem L5(G:Txt K mg)(M:Mosts K w mg)(B:Err P w K mg base "BadTable" ["part","at","why"] C)(D:Df K mg "rows_of" T.f_rows_of ["part","rows"]):CanX P w K mg base 3 "rows_of" ["part","rows"] (RM C):=by
 obtain⟨aM,hM,k1,k2,k3,k4⟩:=M.at_;refine D.cnX EY λf cdv A outer s H vs Q E hr h=>?_;obtain⟨z,n,v,r,rfl,hz,hp,h⟩:=h;have hK:Jg K w aM z (.int n):=by simp only[MN,aA,eJ,aJ,or_false]at hz;rcases hz with⟨rfl,rfl⟩|⟨rfl,rfl⟩|⟨rfl,rfl⟩|⟨rfl,rfl⟩<;>assumption
 refine⟨_,Ze (ZO (Z8 (Z1 (ZG Kl rfl G.isi bo (Zj (pv 1) (Zj (ZE (Zj (Qr (v:=V.ty "list") rfl G.lst GW rfl) (Zj (Qr (v:=V.ty "tuple") rfl G.tup VQ rfl) Zf))) Zf))))) (Zi (Xk (E:=E) B Yt rfl hr rfl (Zj (pv 0) (Zj Yc (Zj Zu Zf))))) Zy) (Ze (ZO (Zw Ll (ZG J6 rfl G.len bC (Zj (pv 1) Zf)) (Qq (ZR (v:=V.ref aM) rfl hM rfl) (pv 0) (λ_ _=>rfl)) (ZC _)) (Zi (Xk (E:=E) B Yt rfl hr rfl (Zj (pv 0) (Zj (Qq (ZR (v:=V.ref aM) rfl hM rfl) (pv 0) (λ_ _=>rfl)) (Zj Zu Zf))))) Zy) (Zi (Zo (Y2 JE rfl G.tup VQ (Zj (pv 1) Zf))))),?_⟩;cases r with
|none=>obtain⟨T',th,n1,n2⟩:=hp;refine⟨_,rfl,zl,λl hl=>?_⟩;have sm:Same H (upd H l (.tup [V.ty "list",V.ty "tuple"])):=sameNew (Same.refl H) hl;refine⟨v,l,["list","tuple"],T',_,rfl,th.same sm,Zd ..,(th.same sm).kitLT,_,rfl,?_⟩;rw[decide_eq_false (by simp[n1,n2])];refine iteT ?_;exact⟨_,rfl,rfl,h _ sm⟩
|some xs=>
  obtain⟨p,rfl,hp⟩:=hp;obtain⟨T',th,hT⟩:∃T',Th H (.ref p) T'/\(T'="list"\/T'="tuple"):=by
   rcases hp with hp|hp
   ·exact⟨_,.lst hp,.inl rfl⟩
   ·exact⟨_,.tup hp,.inr rfl⟩
  refine⟨_,rfl,zl,λl hl=>?_⟩;have sm:Same H (upd H l (.tup [V.ty "list",V.ty "tuple"])):=sameNew (Same.refl H) hl;refine⟨.ref p,l,["list","tuple"],T',_,rfl,th.same sm,Zd ..,(th.same sm).kitLT,_,rfl,?_⟩;rw[decide_eq_true hT];refine iteF ?_;generalize upd H l (.tup [V.ty "list",V.ty "tuple"])=H1 at sm ⊢;have hs:SqL K H1 p xs\/SqT K H1 p xs:=by
   rcases hp with hp|hp
   ·exact .inl (SqL.of (sm _ _ hp))
   ·exact .inr (SqT.of (sm _ _ hp))
  refine⟨_,rfl,p,xs,rfl,hs,_,rfl,aM,z,.int n,rfl,rfl,hK,_,_,rfl,rfl,_,rfl,?_⟩;dsimp only at h;refine ite2 (λe=>?_) (λe=>?_)
  ·have e':xs.length>n:=by simpa using e
   rw[if_pos e']at h;exact⟨_,rfl,_,rfl,aM,z,.int n,rfl,rfl,hK,rfl,h _ sm⟩
  ·have e':¬xs.length>n:=by simpa using e
   rw[if_neg e']at h;refine⟨_,rfl,p,xs,rfl,?_⟩;rcases hp with hp|hp
   ·exact .inl ⟨SqL.of (sm _ _ hp),λl2 hl2=>h _ l2 (sameNew sm hl2) (Zd ..)⟩
   ·exact .inr ⟨SqT.of (sm _ _ hp),h _ p sm (sm _ _ hp)⟩
end
end TB
namespace L2
open PySem PySem.Spec PyProof.Rows
open AutoSeq1 (wpAny_loadPart')
section
variable {prog:Program}{w:World}{A:aX}{E:Value->ag->Prop}{s:ag}
theorem DX{it t:Addr}{i:Nat}{items:Array Value}{x:Value}{Q:Value->ag->Prop}(hit:s.heap.IsTupleIter it t i)(ht:s.heap.IsTuple t items)(hx:items[i]?=some x)(hQ:∀h',h'.IsTupleIter it t (i+1)->Heap.SameBut it s.heap h'->Q x {s with heap:=h'}):wpAny (model prog w) A (a_ (.ref it)) Q E s:=by obtain⟨o,ho,hc,hd⟩:=id hit;obtain⟨ol,hol,_,nl,hdl⟩:=id ht;unfold a_;refine ae (bR (name:=Str.ofString "__next__") hit.typeIs F.slot_tuple_iterator_next (cj F.slot_tuple_iterator_next hit.typeIs F.entry_tuple_iterator_next ?_ (F.args_tuple_iterator_next_1 _)));show wpAny (model prog w) _ (field (.ref it) 0 >>= _) _ _ s;refine ae (bt (x:=.ref t) ho hd rfl ?_);show wpAny (model prog w) _ (if(Value.ref t==Value.none)=true then _ else _) _ _ s;rw[if_neg (by exact Bool.false_ne_true)];show wpAny (model prog w) _ (field (.ref it) 1 >>= _) _ _ s;refine ae (bt (x:=.int i 0) ho hd rfl ?_);show wpAny (model prog w) _ (seqItems? (.ref t) >>= _) _ _ s;refine ae (fo hol hdl ?_);simp only[hx,Int.toNat_natCast];refine ae (bW ho hd (by simp) (ao ⟨x,rfl,ao (hQ _ ⟨_,Heap.get?_update_self _ ho (Obj.isFreed_of_fields (Obj.data_mapFields hd _)),(Obj.cls_mapFields ..).trans hc,by rw[Obj.data_mapFields hd];simp[bU]⟩ (Heap.SameBut.update ..))⟩))
theorem Lr{it t:Addr}{i:Nat}{items:Array Value}{Q:Value->ag->Prop}(hh:A.handled=none)(hit:s.heap.IsTupleIter it t i)(ht:s.heap.IsTuple t items)(hx:items[i]?=none)(hE:∀h' e,Heap.ExtBut it s.heap h'->(∃o,h'.get? e=some o/\o.cls=.type "StopIteration")->E (.ref e) {s with heap:=h'}):wpAny (model prog w) A (a_ (.ref it)) Q E s:=by
 obtain⟨o,ho,hc,hd⟩:=id hit;obtain⟨ol,hol,_,nl,hdl⟩:=id ht;unfold a_;refine ae (bR (name:=Str.ofString "__next__") hit.typeIs F.slot_tuple_iterator_next (cj F.slot_tuple_iterator_next hit.typeIs F.entry_tuple_iterator_next ?_ (F.args_tuple_iterator_next_1 _)));show wpAny (model prog w) _ (field (.ref it) 0 >>= _) _ _ s;refine ae (bt (x:=.ref t) ho hd rfl ?_);show wpAny (model prog w) _ (if(Value.ref t==Value.none)=true then _ else _) _ _ s;rw[if_neg (by exact Bool.false_ne_true)];show wpAny (model prog w) _ (field (.ref it) 1 >>= _) _ _ s;refine ae (bt (x:=.int i 0) ho hd rfl ?_);show wpAny (model prog w) _ (seqItems? (.ref t) >>= _) _ _ s;refine ae (fo hol hdl ?_);simp only[hx,Int.toNat_natCast];refine ae (wpAny_rule (ae (bW ho hd (by simp) ?_)));show wpAny (model prog w) _ (newExc (.type "StopIteration") [] >>= _) _ _ _;refine ae ?_;simp only[newTuple,newExc];refine ae (bX (ae (m:=gH _ _) (wpAny_of_eq (a:=Value.none) (by first|rfl|(simp only[gH];rfl)) (bX ?_ (by size_fits)))) (by size_fits))
 simp only[raiseNew];refine ae (wpAny_handled ?_);first|rw[show A.in1.handled=none from hh]|rw[hh]
 refine ae (ao (wpAny_throw ?_));exact hE _ _ (((Heap.SameBut.update ..).extBut.push _).push _) ⟨_,Heap.get?_push_size _ rfl,rfl⟩
end
theorem PJ{prog:Program}{w:World}{A:aX}(hh:A.handled=none)(it t:Addr)(hne:t≠it)(items:Array Value):
  Draws prog w A it [it,t] items.size (λi v=>items[i]?=some v) (λi h=>h.IsTupleIter it t i/\h.IsTuple t items) where
 live:=λ_ _ st=>by obtain⟨⟨o,ho,_⟩,_⟩:=st;exact⟨o,ho⟩
 frame:=λ_ _ _ st hk=>by
  obtain⟨⟨o,ho,r⟩,⟨o2,ho2,r2⟩⟩:=st
  exact⟨⟨o,hk it (by simp) o ho,r⟩,⟨o2,hk t (by simp) o2 ho2,r2⟩⟩
 item:=λi s Q E hi st hQ=>DX st.1 st.2 (x:=items[i]) (by simp[hi]) λh' hit' hs'=>hQ _ h' s.toks (by simp[hi]) ⟨hit',st.2.extBut hs'.extBut hne⟩ hs'
 done:=λs Q E st hE=>Lr hh st.1 st.2 (by simp) hE
theorem WY(l:Addr)(items:Array Value)(n:Nat)(dct:Option Addr)(sl:Array (Option Value)):Meets (dG.«enumerate.__new__» ⟨[.type "enumerate",.ref l],[]⟩) (λ_ R s=>s.heap.get? l=some {cls:=.type "tuple",dict:=dct,data:=.seq items n,slots:=sl} /\R (.ok (.ret (.ref (s.heap.push {cls:=.type "tuple_iterator",data:=.fields #[.ref l,.int 0 0]}).objs.size))) {s with heap:=(s.heap.push {cls:=.type "tuple_iterator",data:=.fields #[.ref l,.int 0 0]}).push {cls:=.type "enumerate",data:=.fields #[.none,.bool false,.ref s.heap.objs.size,bU 0,.none,.none]}}):=.of_wp λprog w A R s h=>by
  obtain⟨hp,g,d,tk,os⟩:=s;obtain⟨hl,h⟩:=h;have hsub:=sub_enumerate;have hT:Heap.IsTuple (Shared.heap ⟨hp,g,d,tk,os⟩) l items:=⟨_,hl,rfl,n,rfl⟩;wp_walk using gf hl;refine wpAny_stack_any λst=>ao ?_;split
  ·rename_i c _ _ _ _ _;cases(c==Value.type "enumerate")<;>(wp_walk using gf hl,gZ hT;exact⟨_,rfl,h⟩)
  ·wp_walk using gf hl,gZ hT;exact⟨_,rfl,h⟩
theorem SK{prog:Program}{w:World}{A:aX}{E:Value->ag->Prop}{s:ag}{l:Addr}{items:Array Value}{Q:Value->ag->Prop}(hL:s.heap.IsTuple l items)(h:∀h',IsEnum h' (s.heap.objs.size+1) s.heap.objs.size 0 .none->h'.IsTupleIter s.heap.objs.size l 0->(∀b o,s.heap.get? b=some o->h'.get? b=some o)->Q (.ref (s.heap.objs.size+1)) {s with heap:=h'}):wpAny (model prog w) A (call (.type "enumerate") [.ref l]) Q E s:=by
 obtain⟨⟨c,dct,dt,sl⟩,hl,hc,n,hd⟩:=hL;simp only at hc hd;subst hc hd;refine callType_new F.called_enumerate (by decide) (F.typeCall_enumerate_1 _) (F.newCall_enumerate_1 _) (λobj=>F.args_object_init_2 obj _) F.entry_enumerate_new (WY l items n dct sl) ⟨hl,?_⟩;have hz:(s.heap.push {cls:=.type "tuple_iterator",data:=.fields #[.ref l,.int 0 0]}).objs.size=s.heap.objs.size+1:=Heap.size_push ..;show _/\_;rw[hz];have he:IsEnum ((s.heap.push {cls:=.type "tuple_iterator",data:=.fields #[.ref l,.int 0 0]}).push {cls:=.type "enumerate",data:=.fields #[.none,.bool false,.ref s.heap.objs.size,bU 0,.none,.none]}) (s.heap.objs.size+1) s.heap.objs.size 0 .none:=by have:=Heap.get?_push_size (s.heap.push {cls:=.type "tuple_iterator",data:=.fields #[.ref l,.int 0 0]}) (o:={cls:=.type "enumerate",data:=.fields #[.none,.bool false,.ref s.heap.objs.size,bU 0,.none,.none]}) rfl;rwa [hz]at this
 exact⟨⟨_,he,rfl⟩,h _ he ⟨_,Heap.get?_push_of_some _ (Heap.get?_push_size _ rfl),rfl,rfl⟩ λb o x=>Heap.get?_push_of_some _ (Heap.get?_push_of_some _ x)⟩
noncomputable def Iten(l:Addr):It:=⟨λi H=>∃xs,H l=some (.tup xs)/\i<xs.length,λi H x H'=>∃(T:Addr)(xs:List V)(y:V),H T=none/\H l=some (.tup xs)/\xs[i]?=some y/\x=.ref T/\H'=upd H T (.tup [.int i,y]),λi H=>∃xs,H l=some (.tup xs)/\i=xs.length⟩
theorem RF{P:Program}{w:World}{K:aa}{es:List Expr}{k:Nat}{pt:Pos}(l e it:Addr)(hei:e≠it)(hle:l≠e)(hli:l≠it):
  Turn P w K (.Tuple es k pt) (Iten l) [e,it] e (λi h=>(∃old,IsEnum h e it i old)/\h.IsTupleIter it l i) where
 mem:=by simp
 obj:=λi h st b hb=>by
  obtain⟨⟨old,he⟩,o,ho,c,d⟩:=st
  have hb':b=e\/b=it:=by simpa using hb
  rcases hb' with rfl|rfl
  ·exact⟨_,he,λv z=>by cases z⟩
  ·exact⟨o,ho,λv z=>by rw[d]at z;cases z⟩
 keep:=λi h h' st kk=>by
  obtain⟨⟨old,he⟩,o,ho,r⟩:=st
  exact⟨⟨old,kk e (by simp) _ he⟩,o,kk it (by simp) o ho,r⟩
 item:=by
  intro X hP hw hK hc i pins s σ H E I hf st hg
  subst hP hw hK
  obtain⟨xs,hx,hi⟩:=hg
  obtain⟨⟨old,he⟩,hs⟩:=st
  obtain⟨its,rv,pl,_⟩:=I.tuple (SqT.of hx)
  have hlen:=rv.length
  have D:=PJ (prog:=X.prog) (w:=X.w) (A:=X.A.in1) (I.ok.hd hc) it l hli its.toArray
  have W:=eM D e hei (by simp[hei,bA hle]) (by simp)
  refine W.item i s _ _ (by simp only[au];omega) ⟨⟨old,he⟩,hs,pl⟩ λT vals h' tk hv hT ht hm kk=>?_
  obtain⟨tk',u,hu,rfl⟩:=hv
  obtain⟨y,hy⟩:∃y,xs[i]?=some y:=⟨xs[i],gE hi⟩
  obtain⟨u2,hu2,ru⟩:=rv.get hy
  have hu':its[i]?=some u:=by simpa using hu
  rw[hu']at hu2;cases hu2
  refine⟨_,rfl,?_⟩
  refine W.go es k pt i T {s with heap:=h',toks:=tk} _ _ hm λh2 st2 kk2=>?_
  have hTn:H T=none:=I.hok.fresh hT
  have hap:=W.apart i T h' hm
  have hb2:∀b,b∉[e,it]->∀o,s.heap.get? b=some o->h2.get? b=some o:=λb hb o q=>kk2 b o hb (kk b o hb q)
  have nb:∀b u,H b=some u->b∉[e,it]:=λb u q hb=>by rw[(hf b hb).1]at q;cases q
  have I1:Inv X pins σ (upd H T (.tup [.int i,y])) {s with heap:=h2,toks:=tk}:=by
   refine I.step (g':=s.gens) (d':=s.drawn) (ch:=[e,it]) (λb hb=>?_) (λb o _ _ hb q _=>hb2 b hb o q) (λb o _ _ hb q _=>⟨o.slots,hb2 b hb o q⟩)
    (λb o hb q n=>?_) (λb o hb q=>⟨o,hb2 b hb o q⟩) (λb xs q=>?_) (λb o u q=>?_) (λb ps q=>?_) (λm hm=>?_) ?_ I.bare
   ·obtain⟨g0,g1,g2,g3,g4,g5⟩:=hf b hb
    exact⟨g3,g1,g4,g5⟩
   ·rw[Zh (Nat.ne_of_lt (Nat.lt_of_lt_of_le (Heap.lt_size q) hT))];exact n
   ·rw[Zh (Zk q hTn)];exact q
   ·rw[Zh (Zk q hTn)];exact q
   ·exact⟨#[],by rw[Zh (Zk q hTn),q];simp⟩
   ·obtain⟨o,es',ep,ho,r⟩:=hm
    refine⟨o,es',ep,hb2 _ ?_ o ho,r⟩
    intro hb
    obtain⟨g0,g1,_⟩:=hf _ hb
    exact g1 rfl
   ·intro b ob q
    by_cases hb:b=T
    ·subst hb
     rw[Zd]at q
     cases q
     obtain⟨o,h1,h2',h3⟩:=ht
     exact⟨zl,[.int i tk',u],.cons ⟨_,rfl⟩ (.cons ru .nil),⟨o,kk2 _ _ hap h1,h2',h3⟩⟩
    ·rw[Zh hb]at q
     refine(I.hok b ob q).stay (λc' v hc' q'=>hb2 c' ?_ v q') (λc' q'=>by rw[Zh (Zk q' hTn)];exact q') λc' xs q'=>by rw[Zh (Zk q' hTn)];exact q'
     rcases hc' with rfl|hc'
     ·exact nb _ _ q
     ·exact nb _ _ hc'
  refine⟨.ref T,_,I1,rfl,⟨T,xs,y,hTn,hx,hy,rfl,rfl⟩,⟨st2.1,st2.2.1⟩,λb hb=>?_⟩
  rw[Zh]
  ·exact(hf b hb).1
  ·rintro rfl
   exact hap hb
 done:=by
  intro X hP hw hK hc i pins s σ H E I hf st hg
  subst hP hw hK
  obtain⟨xs,hx,hi⟩:=hg
  obtain⟨⟨old,he⟩,hs⟩:=st
  obtain⟨its,rv,pl,_⟩:=I.tuple (SqT.of hx)
  have hlen:=rv.length
  have D:=PJ (prog:=X.prog) (w:=X.w) (A:=X.A.in1) (I.ok.hd hc) it l hli its.toArray
  have W:=eM D e hei (by simp[hei,bA hle]) (by simp)
  have ei:i=its.toArray.size:=by simp only[au];omega
  subst ei
  refine W.done s _ _ ⟨⟨old,he⟩,hs,pl⟩ λh' tk kk=>⟨rfl,?_⟩
  have nb:∀b u,H b=some u->b∉[e,it]:=λb u q hb=>by rw[(hf b hb).1]at q;cases q
  refine I.step (g':=s.gens) (d':=s.drawn) (ch:=[e,it]) (λb hb=>?_) (λb o _ _ hb q _=>kk b o hb q) (λb o _ _ hb q _=>⟨o.slots,kk b o hb q⟩)
   (λb o hb q n=>n) (λb o hb q=>⟨o,kk b o hb q⟩) (λb xs q=>q) (λb o u q=>q) (λb ps q=>⟨#[],by rw[q];simp⟩) (λm hm=>?_) (λb u q=>?_) I.bare
  ·obtain⟨g0,g1,g2,g3,g4,g5⟩:=hf b hb
   exact⟨g3,g1,g4,g5⟩
  ·obtain⟨o,es',ep,ho,r⟩:=hm
   refine⟨o,es',ep,kk _ o ?_ ho,r⟩
   intro hb
   obtain⟨g0,g1,_⟩:=hf _ hb
   exact g1 rfl
  ·refine(I.hok b u q).stay (λc' v hc' q'=>kk c' v ?_ q') (λ_ q'=>q') λ_ _ q'=>q'
   rcases hc' with rfl|hc'
   ·exact nb _ _ q
   ·exact nb _ _ hc'
 self:=λA i s Q E st h=>by
  obtain⟨⟨old,he⟩,_⟩:=st
  exact fE he h
section
variable {X:Cx}
noncomputable def iEnT(ta:TA):TI:=λσ H R=>ta σ H λvs H1=>∃(l:Addr)(xs:List V),vs=[.ref l]/\H1 l=some (.tup xs)/\R (Iten l) H1
theorem US{a:Expr}{ta:TA}{p pos pt:Pos}{es:List Expr}{k:Nat}(hg:Gl X "enumerate")(hm:X.mg "enumerate"=none)(ha:PA X [a] ta)(hb:bF "enumerate"=some (.type "enumerate"))(hs:aD [a] X.env=[(false,eval a X.env)]:=by rfl):PI X (.Tuple es k pt) (.Call (.Name "enumerate" p) [a] [] pos) (iEnT ta):=by
 intro pins s σ H R I h;refine Call_ (J1 I hg hm hb (br (thn (ha pos pins s σ H _ I h) λus s1 hZ=>?_) hs rfl));obtain⟨vs,H1,I1,r1,q1⟩:=hZ;obtain⟨l,xs,e,hx,q⟩:=q1;subst e;cases r1 with
|cons r rr=>
  cases rr;cases r;obtain⟨its,rv,pl,_⟩:=I1.tuple (SqT.of hx);refine SK pl λh' he hst kk=>?_;have I2:Inv X pins σ H1 {s1 with heap:=h'}:=I1.kept (t':=s1.toks) kk;refine fE he ?_;have lt:l<s1.heap.objs.size:=I1.hok.lt hx;refine⟨s1.heap.objs.size+1,[s1.heap.objs.size+1,s1.heap.objs.size],_,_,H1,rfl,I2,RF l (s1.heap.objs.size+1) s1.heap.objs.size (Nat.succ_ne_self _) (Nat.ne_of_lt (Nat.lt_succ_of_lt lt)) (Nat.ne_of_lt lt),⟨⟨_,he⟩,hst⟩,λb hb=>?_,q⟩;have e:b=s1.heap.objs.size+1\/b=s1.heap.objs.size:=by simpa using hb
  rcases e with e|e<;>subst e
  ·exact I1.fpOk (Nat.le_succ _) (I1.hok.fresh (Nat.le_succ _))
  ·exact I1.fpOk (Nat.le_refl _) (I1.hok.fresh (Nat.le_refl _))
end
theorem Nc:bF "enumerate"=some (.type "enumerate"):=by decide +kernel
def tOrX(K:aa)(ta tb:TE):TE:=λσ H Q=>ta σ H λx H1=>∃k,TruV K x H1 k/\if k=true then Q x H1 else tb σ H1 Q
theorem Qp{X:Cx}{a b:Expr}{rest:List Expr}{pos:Pos}{ta tb:TE}(ha:PE X a ta)(hb:PE X (.BoolOp .Or (b::rest) pos) tb):PE X (.BoolOp .Or (a::b::rest) pos) (tOrX X.K ta tb):=by
 intro pins s σ H Q I h;refine BoolOp_or (thn (ha pins s σ H _ I h) λv s1 hZ=>?_);obtain⟨x,H1,I1,r1,k,q1,q2⟩:=hZ;refine thn (ES pins s1 σ H1 x v (λk' H'=>H'=H1/\k'=k) I1 r1 ⟨k,q1,rfl,rfl⟩) λc s2 hZ=>?_;obtain⟨H2,I2,e1,e2⟩:=hZ;subst e1 e2;cases c with
|false=>exact hb pins s2 σ H2 Q I2 q2
|true=>exact⟨x,H2,I2,r1,q2⟩
def Zg(b:Addr)(H H':Hp):Prop:=∀c o,H c=some o->c≠b->H' c=some o
theorem Zg.refl(b:Addr)(H:Hp):Zg b H H:=λ_ _ h _=>h
theorem Zg.trans{b:Addr}{H H1 H2:Hp}(x:Zg b H H1)(y:Zg b H1 H2):Zg b H H2:=λc o h hc=>y c o (x c o h hc) hc
theorem Zg.upd{b:Addr}{H H1:Hp}{o:HO}(x:Zg b H H1):Zg b H (upd H1 b o):=λc u h hc=>by rw[Zh hc];exact x c u h hc
theorem Zg.of{b:Addr}{H H1:Hp}(x:Same H H1):Zg b H H1:=λc u h _=>x c u h
theorem Th.sameB{H H':Hp}{t C dx:Addr}{fs:List (Str×V)}(ht:H t=some (.ins C dx fs))(s:Zg t H H'){v:V}{T:String}(h:Th H v T):Th H' v T:=by
 cases h with
|non=>exact .non
|bl b=>exact .bl b
|int i=>exact .int i
|str z h=>exact .str z h
|lst e=>exact .lst (s _ _ e (ne_of e ht (by intro z;cases z)))
|tup e=>exact .tup (s _ _ e (ne_of e ht (by intro z;cases z)))
|dK e=>exact .dK (s _ _ e (ne_of e ht (by intro z;cases z)))
theorem Xz{J:It}{g:TG}{tb:TS}{D:Ends}{σ:L2.St}{H:Hp}(n:Nat)(Pv:Nat->L2.St->Hp->Prop)(h0:Pv 0 σ H)(hgo:∀i σ H,i<n->Pv i σ H->J.go i H)(hstop:∀σ H,Pv n σ H->J.stop n H)(hs:∀i σ H x H',i<n->Pv i σ H->J.yld i H x H'->g x σ H' λσ2 H2=>tb {D with nx:=Pv (i+1),ct:=Pv (i+1),bk:=D.nx} σ2 H2)(hd:∀σ H,Pv n σ H->D.nx σ H):∃W:Nat->Nat->L2.St->Hp->Prop,(∃m,W 0 m σ H)/\∀i m σ H,W i m σ H ->(J.stop i H/\D.nx σ H)\/(J.go i H/\∃N:L2.St->Hp->Prop,(∀σ' H',N σ' H'->∃m',m'<m/\W (i+1) m' σ' H')/\∀x H',J.yld i H x H'->g x σ H' λσ2 H2=>tb {D with nx:=N,ct:=N,bk:=D.nx} σ2 H2):=by
 refine⟨λi m σ H=>m=n-i/\i<=n/\Pv i σ H,⟨n,rfl,Nat.zero_le _,h0⟩,?_⟩;rintro i m σ H ⟨rfl,hi,p⟩;by_cases hlt:i<n
 ·exact .inr ⟨hgo i σ H hlt p,Pv (i+1),λσ' H' p'=>⟨n-(i+1),by omega,rfl,hlt,p'⟩,λx H' y=>hs i σ H x H' hlt p y⟩
 ·have e:i=n:=by omega
  subst e;exact .inl ⟨hstop σ H p,hd σ H p⟩
end L2
namespace TB
open PySem L2 PySem.Spec PyProof.Rows
theorem Row.sameB{H H':Hp}{t C dx:Addr}{fs:List (Str×V)}(ht:H t=some (.ins C dx fs))(s:Zg t H H'){v:V}{r:Option (List V)}(h:Row H v r):Row H' v r:=by
 cases r with
|none=>obtain⟨T,th,hT⟩:=h;exact⟨T,th.sameB ht s,hT⟩
|some xs=>obtain⟨p,rfl,hp,hx⟩:=h;exact⟨p,rfl,s _ _ hp (ne_of hp ht (by intro z;cases z)),λx hx'=>let ⟨T,th⟩:=hx x hx';⟨T,th.sameB ht s⟩⟩
def ZZ(H:Hp)(xs:List V)(rs:List (Option (List V))):Prop:=xs.length=rs.length/\∀(i:Nat)x r,xs[i]?=some x->rs[i]?=some r->Row H x r
noncomputable def Yi:Nat->List (Key×V)->List (Option (List V))->Sum (Nat×V) (List (Key×V))
|_,kvs,[]=>.inr kvs
|i,kvs,r::rs=>
  if begR false 2 kvs r≠.non then .inl (i,begR false 2 kvs r)else match r with
  |some [.str n,room]=>if Yh room≠.non then .inl (i,Yh room)else Yi (i+1) (putK kvs (.inr n) room) rs
  |_=>.inl (i,.str "form")
theorem NB{i:Nat}{kvs:List (Key×V)}{r:Option (List V)}{rs:List (Option (List V))}(h:begR false 2 kvs r≠.non):Yi i kvs (r::rs)=.inl (i,begR false 2 kvs r):=by unfold Yi;rw[if_pos h]
theorem VR{g:Bool}{n:Nat}{kvs:List (Key×V)}{r:Option (List V)}(h:begR g n kvs r=.non):∃xs y,r=some xs/\xs.length=n/\xs.getD 0 .non=.str y:=by
 cases r with
|none=>cases h
|some xs=>
  have h':begV g n kvs xs=.non:=h;unfold begV at h';by_cases h1:xs.length≠n
  ·rw[if_pos h1]at h';cases h'
  ·rw[if_neg h1]at h';by_cases h2:Z5 g (xs.getD 0 .non)=false
   ·rw[if_pos h2]at h';cases h'
   ·have h2':Z5 g (xs.getD 0 .non)=true:=by simpa using h2
    unfold Z5 at h2';cases e:xs.getD 0 .non with
   |str y=>exact⟨xs,y,rfl,by omega,e⟩
   |_=>rw[e]at h2';split at h2'<;>cases h2'
def Wn(v:V):Prop:=v=.non\/∃z:Str,v=.str z/\z.length<=1000/\z.length≠0
theorem Wn.tru{K:aa}{v:V}{H:Hp}(h:Wn v):TruV K v H (decide (v≠.non)):=by
 rcases h with rfl|⟨z,rfl,h1,h2⟩
 ·exact rfl
 ·refine⟨Nat.le_of_lt (XF h1),?_⟩;rw[decide_eq_true (by intro q;cases q)];simp[h2]
theorem Nd(g:Bool)(n:Nat)(kvs:List (Key×V))(r:Option (List V)):Wn (begR g n kvs r):=by
 cases r with
|none=>exact .inr ⟨_,rfl,by decide +kernel,by decide +kernel⟩
|some xs=>
  show Wn (begV g n kvs xs);unfold begV;split
  ·exact .inr ⟨_,rfl,by decide +kernel,by decide +kernel⟩
  ·split
   ·exact .inr ⟨_,rfl,by decide +kernel,by decide +kernel⟩
   ·split
    ·exact .inr ⟨_,rfl,by decide +kernel,by decide +kernel⟩
    ·exact .inl rfl
section
variable {P:Program}{w:World}{K:aa}{mg:Str->Option Value}{base:Heap}{C Cb:Addr}
def Tg(C Cb:Addr):Sp:=λvs H Q E=>∃(t l dx:Addr)(xs:List V)(rs:List (Option (List V)))(fs:List (Str×V)),vs=[.ref t,.ref l]/\H t=some (.ins C dx fs)/\(∀g,g∉fields->fs.lookup g=none)/\fs.length<=20/\H l=some (.tup xs)/\xs.length<=1000/\ZZ H xs rs /\match Yi 0 [] rs with
|.inl (i,why)=>∀H1,Zg t H H1->Bad Cb (.str "places") (.int i) why H1 E
|.inr kvs=>∀H' d,Zg t H H'->H d=none->d≠t->H' d=some (.dK kvs)->H' t=some (.ins C dx (putF "room_by_place" (.ref d) (putF "places" (.ref l) fs)))->Q .non H'
theorem Qk:FnScope ["self","places","at","row"] ["self","places"] (Zb T.m_Table_take_places):=scO
theorem W8(Z:TCl K C)(he:mg "enumerate"=none)(D:DfM K C "take_places" "Table.take_places" T.m_Table_take_places ["self","places"])(CB:Can P w K mg base 3 "wrong_beginning" ["part","row","names_ahead"] Vx)(CW:Can P w K mg base 3 "wrong_place" ["row"] QO)(CR:CanX P w K mg base 3 "refuse_row" ["part","at","why"] (Vy Cb)):CanM P w K mg base (CX1 P w) 4 C "take_places" ["self","places"] (Tg C Cb):=by
 refine D.cnX Qk λf cdv A outer s H vs Q E hr h=>?_;obtain⟨t,l,dx,xs,rs,fs,rfl,ht,honly,hfs,hl,hlen,hrows,k⟩:=h;refine⟨_,Ze (Y7 (pv 0) (pv 1) rfl) (Ze (Y7 (pv 0) UT rfl) (Zi (YJ d7 rfl (US rfl he (Zj (pv 1) Zf) Nc) (XM rfl (Zl (nmT 2 Qk.nd) (Zl (nmT 3 Qk.nd) ZL))) (Ze (Yp (Jp CR Yt hr rfl (Zj Zu (Zj (pv 2) (Zj (Qp (Z2 CB hr rfl (Zj Zu (Zj (pv 3) (Zj (ZD (pv 0) rfl) Zf)))) (Ju (Z2 CW hr rfl (Zj (pv 3) Zf)))) Zf))))) (Zi (Jn (J9 hr) (ZD (pv 0) rfl) (Yj Yb (pv 3) Zc (λ_ _=>rfl)) (Yj Yb (pv 3) Zc (λ_ _=>rfl)) rfl)))))),?_⟩;have nP:Ys K C "places":=Z.na _ (by simp[fields]);have nR:Ys K C "room_by_place":=Z.na _ (by simp[fields]);have htl:l≠t:=ne_of hl ht (by intro z;cases z);have fl1:(putF "places" (.ref l) fs).length<=21:=by have:=Ye "places" (V.ref l) fs;omega
 refine⟨_,rfl,_,rfl,t,C,dx,_,rfl,ht,Z.cl,nP,by omega,?_⟩;have s1:Zg t H (upd H t (.ins C dx (putF "places" (.ref l) fs))):=(Zg.refl t H).upd;have t1:upd H t (.ins C dx (putF "places" (.ref l) fs)) t=some (.ins C dx (putF "places" (.ref l) fs)):=Zd;have fr1:∀c,upd H t (.ins C dx (putF "places" (.ref l) fs)) c=none->H c=none/\c≠t:=λc e=>by
  by_cases h:c=t
  ·rw[h,Zd]at e;cases e
  ·rw[Zh h]at e;exact⟨e,h⟩
 generalize upd H t (.ins C dx (putF "places" (.ref l) fs))=H1 at s1 t1 fr1 ⊢;refine λd hd=>⟨_,rfl,t,C,dx,_,rfl,(by rw[Zh (Zk t1 hd)];exact t1),Z.cl,nR,by omega,?_⟩;obtain⟨hd0,hdt⟩:=fr1 d hd;have s2:Zg t H (upd (upd H1 d (.dK [])) t (.ins C dx (putF "room_by_place" (.ref d) (putF "places" (.ref l) fs)))):=λc o h hc=>by rw[Zh hc,Zh (λz=>by rw[z,hd0]at h;cases h)];exact s1 c o h hc
 have t2:upd (upd H1 d (.dK [])) t (.ins C dx (putF "room_by_place" (.ref d) (putF "places" (.ref l) fs))) t=some (.ins C dx (putF "room_by_place" (.ref d) (putF "places" (.ref l) fs))):=Zd;have d2:upd (upd H1 d (.dK [])) t (.ins C dx (putF "room_by_place" (.ref d) (putF "places" (.ref l) fs))) d=some (.dK []):=by rw[Zh hdt,Zd]
 have lk:(putF "room_by_place" (.ref d) (putF "places" (.ref l) fs)).lookup ("room_by_place":Str)=some (.ref d):=by rw[Zn,if_pos rfl]
 generalize upd (upd H1 d (.dK [])) t (.ins C dx (putF "room_by_place" (.ref d) (putF "places" (.ref l) fs)))=H2 at s2 t2 d2 ⊢;have kk:∀res,Yi 0 [] rs=res->(match res with
 |.inl (i,why)=>∀H1,Zg t H H1->Bad Cb (.str "places") (.int i) why H1 E
 |.inr kvs=>∀H' d,Zg t H H'->H d=none->d≠t->H' d=some (.dK kvs)->H' t=some (.ins C dx (putF "room_by_place" (.ref d) (putF "places" (.ref l) fs)))->Q .non H'):=λres e=>by rw[<-e];exact k
 clear k;refine⟨_,rfl,l,xs,rfl,s2 _ _ hl htl,Xz (J:=Iten l) xs.length (λi σ H'=>∃(kvs:List (Key×V))(v2 v3:Option V),σ=[some (.ref t),some (.ref l),v2,v3]/\Zg t H H'/\H' t=some (.ins C dx (putF "room_by_place" (.ref d) (putF "places" (.ref l) fs)))/\H' d=some (.dK kvs)/\Yi 0 [] rs=Yi i kvs (rs.drop i)/\kvs.length<=i) ⟨[],none,none,rfl,s2,t2,d2,rfl,Nat.le_refl _⟩ (λi σ H' hi p=>?_) (λσ H' p=>?_) (λi σ H' x H'' hi p yl=>?_) (λσ H' p=>?_)⟩
 ·obtain⟨kvs,v2,v3,rfl,sm,_⟩:=p;exact⟨xs,sm _ _ hl htl,hi⟩
 ·obtain⟨kvs,v2,v3,rfl,sm,_⟩:=p;exact⟨xs,sm _ _ hl htl,rfl⟩
 ·obtain⟨kvs,v2,v3,rfl,sm,tt,dd,hgo,hkl⟩:=p;obtain⟨Tt,xs',y,hT,e1,hy,rfl,rfl⟩:=yl;rw[sm _ _ hl htl]at e1;cases e1;have hi':i<rs.length:=by rw[<-hrows.1];exact hi
  have hr0:rs[i]?=some rs[i]:=gE hi';have hdrop:rs.drop i=rs[i]::rs.drop (i+1):=cF hi';have hrow0:=hrows.2 i y rs[i] hy hr0;generalize rs[i]=r at hr0 hdrop hrow0;have sm3:Zg t H (upd H' Tt (.tup [.int i,y])):=λc o h hc=>by rw[Zh (Zk (sm c o h hc) hT)];exact sm c o h hc
  have t3:upd H' Tt (.tup [.int i,y]) t=some (.ins C dx (putF "room_by_place" (.ref d) (putF "places" (.ref l) fs))):=by rw[Zh (Zk tt hT)];exact tt
  have d3:upd H' Tt (.tup [.int i,y]) d=some (.dK kvs):=by rw[Zh (Zk dd hT)];exact dd
  refine⟨Tt,_,rfl,SqT.of Zd,rfl,_,_,rfl,_,_,rfl,rfl,?_⟩;generalize upd H' Tt (.tup [.int i,y])=H3 at sm3 t3 d3 ⊢;refine td λD' hdd=>?_;have hrow3:Row H3 y r:=hrow0.sameB ht sm3;refine⟨_,rfl,_,rfl,_,rfl,t,C,dx,_,_,rfl,t3,Z.cl,nR,lk,"places",2,y,r,d,kvs,rfl,by simp[NG],hrow3,d3,λH4 sm34=>⟨_,(Nd _ _ _ _).tru,?_⟩⟩;have sm4:Zg t H H4:=sm3.trans (Zg.of sm34);have t4:=sm34 _ _ t3;have d4:=sm34 _ _ d3;have eg:decide ((("places":Str))="groups")=false:=by decide +kernel
  rw[eg];rw[hdrop]at hgo;by_cases hb:begR false 2 kvs r=.non
  ·rw[hb];refine iteF ?_;obtain⟨ys,n,rfl,hyl,hyn⟩:=VR hb;obtain⟨q,rfl,hq,hqx⟩:=hrow3;obtain⟨x0,room,rfl⟩:=len2 hyl;have hx0:x0=.str n:=hyn;subst hx0;have hq4:=sm34 _ _ hq;obtain⟨T5,th5⟩:=hqx room (by simp);refine⟨_,rfl,q,.str n,room,T5,rfl,hq4,th5.same sm34,?_⟩;have hstep:Yi i kvs (some [.str n,room]::rs.drop (i+1))=if Yh room≠.non then .inl (i,Yh room)else Yi (i+1) (putK kvs (.inr n) room) (rs.drop (i+1)):=by rw[Yi,if_neg (by rw[hb];exact λz=>z rfl)]
   by_cases hw:Yh room=.non
   ·refine⟨_,_,_,rfl,.inl ⟨hw,?_⟩⟩;refine⟨_,rfl,q,_,1,room,rfl,rfl,SqT.of hq4,at0 1 rfl,_,rfl,t,C,dx,_,_,rfl,t4,Z.cl,nR,lk,_,rfl,q,_,0,.str n,rfl,rfl,SqT.of hq4,at0 0 rfl,d,_,rfl,DPut.k (k:=cq n) d4 (XF (by omega)),?_⟩;refine hdd _ _ ⟨putK kvs (.inr n) room,_,_,rfl,λc o h hc=>?_,(by rw[Zh (bA hdt)];exact t4),Zd,?_,?_⟩
    ·rw[Zh (λz=>by rw[z,hd0]at h;cases h)];exact sm4 c o h hc
    ·rw[hgo,hstep,if_neg (λz=>z hw)]
    ·have:=YK kvs (cq n) room;omega
   ·refine⟨_,_,_,rfl,.inr ⟨hw,?_⟩⟩;exact kk (.inl (i,Yh room)) (by rw[hgo,hstep,if_pos hw]) H4 sm4
  ·rw[decide_eq_true hb];refine iteT ?_;refine⟨_,_,_,rfl,.inr ⟨hb,?_⟩⟩;exact kk (.inl (i,begR false 2 kvs r)) (by rw[hgo,NB hb]) H4 sm4
 ·obtain⟨kvs,v2,v3,rfl,sm,tt,dd,hgo,hkl⟩:=p;have hd':rs.drop xs.length=[]:=by rw[hrows.1];exact List.drop_length
  rw[hd',Yi]at hgo;exact kk _ hgo H' d sm hd0 hdt dd tt
noncomputable def nameOf(ys:List V):Str:=match ys.getD 0 .non with
|.str y=>y
|_=>Str.empty
noncomputable def Yr(g:Bool)(n:Nat)(why:List V->V):Nat->List (Key×V)->List (V×Option (List V))->Sum (Nat×V) (List (Key×V))
|_,kvs,[]=>.inr kvs
|i,kvs,(x,r)::rs=>
  if begR g n kvs r≠.non then .inl (i,begR g n kvs r)else match r with
  |some ys=>if why ys≠.non then .inl (i,why ys)else Yr g n why (i+1) (putK kvs (.inr (nameOf ys)) x) rs
  |none=>.inl (i,.str "form")
theorem Ny{g:Bool}{n:Nat}{why:List V->V}{i:Nat}{kvs:List (Key×V)}{x:V}{r:Option (List V)}{rs:List (V×Option (List V))}(h:begR g n kvs r≠.non):Yr g n why i kvs ((x,r)::rs)=.inl (i,begR g n kvs r):=by unfold Yr;rw[if_pos h]
theorem G7{g:Bool}{n:Nat}{why:List V->V}{i:Nat}{kvs:List (Key×V)}{x:V}{ys:List V}{rs:List (V×Option (List V))}(h:begR g n kvs (some ys)=.non):Yr g n why i kvs ((x,some ys)::rs)=if why ys≠.non then .inl (i,why ys)else Yr g n why (i+1) (putK kvs (.inr (nameOf ys)) x) rs:=by
 conv=>lhs;unfold Yr
 rw[if_neg (λz=>z h)]
noncomputable def at_(ys:List V)(i:Nat):V:=ys.getD i .non
noncomputable def VC(kvs:List (Key×V))(n:Int)(ys:List V):V:=Jm kvs n (at_ ys 1) (at_ ys 2) (at_ ys 3) (at_ ys 4) (at_ ys 5)
noncomputable def wayW(kvs:List (Key×V))(ys:List V):V:=wayV kvs (at_ ys 1) (at_ ys 2) (at_ ys 3) (at_ ys 4)
def Tf(C Cb:Addr):Sp:=λvs H Q E=>∃(t l dx dP:Addr)(xs:List V)(rs:List (Option (List V)))(fs:List (Str×V))(kvsP:List (Key×V))(nT:Int),vs=[.ref t,.ref l]/\H t=some (.ins C dx fs)/\(∀g,g∉fields->fs.lookup g=none)/\fs.length<=20 /\fs.lookup ("room_by_place":Str)=some (.ref dP)/\H dP=some (.dK kvsP)/\fs.lookup ("turns":Str)=some (.int nT)/\H l=some (.tup xs)/\xs.length<=1000/\ZZ H xs rs /\match Yr false 6 (VC kvsP nT) 0 [] (xs.zip rs)with
|.inl (i,why)=>∀H1,Zg t H H1->Bad Cb (.str "rides") (.int i) why H1 E
|.inr kvs=>∀H' d,Zg t H H'->H d=none->d≠t->H' d=some (.dK kvs)->H' t=some (.ins C dx (putF "ride_by_name" (.ref d) (putF "rides" (.ref l) fs)))->Q .non H'
theorem Qj:FnScope ["self","rides","at","row"] ["self","rides"] (Zb T.m_Table_take_rides):=scO
theorem W7(Z:TCl K C)(he:mg "enumerate"=none)(D:DfM K C "take_rides" "Table.take_rides" T.m_Table_take_rides ["self","rides"])(CB:Can P w K mg base 3 "wrong_beginning" ["part","row","names_ahead"] Vx)(CW:Can P w K mg base 5 "wrong_ride" ["table","row"] (KL C))(CR:CanX P w K mg base 3 "refuse_row" ["part","at","why"] (Vy Cb)):CanM P w K mg base (CX1 P w) 6 C "take_rides" ["self","rides"] (Tf C Cb):=by
 refine D.cnX Qj λf cdv A outer s H vs Q E hr h=>?_;obtain⟨t,l,dx,dP,xs,rs,fs,kvsP,nT,rfl,ht,honly,hfs,hdP,hkP,hnT,hl,hlen,hrows,k⟩:=h;have hr3:=hr.mono (by decide:3<=5);refine⟨_,Ze (Y7 (pv 0) (pv 1) rfl) (Ze (Y7 (pv 0) UT rfl) (Zi (YJ d7 rfl (US rfl he (Zj (pv 1) Zf) Nc) (XM rfl (Zl (nmT 2 Qj.nd) (Zl (nmT 3 Qj.nd) ZL))) (Ze (Yp (Jp CR Yt hr3 rfl (Zj Zu (Zj (pv 2) (Zj (Qp (Z2 CB hr3 rfl (Zj Zu (Zj (pv 3) (Zj (ZD (pv 0) rfl) Zf)))) (Ju (Z2 CW hr rfl (Zj (pv 0) (Zj (pv 3) Zf))))) Zf))))) (Zi (Jn (J9 hr) (ZD (pv 0) rfl) (Yj Yb (pv 3) Zc (λ_ _=>rfl)) (pv 3) rfl)))))),?_⟩;have nP:Ys K C "rides":=Z.na _ (by simp[fields]);have nR:Ys K C "ride_by_name":=Z.na _ (by simp[fields]);have htl:l≠t:=ne_of hl ht (by intro z;cases z);have hdPt:dP≠t:=ne_of hkP ht (by intro z;cases z);have fl1:(putF "rides" (.ref l) fs).length<=21:=by have:=Ye "rides" (V.ref l) fs;omega
 refine⟨_,rfl,_,rfl,t,C,dx,_,rfl,ht,Z.cl,nP,by omega,?_⟩;have s1:Zg t H (upd H t (.ins C dx (putF "rides" (.ref l) fs))):=(Zg.refl t H).upd;have t1:upd H t (.ins C dx (putF "rides" (.ref l) fs)) t=some (.ins C dx (putF "rides" (.ref l) fs)):=Zd;have fr1:∀c,upd H t (.ins C dx (putF "rides" (.ref l) fs)) c=none->H c=none/\c≠t:=λc e=>by
  by_cases h:c=t
  ·rw[h,Zd]at e;cases e
  ·rw[Zh h]at e;exact⟨e,h⟩
 generalize upd H t (.ins C dx (putF "rides" (.ref l) fs))=H1 at s1 t1 fr1 ⊢;refine λd hd=>⟨_,rfl,t,C,dx,_,rfl,(by rw[Zh (Zk t1 hd)];exact t1),Z.cl,nR,by omega,?_⟩;obtain⟨hd0,hdt⟩:=fr1 d hd;have s2:Zg t H (upd (upd H1 d (.dK [])) t (.ins C dx (putF "ride_by_name" (.ref d) (putF "rides" (.ref l) fs)))):=λc o h hc=>by rw[Zh hc,Zh (λz=>by rw[z,hd0]at h;cases h)];exact s1 c o h hc
 have t2:upd (upd H1 d (.dK [])) t (.ins C dx (putF "ride_by_name" (.ref d) (putF "rides" (.ref l) fs))) t=some (.ins C dx (putF "ride_by_name" (.ref d) (putF "rides" (.ref l) fs))):=Zd;have d2:upd (upd H1 d (.dK [])) t (.ins C dx (putF "ride_by_name" (.ref d) (putF "rides" (.ref l) fs))) d=some (.dK []):=by rw[Zh hdt,Zd]
 have lk:(putF "ride_by_name" (.ref d) (putF "rides" (.ref l) fs)).lookup ("ride_by_name":Str)=some (.ref d):=by rw[Zn,if_pos rfl]
 have lkP:(putF "ride_by_name" (.ref d) (putF "rides" (.ref l) fs)).lookup ("room_by_place":Str)=some (.ref dP):=by rw[Zn,if_neg (by decide +kernel),Zn,if_neg (by decide +kernel)];exact hdP
 have lkT:(putF "ride_by_name" (.ref d) (putF "rides" (.ref l) fs)).lookup ("turns":Str)=some (.int nT):=by rw[Zn,if_neg (by decide +kernel),Zn,if_neg (by decide +kernel)];exact hnT
 have lkO:∀g,g∉fields->(putF "ride_by_name" (.ref d) (putF "rides" (.ref l) fs)).lookup g=none:=λg hg=>by rw[Zn,if_neg (λz=>hg (by rw[z];simp[fields])),Zn,if_neg (λz=>hg (by rw[z];simp[fields]))];exact honly g hg
 have hFin:∀kvs,(∀H' d,Zg t H H'->H d=none->d≠t->H' d=some (.dK kvs)->H' t=some (.ins C dx (putF "ride_by_name" (.ref d) (putF "rides" (.ref l) fs)))->Q .non H')->∀H',Zg t H H'->H' d=some (.dK kvs)->H' t=some (.ins C dx (putF "ride_by_name" (.ref d) (putF "rides" (.ref l) fs)))->Q .non H':=λkvs kf H' h1 h2 h3=>kf H' d h1 hd0 hdt h2 h3;generalize hF2:putF "ride_by_name" (.ref d) (putF "rides" (.ref l) fs)=F2 at s2 t2 d2 lk lkP lkT lkO ⊢;generalize upd (upd H1 d (.dK [])) t (.ins C dx F2)=H2 at s2 t2 d2 ⊢;have kk:∀res,Yr false 6 (VC kvsP nT) 0 [] (xs.zip rs)=res->(match res with
 |.inl (i,why)=>∀H1,Zg t H H1->Bad Cb (.str "rides") (.int i) why H1 E
 |.inr kvs=>∀H',Zg t H H'->H' d=some (.dK kvs)->H' t=some (.ins C dx F2)->Q .non H'):=λres e=>by
   rw[e]at k;cases res with
  |inl p=>exact k
  |inr kvs=>exact λH' h1 h2 h3=>hFin kvs k H' h1 h2 (by rw[hF2];exact h3)
 clear k;refine⟨_,rfl,l,xs,rfl,s2 _ _ hl htl,Xz (J:=Iten l) xs.length (λi σ H'=>∃(kvs:List (Key×V))(v2 v3:Option V),σ=[some (.ref t),some (.ref l),v2,v3]/\Zg t H H'/\H' t=some (.ins C dx F2)/\H' d=some (.dK kvs)/\Yr false 6 (VC kvsP nT) 0 [] (xs.zip rs)=Yr false 6 (VC kvsP nT) i kvs ((xs.zip rs).drop i)/\kvs.length<=i) ⟨[],none,none,rfl,s2,t2,d2,rfl,Nat.le_refl _⟩ (λi σ H' hi p=>?_) (λσ H' p=>?_) (λi σ H' x H'' hi p yl=>?_) (λσ H' p=>?_)⟩
 ·obtain⟨kvs,v2,v3,rfl,sm,_⟩:=p;exact⟨xs,sm _ _ hl htl,hi⟩
 ·obtain⟨kvs,v2,v3,rfl,sm,_⟩:=p;exact⟨xs,sm _ _ hl htl,rfl⟩
 ·obtain⟨kvs,v2,v3,rfl,sm,tt,dd,hgo,hkl⟩:=p;obtain⟨Tt,xs',y,hT,e1,hy,rfl,rfl⟩:=yl;rw[sm _ _ hl htl]at e1;cases e1;have hi':i<rs.length:=by rw[<-hrows.1];exact hi
  have hr0:rs[i]?=some rs[i]:=gE hi';have hzl:i<(xs.zip rs).length:=by rw[bV];omega
  have hyx:xs[i]=y:=by rw[gE hi]at hy;exact ar hy
  have hdrop:(xs.zip rs).drop i=(y,rs[i])::(xs.zip rs).drop (i+1):=by rw[cF hzl,gS,hyx]
  have hrow0:=hrows.2 i y rs[i] hy hr0;generalize rs[i]=r at hr0 hdrop hrow0;have sm3:Zg t H (upd H' Tt (.tup [.int i,y])):=λc o h hc=>by rw[Zh (Zk (sm c o h hc) hT)];exact sm c o h hc
  have t3:upd H' Tt (.tup [.int i,y]) t=some (.ins C dx F2):=by rw[Zh (Zk tt hT)];exact tt
  have d3:upd H' Tt (.tup [.int i,y]) d=some (.dK kvs):=by rw[Zh (Zk dd hT)];exact dd
  refine⟨Tt,_,rfl,SqT.of Zd,rfl,_,_,rfl,_,_,rfl,rfl,?_⟩;generalize upd H' Tt (.tup [.int i,y])=H3 at sm3 t3 d3 ⊢;refine td λD' hdd=>?_;have hrow3:Row H3 y r:=hrow0.sameB ht sm3;refine⟨_,rfl,_,rfl,_,rfl,t,C,dx,_,_,rfl,t3,Z.cl,nR,lk,"rides",6,y,r,d,kvs,rfl,by simp[NG],hrow3,d3,λH4 sm34=>⟨_,(Nd _ _ _ _).tru,?_⟩⟩;have sm4:Zg t H H4:=sm3.trans (Zg.of sm34);have t4:=sm34 _ _ t3;have d4:=sm34 _ _ d3;have eg:decide ((("rides":Str))="groups")=false:=by decide +kernel
  rw[eg];rw[hdrop]at hgo;by_cases hb:begR false 6 kvs r=.non
  ·rw[hb];refine iteF ?_;obtain⟨ys,n,rfl,hyl,hyn⟩:=VR hb;obtain⟨q,rfl,hq,hqx⟩:=hrow3;have hq4:=sm34 _ _ hq;have hnm:nameOf ys=n:=by unfold nameOf;rw[hyn]
   have hstep:=G7 (why:=VC kvsP nT) (i:=i) (x:=.ref q) (rs:=(xs.zip rs).drop (i+1)) hb;rw[hnm]at hstep;obtain⟨x0,x1,x2,x3,x4,x5,rfl⟩:=len6 hyl;have hx0:x0=.str n:=hyn;subst hx0;have tb4:Tab H4 C t F2:=⟨⟨dx,t4⟩,lkO⟩;refine⟨_,rfl,_,rfl,t,q,.str n,x1,x2,x3,x4,x5,F2,dP,kvsP,nT,rfl,tb4,lkP,lkT,sm34 _ _ (sm3 _ _ hkP hdPt),hq4,λx hx=>(let ⟨T,th⟩:=hqx x hx;⟨T,th.same sm34⟩),?_⟩;by_cases hw:VC kvsP nT [.str n,x1,x2,x3,x4,x5]=.non
   ·refine⟨_,_,_,rfl,.inl ⟨hw,?_⟩⟩;refine⟨_,rfl,_,rfl,t,C,dx,_,_,rfl,t4,Z.cl,nR,lk,_,rfl,q,_,0,.str n,rfl,rfl,SqT.of hq4,at0 0 rfl,d,_,rfl,DPut.k (k:=cq n) d4 (XF (by omega)),?_⟩;refine hdd _ _ ⟨putK kvs (.inr n) (.ref q),_,_,rfl,λc o h hc=>?_,(by rw[Zh (bA hdt)];exact t4),Zd,?_,?_⟩
    ·rw[Zh (λz=>by rw[z,hd0]at h;cases h)];exact sm4 c o h hc
    ·rw[hgo,hstep,if_neg (λz=>z hw)]
    ·have:=YK kvs (cq n) (V.ref q);omega
   ·refine⟨_,_,_,rfl,.inr ⟨hw,?_⟩⟩;exact kk (.inl (i,VC kvsP nT [.str n,x1,x2,x3,x4,x5])) (by rw[hgo,hstep,if_pos hw]) H4 sm4
  ·rw[decide_eq_true hb];refine iteT ?_;refine⟨_,_,_,rfl,.inr ⟨hb,?_⟩⟩;exact kk (.inl (i,begR false 6 kvs r)) (by rw[hgo,Ny hb]) H4 sm4
 ·obtain⟨kvs,v2,v3,rfl,sm,tt,dd,hgo,hkl⟩:=p;have hd':(xs.zip rs).drop xs.length=[]:=fW.mpr (by rw[bV];omega);rw[hd',Yr]at hgo;exact kk (.inr kvs) hgo H' sm dd tt
def Te(C Cb:Addr):Sp:=λvs H Q E=>∃(t l dx dP:Addr)(xs:List V)(rs:List (Option (List V)))(fs:List (Str×V))(kvsP:List (Key×V))(nT:Int),vs=[.ref t,.ref l]/\H t=some (.ins C dx fs)/\(∀g,g∉fields->fs.lookup g=none)/\fs.length<=20 /\fs.lookup ("room_by_place":Str)=some (.ref dP)/\H dP=some (.dK kvsP)/\fs.lookup ("turns":Str)=some (.int nT)/\H l=some (.tup xs)/\xs.length<=1000/\ZZ H xs rs /\match Yr false 5 (wayW kvsP) 0 [] (xs.zip rs)with
|.inl (i,why)=>∀H1,Zg t H H1->Bad Cb (.str "ways") (.int i) why H1 E
|.inr kvs=>∀H' d,Zg t H H'->H d=none->d≠t->H' d=some (.dK kvs)->H' t=some (.ins C dx (putF "way_by_name" (.ref d) (putF "ways" (.ref l) fs)))->Q .non H'
theorem Qi:FnScope ["self","ways","at","row"] ["self","ways"] (Zb T.m_Table_take_ways):=scO
theorem W6(Z:TCl K C)(he:mg "enumerate"=none)(D:DfM K C "take_ways" "Table.take_ways" T.m_Table_take_ways ["self","ways"])(CB:Can P w K mg base 3 "wrong_beginning" ["part","row","names_ahead"] Vx)(CW:Can P w K mg base 5 "wrong_way" ["table","row"] (Eu C))(CR:CanX P w K mg base 3 "refuse_row" ["part","at","why"] (Vy Cb)):CanM P w K mg base (CX1 P w) 6 C "take_ways" ["self","ways"] (Te C Cb):=by
 refine D.cnX Qi λf cdv A outer s H vs Q E hr h=>?_;obtain⟨t,l,dx,dP,xs,rs,fs,kvsP,nT,rfl,ht,honly,hfs,hdP,hkP,hnT,hl,hlen,hrows,k⟩:=h;have hr3:=hr.mono (by decide:3<=5);refine⟨_,Ze (Y7 (pv 0) (pv 1) rfl) (Ze (Y7 (pv 0) UT rfl) (Zi (YJ d7 rfl (US rfl he (Zj (pv 1) Zf) Nc) (XM rfl (Zl (nmT 2 Qi.nd) (Zl (nmT 3 Qi.nd) ZL))) (Ze (Yp (Jp CR Yt hr3 rfl (Zj Zu (Zj (pv 2) (Zj (Qp (Z2 CB hr3 rfl (Zj Zu (Zj (pv 3) (Zj (ZD (pv 0) rfl) Zf)))) (Ju (Z2 CW hr rfl (Zj (pv 0) (Zj (pv 3) Zf))))) Zf))))) (Zi (Jn (J9 hr) (ZD (pv 0) rfl) (Yj Yb (pv 3) Zc (λ_ _=>rfl)) (pv 3) rfl)))))),?_⟩;have nP:Ys K C "ways":=Z.na _ (by simp[fields]);have nR:Ys K C "way_by_name":=Z.na _ (by simp[fields]);have htl:l≠t:=ne_of hl ht (by intro z;cases z);have hdPt:dP≠t:=ne_of hkP ht (by intro z;cases z);have fl1:(putF "ways" (.ref l) fs).length<=21:=by have:=Ye "ways" (V.ref l) fs;omega
 refine⟨_,rfl,_,rfl,t,C,dx,_,rfl,ht,Z.cl,nP,by omega,?_⟩;have s1:Zg t H (upd H t (.ins C dx (putF "ways" (.ref l) fs))):=(Zg.refl t H).upd;have t1:upd H t (.ins C dx (putF "ways" (.ref l) fs)) t=some (.ins C dx (putF "ways" (.ref l) fs)):=Zd;have fr1:∀c,upd H t (.ins C dx (putF "ways" (.ref l) fs)) c=none->H c=none/\c≠t:=λc e=>by
  by_cases h:c=t
  ·rw[h,Zd]at e;cases e
  ·rw[Zh h]at e;exact⟨e,h⟩
 generalize upd H t (.ins C dx (putF "ways" (.ref l) fs))=H1 at s1 t1 fr1 ⊢;refine λd hd=>⟨_,rfl,t,C,dx,_,rfl,(by rw[Zh (Zk t1 hd)];exact t1),Z.cl,nR,by omega,?_⟩;obtain⟨hd0,hdt⟩:=fr1 d hd;have s2:Zg t H (upd (upd H1 d (.dK [])) t (.ins C dx (putF "way_by_name" (.ref d) (putF "ways" (.ref l) fs)))):=λc o h hc=>by rw[Zh hc,Zh (λz=>by rw[z,hd0]at h;cases h)];exact s1 c o h hc
 have t2:upd (upd H1 d (.dK [])) t (.ins C dx (putF "way_by_name" (.ref d) (putF "ways" (.ref l) fs))) t=some (.ins C dx (putF "way_by_name" (.ref d) (putF "ways" (.ref l) fs))):=Zd;have d2:upd (upd H1 d (.dK [])) t (.ins C dx (putF "way_by_name" (.ref d) (putF "ways" (.ref l) fs))) d=some (.dK []):=by rw[Zh hdt,Zd]
 have lk:(putF "way_by_name" (.ref d) (putF "ways" (.ref l) fs)).lookup ("way_by_name":Str)=some (.ref d):=by rw[Zn,if_pos rfl]
 have lkP:(putF "way_by_name" (.ref d) (putF "ways" (.ref l) fs)).lookup ("room_by_place":Str)=some (.ref dP):=by rw[Zn,if_neg (by decide +kernel),Zn,if_neg (by decide +kernel)];exact hdP
 have lkT:(putF "way_by_name" (.ref d) (putF "ways" (.ref l) fs)).lookup ("turns":Str)=some (.int nT):=by rw[Zn,if_neg (by decide +kernel),Zn,if_neg (by decide +kernel)];exact hnT
 have lkO:∀g,g∉fields->(putF "way_by_name" (.ref d) (putF "ways" (.ref l) fs)).lookup g=none:=λg hg=>by rw[Zn,if_neg (λz=>hg (by rw[z];simp[fields])),Zn,if_neg (λz=>hg (by rw[z];simp[fields]))];exact honly g hg
 have hFin:∀kvs,(∀H' d,Zg t H H'->H d=none->d≠t->H' d=some (.dK kvs)->H' t=some (.ins C dx (putF "way_by_name" (.ref d) (putF "ways" (.ref l) fs)))->Q .non H')->∀H',Zg t H H'->H' d=some (.dK kvs)->H' t=some (.ins C dx (putF "way_by_name" (.ref d) (putF "ways" (.ref l) fs)))->Q .non H':=λkvs kf H' h1 h2 h3=>kf H' d h1 hd0 hdt h2 h3;generalize hF2:putF "way_by_name" (.ref d) (putF "ways" (.ref l) fs)=F2 at s2 t2 d2 lk lkP lkT lkO ⊢;generalize upd (upd H1 d (.dK [])) t (.ins C dx F2)=H2 at s2 t2 d2 ⊢;have kk:∀res,Yr false 5 (wayW kvsP) 0 [] (xs.zip rs)=res->(match res with
 |.inl (i,why)=>∀H1,Zg t H H1->Bad Cb (.str "ways") (.int i) why H1 E
 |.inr kvs=>∀H',Zg t H H'->H' d=some (.dK kvs)->H' t=some (.ins C dx F2)->Q .non H'):=λres e=>by
   rw[e]at k;cases res with
  |inl p=>exact k
  |inr kvs=>exact λH' h1 h2 h3=>hFin kvs k H' h1 h2 (by rw[hF2];exact h3)
 clear k;refine⟨_,rfl,l,xs,rfl,s2 _ _ hl htl,Xz (J:=Iten l) xs.length (λi σ H'=>∃(kvs:List (Key×V))(v2 v3:Option V),σ=[some (.ref t),some (.ref l),v2,v3]/\Zg t H H'/\H' t=some (.ins C dx F2)/\H' d=some (.dK kvs)/\Yr false 5 (wayW kvsP) 0 [] (xs.zip rs)=Yr false 5 (wayW kvsP) i kvs ((xs.zip rs).drop i)/\kvs.length<=i) ⟨[],none,none,rfl,s2,t2,d2,rfl,Nat.le_refl _⟩ (λi σ H' hi p=>?_) (λσ H' p=>?_) (λi σ H' x H'' hi p yl=>?_) (λσ H' p=>?_)⟩
 ·obtain⟨kvs,v2,v3,rfl,sm,_⟩:=p;exact⟨xs,sm _ _ hl htl,hi⟩
 ·obtain⟨kvs,v2,v3,rfl,sm,_⟩:=p;exact⟨xs,sm _ _ hl htl,rfl⟩
 ·obtain⟨kvs,v2,v3,rfl,sm,tt,dd,hgo,hkl⟩:=p;obtain⟨Tt,xs',y,hT,e1,hy,rfl,rfl⟩:=yl;rw[sm _ _ hl htl]at e1;cases e1;have hi':i<rs.length:=by rw[<-hrows.1];exact hi
  have hr0:rs[i]?=some rs[i]:=gE hi';have hzl:i<(xs.zip rs).length:=by rw[bV];omega
  have hyx:xs[i]=y:=by rw[gE hi]at hy;exact ar hy
  have hdrop:(xs.zip rs).drop i=(y,rs[i])::(xs.zip rs).drop (i+1):=by rw[cF hzl,gS,hyx]
  have hrow0:=hrows.2 i y rs[i] hy hr0;generalize rs[i]=r at hr0 hdrop hrow0;have sm3:Zg t H (upd H' Tt (.tup [.int i,y])):=λc o h hc=>by rw[Zh (Zk (sm c o h hc) hT)];exact sm c o h hc
  have t3:upd H' Tt (.tup [.int i,y]) t=some (.ins C dx F2):=by rw[Zh (Zk tt hT)];exact tt
  have d3:upd H' Tt (.tup [.int i,y]) d=some (.dK kvs):=by rw[Zh (Zk dd hT)];exact dd
  refine⟨Tt,_,rfl,SqT.of Zd,rfl,_,_,rfl,_,_,rfl,rfl,?_⟩;generalize upd H' Tt (.tup [.int i,y])=H3 at sm3 t3 d3 ⊢;refine td λD' hdd=>?_;have hrow3:Row H3 y r:=hrow0.sameB ht sm3;refine⟨_,rfl,_,rfl,_,rfl,t,C,dx,_,_,rfl,t3,Z.cl,nR,lk,"ways",5,y,r,d,kvs,rfl,by simp[NG],hrow3,d3,λH4 sm34=>⟨_,(Nd _ _ _ _).tru,?_⟩⟩;have sm4:Zg t H H4:=sm3.trans (Zg.of sm34);have t4:=sm34 _ _ t3;have d4:=sm34 _ _ d3;have eg:decide ((("ways":Str))="groups")=false:=by decide +kernel
  rw[eg];rw[hdrop]at hgo;by_cases hb:begR false 5 kvs r=.non
  ·rw[hb];refine iteF ?_;obtain⟨ys,n,rfl,hyl,hyn⟩:=VR hb;obtain⟨q,rfl,hq,hqx⟩:=hrow3;have hq4:=sm34 _ _ hq;have hnm:nameOf ys=n:=by unfold nameOf;rw[hyn]
   have hstep:=G7 (why:=wayW kvsP) (i:=i) (x:=.ref q) (rs:=(xs.zip rs).drop (i+1)) hb;rw[hnm]at hstep;obtain⟨x0,x1,x2,x3,x4,rfl⟩:=len5 hyl;have hx0:x0=.str n:=hyn;subst hx0;have tb4:Tab H4 C t F2:=⟨⟨dx,t4⟩,lkO⟩;refine⟨_,rfl,_,rfl,t,q,.str n,x1,x2,x3,x4,F2,dP,kvsP,rfl,tb4,lkP,sm34 _ _ (sm3 _ _ hkP hdPt),hq4,λx hx=>(let ⟨T,th⟩:=hqx x hx;⟨T,th.same sm34⟩),?_⟩;by_cases hw:wayW kvsP [.str n,x1,x2,x3,x4]=.non
   ·refine⟨_,_,_,rfl,.inl ⟨hw,?_⟩⟩;refine⟨_,rfl,_,rfl,t,C,dx,_,_,rfl,t4,Z.cl,nR,lk,_,rfl,q,_,0,.str n,rfl,rfl,SqT.of hq4,at0 0 rfl,d,_,rfl,DPut.k (k:=cq n) d4 (XF (by omega)),?_⟩;refine hdd _ _ ⟨putK kvs (.inr n) (.ref q),_,_,rfl,λc o h hc=>?_,(by rw[Zh (bA hdt)];exact t4),Zd,?_,?_⟩
    ·rw[Zh (λz=>by rw[z,hd0]at h;cases h)];exact sm4 c o h hc
    ·rw[hgo,hstep,if_neg (λz=>z hw)]
    ·have:=YK kvs (cq n) (V.ref q);omega
   ·refine⟨_,_,_,rfl,.inr ⟨hw,?_⟩⟩;exact kk (.inl (i,wayW kvsP [.str n,x1,x2,x3,x4])) (by rw[hgo,hstep,if_pos hw]) H4 sm4
  ·rw[decide_eq_true hb];refine iteT ?_;refine⟨_,_,_,rfl,.inr ⟨hb,?_⟩⟩;exact kk (.inl (i,begR false 5 kvs r)) (by rw[hgo,Ny hb]) H4 sm4
 ·obtain⟨kvs,v2,v3,rfl,sm,tt,dd,hgo,hkl⟩:=p;have hd':(xs.zip rs).drop xs.length=[]:=fW.mpr (by rw[bV];omega);rw[hd',Yr]at hgo;exact kk (.inr kvs) hgo H' sm dd tt
end
noncomputable def J2(kvs:List (Key×V))(n pp:Int)(ys:List V):V:=YO kvs n pp (at_ ys 1) (at_ ys 2) (at_ ys 3)
noncomputable def Yk(ys:List V):Int:=match ys.getD 3 .non with
|.int i=>i
|_=>0
noncomputable def Yl(kvsP:List (Key×V))(nT:Int):Nat->Int->List (Key×V)->List (V×Option (List V))->Sum (Nat×V) (List (Key×V))
|_,_,kvs,[]=>.inr kvs
|i,pp,kvs,(x,r)::rs=>
  if begR true 4 kvs r≠.non then .inl (i,begR true 4 kvs r)else match r with
  |some ys=>if J2 kvsP nT pp ys≠.non then .inl (i,J2 kvsP nT pp ys)else Yl kvsP nT (i+1) (pp+Yk ys) (putK kvs (.inr (nameOf ys)) x) rs
  |none=>.inl (i,.str "form")
section
variable {kvsP:List (Key×V)}{nT pp:Int}{i:Nat}{kvs:List (Key×V)}{x:V}{rs:List (V×Option (List V))}
theorem Sk{r:Option (List V)}(h:begR true 4 kvs r≠.non):Yl kvsP nT i pp kvs ((x,r)::rs)=.inl (i,begR true 4 kvs r):=by unfold Yl;rw[if_pos h]
theorem MP{ys:List V}(h:begR true 4 kvs (some ys)=.non):Yl kvsP nT i pp kvs ((x,some ys)::rs)=if J2 kvsP nT pp ys≠.non then .inl (i,J2 kvsP nT pp ys)else Yl kvsP nT (i+1) (pp+Yk ys) (putK kvs (.inr (nameOf ys)) x) rs:=by
 conv=>lhs;unfold Yl
 rw[if_neg (λz=>z h)]
theorem WU{n x1 x2 x3:V}(h:J2 kvsP nT pp [n,x1,x2,x3]=.non):∃i,x3=.int i:=by
 have h':YO kvsP nT pp x1 x2 x3=.non:=h;unfold YO at h';split at h'
 ·cases h'
 ·split at h'
  ·cases h'
  ·cases x3 with
  |int i=>exact⟨i,rfl⟩
  |_=>cases h'
end
section
variable {P:Program}{w:World}{K:aa}{mg:Str->Option Value}{base:Heap}{C Cb:Addr}
def Ti(C Cb:Addr):Sp:=λvs H Q E=>∃(t l dx dP:Addr)(xs:List V)(rs:List (Option (List V)))(fs:List (Str×V))(kvsP:List (Key×V))(nT:Int),vs=[.ref t,.ref l]/\H t=some (.ins C dx fs)/\(∀g,g∉fields->fs.lookup g=none)/\fs.length<=20 /\fs.lookup ("room_by_place":Str)=some (.ref dP)/\H dP=some (.dK kvsP)/\fs.lookup ("turns":Str)=some (.int nT)/\H l=some (.tup xs)/\xs.length<=1000/\ZZ H xs rs /\match Yl kvsP nT 0 0 [] (xs.zip rs)with
|.inl (i,why)=>∀H1,Zg t H H1->Bad Cb (.str "groups") (.int i) why H1 E
|.inr kvs=>∀H' d,Zg t H H'->H d=none->d≠t->H' d=some (.dK kvs)->H' t=some (.ins C dx (putF "group_by_name" (.ref d) (putF "groups" (.ref l) fs)))->Q .non H'
theorem VS:FnScope ["self","groups","people","at","row","why"] ["self","groups"] (Zb T.m_Table_take_groups):=scO
theorem W9(Z:TCl K C)(he:mg "enumerate"=none)(D:DfM K C "take_groups" "Table.take_groups" T.m_Table_take_groups ["self","groups"])(CB:Can P w K mg base 3 "wrong_beginning" ["part","row","names_ahead"] Vx)(CW:Can P w K mg base 3 "wrong_group" ["table","row","people_ahead"] (Tr C))(CR:CanX P w K mg base 3 "refuse_row" ["part","at","why"] (Vy Cb)):CanM P w K mg base (CX1 P w) 4 C "take_groups" ["self","groups"] (Ti C Cb):=by
 refine D.cnX VS λf cdv A outer s H vs Q E hr h=>?_;obtain⟨t,l,dx,dP,xs,rs,fs,kvsP,nT,rfl,ht,honly,hfs,hdP,hkP,hnT,hl,hlen,hrows,k⟩:=h;refine⟨_,Ze (Y7 (pv 0) (pv 1) rfl) (Ze (Y7 (pv 0) UT rfl) (Ze (Z9 (i:=2) VS.nd rfl (bw rfl) Zc) (Zi (YJ d7 rfl (US rfl he (Zj (pv 1) Zf) Nc) (XM rfl (Zl (nmT 3 VS.nd) (Zl (nmT 4 VS.nd) ZL))) (Ze (Z9 (i:=5) VS.nd rfl (bw rfl) (Qp (Z2 CB hr rfl (Zj Zu (Zj (pv 4) (Zj (ZD (pv 0) rfl) Zf)))) (Ju (Z2 CW hr rfl (Zj (pv 0) (Zj (pv 4) (Zj (pv 2) Zf))))))) (Ze (Yp (Jp CR Yt hr rfl (Zj Zu (Zj (pv 3) (Zj (pv 5) Zf))))) (Ze (Jn (J9 hr) (ZD (pv 0) rfl) (Yj Yb (pv 4) Zc (λ_ _=>rfl)) (pv 4) rfl) (Zi (Z9 (i:=2) VS.nd rfl (bw rfl) (Zv ZT (pv 2) (Yj Yb (pv 4) Zc (λ_ _=>rfl)))))))))))),?_⟩;have nP:Ys K C "groups":=Z.na _ (by simp[fields]);have nR:Ys K C "group_by_name":=Z.na _ (by simp[fields]);have htl:l≠t:=ne_of hl ht (by intro z;cases z);have hdPt:dP≠t:=ne_of hkP ht (by intro z;cases z);have fl1:(putF "groups" (.ref l) fs).length<=21:=by have:=Ye "groups" (V.ref l) fs;omega
 refine⟨_,rfl,_,rfl,t,C,dx,_,rfl,ht,Z.cl,nP,by omega,?_⟩;have s1:Zg t H (upd H t (.ins C dx (putF "groups" (.ref l) fs))):=(Zg.refl t H).upd;have t1:upd H t (.ins C dx (putF "groups" (.ref l) fs)) t=some (.ins C dx (putF "groups" (.ref l) fs)):=Zd;have fr1:∀c,upd H t (.ins C dx (putF "groups" (.ref l) fs)) c=none->H c=none/\c≠t:=λc e=>by
  by_cases h:c=t
  ·rw[h,Zd]at e;cases e
  ·rw[Zh h]at e;exact⟨e,h⟩
 generalize upd H t (.ins C dx (putF "groups" (.ref l) fs))=H1 at s1 t1 fr1 ⊢;refine λd hd=>⟨_,rfl,t,C,dx,_,rfl,(by rw[Zh (Zk t1 hd)];exact t1),Z.cl,nR,by omega,?_⟩;obtain⟨hd0,hdt⟩:=fr1 d hd;have s2:Zg t H (upd (upd H1 d (.dK [])) t (.ins C dx (putF "group_by_name" (.ref d) (putF "groups" (.ref l) fs)))):=λc o h hc=>by rw[Zh hc,Zh (λz=>by rw[z,hd0]at h;cases h)];exact s1 c o h hc
 have t2:upd (upd H1 d (.dK [])) t (.ins C dx (putF "group_by_name" (.ref d) (putF "groups" (.ref l) fs))) t=some (.ins C dx (putF "group_by_name" (.ref d) (putF "groups" (.ref l) fs))):=Zd;have d2:upd (upd H1 d (.dK [])) t (.ins C dx (putF "group_by_name" (.ref d) (putF "groups" (.ref l) fs))) d=some (.dK []):=by rw[Zh hdt,Zd]
 have lk:(putF "group_by_name" (.ref d) (putF "groups" (.ref l) fs)).lookup ("group_by_name":Str)=some (.ref d):=by rw[Zn,if_pos rfl]
 have lkP:(putF "group_by_name" (.ref d) (putF "groups" (.ref l) fs)).lookup ("room_by_place":Str)=some (.ref dP):=by rw[Zn,if_neg (by decide +kernel),Zn,if_neg (by decide +kernel)];exact hdP
 have lkT:(putF "group_by_name" (.ref d) (putF "groups" (.ref l) fs)).lookup ("turns":Str)=some (.int nT):=by rw[Zn,if_neg (by decide +kernel),Zn,if_neg (by decide +kernel)];exact hnT
 have lkO:∀g,g∉fields->(putF "group_by_name" (.ref d) (putF "groups" (.ref l) fs)).lookup g=none:=λg hg=>by rw[Zn,if_neg (λz=>hg (by rw[z];simp[fields])),Zn,if_neg (λz=>hg (by rw[z];simp[fields]))];exact honly g hg
 have hFin:∀kvs,(∀H' d,Zg t H H'->H d=none->d≠t->H' d=some (.dK kvs)->H' t=some (.ins C dx (putF "group_by_name" (.ref d) (putF "groups" (.ref l) fs)))->Q .non H')->∀H',Zg t H H'->H' d=some (.dK kvs)->H' t=some (.ins C dx (putF "group_by_name" (.ref d) (putF "groups" (.ref l) fs)))->Q .non H':=λkvs kf H' h1 h2 h3=>kf H' d h1 hd0 hdt h2 h3;generalize hF2:putF "group_by_name" (.ref d) (putF "groups" (.ref l) fs)=F2 at s2 t2 d2 lk lkP lkT lkO ⊢;generalize upd (upd H1 d (.dK [])) t (.ins C dx F2)=H2 at s2 t2 d2 ⊢;have kk:∀res,Yl kvsP nT 0 0 [] (xs.zip rs)=res->(match res with
 |.inl (i,why)=>∀H1,Zg t H H1->Bad Cb (.str "groups") (.int i) why H1 E
 |.inr kvs=>∀H',Zg t H H'->H' d=some (.dK kvs)->H' t=some (.ins C dx F2)->Q .non H'):=λres e=>by
   rw[e]at k;cases res with
  |inl p=>exact k
  |inr kvs=>exact λH' h1 h2 h3=>hFin kvs k H' h1 h2 (by rw[hF2];exact h3)
 clear k;refine⟨_,rfl,l,xs,rfl,s2 _ _ hl htl,Xz (J:=Iten l) xs.length (λi σ H'=>∃(kvs:List (Key×V))(pp:Int)(v3 v4 v5:Option V),σ=[some (.ref t),some (.ref l),some (.int pp),v3,v4,v5]/\Zg t H H'/\H' t=some (.ins C dx F2)/\H' d=some (.dK kvs)/\Yl kvsP nT 0 0 [] (xs.zip rs)=Yl kvsP nT i pp kvs ((xs.zip rs).drop i)/\kvs.length<=i) ⟨[],0,none,none,none,rfl,s2,t2,d2,rfl,Nat.le_refl _⟩ (λi σ H' hi p=>?_) (λσ H' p=>?_) (λi σ H' x H'' hi p yl=>?_) (λσ H' p=>?_)⟩
 ·obtain⟨kvs,pp,v3,v4,v5,rfl,sm,_⟩:=p;exact⟨xs,sm _ _ hl htl,hi⟩
 ·obtain⟨kvs,pp,v3,v4,v5,rfl,sm,_⟩:=p;exact⟨xs,sm _ _ hl htl,rfl⟩
 ·obtain⟨kvs,pp,v3,v4,v5,rfl,sm,tt,dd,hgo,hkl⟩:=p;obtain⟨Tt,xs',y,hT,e1,hy,rfl,rfl⟩:=yl;rw[sm _ _ hl htl]at e1;cases e1;have hi':i<rs.length:=by rw[<-hrows.1];exact hi
  have hr0:rs[i]?=some rs[i]:=gE hi';have hzl:i<(xs.zip rs).length:=by rw[bV];omega
  have hyx:xs[i]=y:=by rw[gE hi]at hy;exact ar hy
  have hdrop:(xs.zip rs).drop i=(y,rs[i])::(xs.zip rs).drop (i+1):=by rw[cF hzl,gS,hyx]
  have hrow0:=hrows.2 i y rs[i] hy hr0;generalize rs[i]=r at hr0 hdrop hrow0;have sm3:Zg t H (upd H' Tt (.tup [.int i,y])):=λc o h hc=>by rw[Zh (Zk (sm c o h hc) hT)];exact sm c o h hc
  have t3:upd H' Tt (.tup [.int i,y]) t=some (.ins C dx F2):=by rw[Zh (Zk tt hT)];exact tt
  have d3:upd H' Tt (.tup [.int i,y]) d=some (.dK kvs):=by rw[Zh (Zk dd hT)];exact dd
  refine⟨Tt,_,rfl,SqT.of Zd,rfl,_,_,rfl,_,_,rfl,rfl,?_⟩;generalize upd H' Tt (.tup [.int i,y])=H3 at sm3 t3 d3 ⊢;refine td λD' hdd=>?_;have hrow3:Row H3 y r:=hrow0.sameB ht sm3;refine⟨_,rfl,_,rfl,t,C,dx,_,_,rfl,t3,Z.cl,nR,lk,"groups",4,y,r,d,kvs,rfl,by simp[NG],hrow3,d3,λH4 sm34=>⟨_,(Nd _ _ _ _).tru,?_⟩⟩;have sm4:Zg t H H4:=sm3.trans (Zg.of sm34);have t4:=sm34 _ _ t3;have d4:=sm34 _ _ d3;have eg:decide ((("groups":Str))="groups")=true:=by decide +kernel
  rw[eg];rw[hdrop]at hgo;by_cases hb:begR true 4 kvs r=.non
  ·rw[hb];refine iteF ?_;obtain⟨ys,n,rfl,hyl,hyn⟩:=VR hb;obtain⟨q,rfl,hq,hqx⟩:=hrow3;have hq4:=sm34 _ _ hq;have hnm:nameOf ys=n:=by unfold nameOf;rw[hyn]
   have hstep:=MP (kvsP:=kvsP) (nT:=nT) (pp:=pp) (i:=i) (x:=.ref q) (rs:=(xs.zip rs).drop (i+1)) hb;rw[hnm]at hstep;obtain⟨x0,x1,x2,x3,rfl⟩:=len4 hyl;have hx0:x0=.str n:=hyn;subst hx0;have tb4:Tab H4 C t F2:=⟨⟨dx,t4⟩,lkO⟩;refine⟨_,rfl,_,rfl,_,rfl,t,q,.str n,x1,x2,x3,F2,dP,kvsP,nT,pp,rfl,tb4,lkP,lkT,sm34 _ _ (sm3 _ _ hkP hdPt),hq4,λx hx=>(let ⟨T,th⟩:=hqx x hx;⟨T,th.same sm34⟩),?_⟩;refine⟨_,rfl,_,rfl,?_⟩;by_cases hw:J2 kvsP nT pp [.str n,x1,x2,x3]=.non
   ·refine⟨_,_,_,rfl,.inl ⟨hw,?_⟩⟩;obtain⟨mm,rfl⟩:=WU (n:=.str n) hw;refine⟨_,rfl,_,rfl,t,C,dx,_,_,rfl,t4,Z.cl,nR,lk,_,rfl,q,_,0,.str n,rfl,rfl,SqT.of hq4,at0 0 rfl,d,_,rfl,DPut.k (k:=cq n) d4 (XF (by omega)),?_⟩;have hqd:q≠d:=ne_of hq4 d4 (by intro z;cases z);refine⟨_,rfl,_,rfl,q,_,3,.int mm,rfl,rfl,SqT.of (by rw[Zh hqd];exact hq4),at0 3 rfl,_,_,rfl,rfl,?_⟩;refine hdd _ _ ⟨putK kvs (.inr n) (.ref q),pp+mm,_,_,_,rfl,λc o h hc=>?_,(by rw[Zh (bA hdt)];exact t4),Zd,?_,?_⟩
    ·rw[Zh (λz=>by rw[z,hd0]at h;cases h)];exact sm4 c o h hc
    ·rw[hgo,hstep,if_neg (λz=>z hw)];rfl
    ·have:=YK kvs (cq n) (V.ref q);omega
   ·refine⟨_,_,_,rfl,.inr ⟨hw,?_⟩⟩;exact kk (.inl (i,J2 kvsP nT pp [.str n,x1,x2,x3])) (by rw[hgo,hstep,if_pos hw]) H4 sm4
  ·rw[decide_eq_true hb];refine iteT ?_;refine⟨_,rfl,_,rfl,?_⟩;refine⟨_,_,_,rfl,.inr ⟨hb,?_⟩⟩;exact kk (.inl (i,begR true 4 kvs r)) (by rw[hgo,Sk hb]) H4 sm4
 ·obtain⟨kvs,pp,v3,v4,v5,rfl,sm,tt,dd,hgo,hkl⟩:=p;have hd':(xs.zip rs).drop xs.length=[]:=fW.mpr (by rw[bV];omega);rw[hd',Yl]at hgo;exact kk (.inr kvs) hgo H' sm dd tt
end
noncomputable abbrev PR:=Option (List V×List (Option (List V)))
def Yz(H:Hp)(v:V)(r:PR):Prop:=match r with
|none=>Part H v none
|some (xs,rs)=>Part H v (some xs)/\ZZ H xs rs
theorem ZZ.sameB{H H':Hp}{t C dx:Addr}{fs:List (Str×V)}(ht:H t=some (.ins C dx fs))(s:Zg t H H'){xs:List V}{rs:List (Option (List V))}(h:ZZ H xs rs):ZZ H' xs rs:=⟨h.1,λi x r a b=>(h.2 i x r a b).sameB ht s⟩
theorem Yz.sameB{H H':Hp}{t C dx:Addr}{fs:List (Str×V)}(ht:H t=some (.ins C dx fs))(s:Zg t H H'){v:V}{r:PR}(h:Yz H v r):Yz H' v r:=by
 cases r with
|none=>obtain⟨T,th,a⟩:=h;exact⟨T,th.sameB ht s,a⟩
|some p=>
  obtain⟨xs,rs⟩:=p;obtain⟨⟨p,rfl,hp⟩,hr⟩:=h;refine⟨⟨p,rfl,?_⟩,hr.sameB ht s⟩;rcases hp with hp|hp
  ·exact .inl (s _ _ hp (ne_of hp ht (by intro z;cases z)))
  ·exact .inr (s _ _ hp (ne_of hp ht (by intro z;cases z)))
noncomputable def YN(n:Nat)(go:List V->List (Option (List V))->Sum (Nat×V) (List (Key×V)))(r:PR):Sum (V×V) (List (Key×V)):=match r with
|none=>.inl (.non,.str "form")
|some (xs,rs)=>if xs.length>n then .inl (.int n,.str "many")else match go xs rs with
 |.inl (i,why)=>.inl (.int i,why)
 |.inr kvs=>.inr kvs
noncomputable def goP(_:List V)(rs:List (Option (List V))):Sum (Nat×V) (List (Key×V)):=Yi 0 [] rs
noncomputable def goR(k1:List (Key×V))(n:Int)(xs:List V)(rs:List (Option (List V))):Sum (Nat×V) (List (Key×V)):=Yr false 6 (VC k1 n) 0 [] (xs.zip rs)
noncomputable def goW(k1:List (Key×V))(xs:List V)(rs:List (Option (List V))):Sum (Nat×V) (List (Key×V)):=Yr false 5 (wayW k1) 0 [] (xs.zip rs)
noncomputable def goG(k1:List (Key×V))(n:Int)(xs:List V)(rs:List (Option (List V))):Sum (Nat×V) (List (Key×V)):=Yl k1 n 0 0 [] (xs.zip rs)
noncomputable abbrev Ks:=List (Key×V)×List (Key×V)×List (Key×V)×List (Key×V)
noncomputable def named(z:Str)(r:Sum (V×V) (List (Key×V)))(k:List (Key×V)->Sum (V×V×V) Ks):Sum (V×V×V) Ks:=match r with
|.inl (a,y)=>.inl (.str z,a,y)
|.inr kvs=>k kvs
noncomputable def MI(vT:V)(r1 r2 r3 r4:PR):Sum (V×V×V) Ks:=match vT with
|.int n=>if(decide (1<=n)&&decide (n<=50))=true then named "places" (YN 14 goP r1) λk1=>named "rides" (YN 80 (goR k1 n) r2) λk2=>named "ways" (YN 40 (goW k1) r3) λk3=>named "groups" (YN 300 (goG k1 n) r4) λk4=>.inr (k1,k2,k3,k4)else .inl (.str "turns",.non,.str "number")
|_=>.inl (.str "turns",.non,.str "number")
def Z0(H:Hp)(fs:List (Str×V))(f g:Str)(r:PR)(k:List (Key×V)):Prop:=∃l d xs rs,fs.lookup f=some (.ref l)/\fs.lookup g=some (.ref d)/\r=some (xs,rs)/\H l=some (.tup xs)/\H d=some (.dK k)
structure TabOf(H:Hp)(C t:Addr)(fs:List (Str×V))(n:Int)(r1 r2 r3 r4:PR)(k:Ks):Prop where
 tab:Tab H C t fs
 turns:fs.lookup ("turns":Str)=some (.int n)
 p:Z0 H fs "places" "room_by_place" r1 k.1
 r:Z0 H fs "rides" "ride_by_name" r2 k.2.1
 w:Z0 H fs "ways" "way_by_name" r3 k.2.2.1
 g:Z0 H fs "groups" "group_by_name" r4 k.2.2.2
def P4(C Cb:Addr):Sp:=λvs H Q E=>∃(t dx:Addr)(vT:V)(T:String)(v1 v2 v3 v4:V)(r1 r2 r3 r4:PR),vs=[.ref t,vT,v1,v2,v3,v4]/\H t=some (.ins C dx [])/\Th H vT T/\Yz H v1 r1/\Yz H v2 r2/\Yz H v3 r3/\Yz H v4 r4 /\match MI vT r1 r2 r3 r4 with
|.inl (p,a,y)=>∀H1,Zg t H H1->Bad Cb p a y H1 E
|.inr k=>∀H' fs n,Zg t H H'->vT=.int n->TabOf H' C t fs n r1 r2 r3 r4 k->Q .non H'
section
variable {C Cb:Addr}
structure Mid(H Hc:Hp)(C t dx:Addr)(fs:List (Str×V))(n:Int)(m:Nat):Prop where
 sm:Zg t H Hc
 at_:Hc t=some (.ins C dx fs)
 only:∀g,g∉fields->fs.lookup g=none
 len:fs.length<=m
 turns:fs.lookup ("turns":Str)=some (.int n)
theorem Mid.same{H Hc H1:Hp}{t dx:Addr}{fs:List (Str×V)}{n:Int}{m:Nat}(M:Mid H Hc C t dx fs n m)(s:Same Hc H1):Mid H H1 C t dx fs n m:=⟨M.sm.trans (Zg.of s),s _ _ M.at_,M.only,M.len,M.turns⟩
theorem Mid.next{H Hc H1:Hp}{t dx l d:Addr}{fs:List (Str×V)}{n:Int}{m:Nat}{f g:Str}(M:Mid H Hc C t dx fs n m)(s:Zg t Hc H1)(h:H1 t=some (.ins C dx (putF g (.ref d) (putF f (.ref l) fs))))(hf:f∈fields)(hg:g∈fields)(nf:("turns":Str)≠f)(ng:("turns":Str)≠g):Mid H H1 C t dx (putF g (.ref d) (putF f (.ref l) fs)) n (m+2):=by
 refine⟨M.sm.trans s,h,λx hx=>?_,?_,?_⟩
 ·rw[Zn,if_neg (λz=>hx (by rw[z];exact hg)),Zn,if_neg (λz=>hx (by rw[z];exact hf))];exact M.only x hx
 ·have h1:=Ye f (V.ref l) fs;have h2:=Ye g (V.ref d) (putF f (V.ref l) fs);have:=M.len;omega
 ·rw[Zn,if_neg ng,Zn,if_neg nf];exact M.turns
theorem Z0.sameB{H H':Hp}{t C dx:Addr}{fs0 fs:List (Str×V)}{f g:Str}{r:PR}{k:List (Key×V)}(ht:H t=some (.ins C dx fs0))(s:Zg t H H')(h:Z0 H fs f g r k):Z0 H' fs f g r k:=by obtain⟨l,d,xs,rs,a1,a2,a3,a4,a5⟩:=h;exact⟨l,d,xs,rs,a1,a2,a3,s _ _ a4 (ne_of a4 ht (by intro z;cases z)),s _ _ a5 (ne_of a5 ht (by intro z;cases z))⟩
theorem Z0.put{H:Hp}{fs:List (Str×V)}{f g f' g':Str}{x y:V}{r:PR}{k:List (Key×V)}(h:Z0 H fs f g r k)(n1:f≠f')(n2:f≠g')(n3:g≠f')(n4:g≠g'):Z0 H (putF g' y (putF f' x fs)) f g r k:=by obtain⟨l,d,xs,rs,a1,a2,a3⟩:=h;exact⟨l,d,xs,rs,by rw[Zn,if_neg n2,Zn,if_neg n1];exact a1,by rw[Zn,if_neg n4,Zn,if_neg n3];exact a2,a3⟩
theorem Z0.new{H:Hp}{fs:List (Str×V)}{f g:Str}{l d:Addr}{xs:List V}{rs:List (Option (List V))}{k:List (Key×V)}(h1:H l=some (.tup xs))(h2:H d=some (.dK k))(n:f≠g):Z0 H (putF g (.ref d) (putF f (.ref l) fs)) f g (some (xs,rs)) k:=⟨l,d,xs,rs,by rw[Zn,if_neg n,Zn,if_pos rfl],by rw[Zn,if_pos rfl],rfl,h1,h2⟩
theorem VW{E:XK}{z:Str}{n:Nat}(hz:(z,n)∈MN){t dx:Addr}{fs:List (Str×V)}{Hc:Hp}{v:V}{r:PR}{go:List V->List (Option (List V))->Sum (Nat×V) (List (Key×V))}{Kq:VK}(ht:Hc t=some (.ins C dx fs))(hp:Yz Hc v r)(hbad:∀a y,YN n go r=.inl (a,y)->∀H1,Zg t Hc H1->Bad Cb (.str z) a y H1 E)(hgo:∀xs rs H1 l,r=some (xs,rs)->xs.length<=1000->Same Hc H1->H1 l=some (.tup xs)->ZZ H1 xs rs->(∀i why,go xs rs=.inl (i,why)->∀H2,Zg t Hc H2->Bad Cb (.str z) (.int i) why H2 E)->(∀kvs,go xs rs=.inr kvs->YN n go r=.inr kvs)->Kq (.ref l) H1):RM Cb [.str z,v] Hc Kq E:=by
 have hn:n<=300:=by simp only[MN,aA,eJ,aJ,or_false]at hz;omega
 cases r with
|none=>exact⟨z,n,v,none,rfl,hz,hp,λH1 s=>hbad _ _ rfl H1 (Zg.of s)⟩
|some q=>
  obtain⟨xs,rs⟩:=q;obtain⟨hp,hr⟩:=hp;refine⟨z,n,v,some xs,rfl,hz,hp,?_⟩;dsimp only;by_cases hl:xs.length>n
  ·rw[if_pos hl];exact λH1 s=>hbad _ _ (by show(if xs.length>n then _ else _)=_;rw[if_pos hl]) H1 (Zg.of s)
  ·rw[if_neg hl];refine λH1 l s h=>hgo xs rs H1 l rfl (by omega) s h (hr.sameB ht (Zg.of s)) (λi why e=>?_) (λkvs e=>?_)
   ·exact hbad _ _ (by show(if xs.length>n then _ else _)=_;rw[if_neg hl,e])
   ·show(if xs.length>n then _ else _)=_;rw[if_neg hl,e]
end
section
variable {P:Program}{w:World}{K:aa}{mg:Str->Option Value}{base:Heap}{C Cb:Addr}
theorem DC:FnScope ["self","turns","places","rides","ways","groups"] ["self","turns","places","rides","ways","groups"] (Zb T.m_Table___init__):=scO
theorem SM(G:Txt K mg)(Z:TCl K C)(B:Err P w K mg base "BadTable" ["part","at","why"] Cb)(CI:Can P w K mg base 6 "is_within" ["thing","low","high"] K1.Xv)(CRo:CanX P w K mg base 6 "rows_of" ["part","rows"] (RM Cb))(CP:CanM P w K mg base (CX1 P w) 6 C "take_places" ["self","places"] (Tg C Cb))(CR:CanM P w K mg base (CX1 P w) 6 C "take_rides" ["self","rides"] (Tf C Cb))(CW:CanM P w K mg base (CX1 P w) 6 C "take_ways" ["self","ways"] (Te C Cb))(CG:CanM P w K mg base (CX1 P w) 6 C "take_groups" ["self","groups"] (Ti C Cb)){f:Addr}{cdv:Value}{A:aX}{outer:List Env}{s:ag}{H:Hp}{vs:List V}{Q:VK}{E:XK}(hr:Room 6 (A.deeper (de "Table.__init__" (Zb T.m_Table___init__) s.heap.objs.size f cdv)))(h:P4 C Cb vs H Q E):∃t,PSs (cxOf (CX1 P w) P w K mg base ["self","turns","places","rides","ways","groups"] "Table.__init__" (Zb T.m_Table___init__) f cdv A outer s H E) (ZH T.m_Table___init__) t/\t {nx:=λ_ H'=>Q .non H',rt:=Q} (start ["self","turns","places","rides","ways","groups"] vs) H:=by
 obtain⟨t,dx,vT,T',v1,v2,v3,v4,r1,r2,r3,r4,rfl,ht,thT,p1,p2,p3,p4,k⟩:=h;obtain⟨t1,h1⟩:=G.turns;refine⟨_,Ze (ZO (Z8 (Z1 (Z2 CI hr rfl (Zj (pv 1) (Zj Zc (Zj (ZR (v:=V.int 50) rfl h1 ⟨t1,rfl⟩) Zf)))))) (Zi (Xk (E:=E) B Yt rfl (hr.mono (by omega)) rfl (Zj Zu (Zj Yc (Zj Zu Zf))))) Zy) (Ze (Y7 (pv 0) (pv 1) rfl) (Ze (Yp (Z4 CP Z.cl Yt hr (pv 0) (Zj (Jp CRo Yt hr rfl (Zj Zu (Zj (pv 2) Zf))) Zf))) (Ze (Yp (Z4 CR Z.cl Yt hr (pv 0) (Zj (Jp CRo Yt hr rfl (Zj Zu (Zj (pv 3) Zf))) Zf))) (Ze (Yp (Z4 CW Z.cl Yt hr (pv 0) (Zj (Jp CRo Yt hr rfl (Zj Zu (Zj (pv 4) Zf))) Zf))) (Zi (Yp (Z4 CG Z.cl Yt hr (pv 0) (Zj (Jp CRo Yt hr rfl (Zj Zu (Zj (pv 5) Zf))) Zf)))))))),?_⟩;have kk:∀res,MI vT r1 r2 r3 r4=res->(match res with
 |.inl (p,a,y)=>∀H1,Zg t H H1->Bad Cb p a y H1 E
 |.inr k=>∀H' fs n,Zg t H H'->vT=.int n->TabOf H' C t fs n r1 r2 r3 r4 k->Q .non H'):=λres e=>by rw[<-e];exact k
 clear k;refine⟨_,rfl,vT,T',1,50,rfl,thT,_,rfl,?_⟩;by_cases hw:K1.Zq vT 1 50=true
 ·rw[hw];refine iteF ?_;obtain⟨n,rfl⟩:∃n,vT=.int n:=by
   cases vT with
  |int n=>exact⟨n,rfl⟩
  |_=>cases hw
  have hw':(decide (1<=n)&&decide (n<=50))=true:=hw;have ek:MI (.int n) r1 r2 r3 r4=named "places" (YN 14 goP r1) λk1=>named "rides" (YN 80 (goR k1 n) r2) λk2=>named "ways" (YN 40 (goW k1) r3) λk3=>named "groups" (YN 300 (goG k1 n) r4) λk4=>.inr (k1,k2,k3,k4):=by show(if(decide (1<=n)&&decide (n<=50))=true then _ else _)=_;rw[if_pos hw']
  rw[ek]at kk;dsimp only[KC];refine tq λD1 hk1=>?_;refine⟨_,rfl,_,rfl,t,C,dx,_,rfl,ht,Z.cl,Z.na _ (by simp[fields]),by decide,?_⟩;have M0:Mid H (upd H t (.ins C dx (putF "turns" (.int n) []))) C t dx (putF "turns" (.int n) []) n 1:=⟨(Zg.refl t H).upd,Zd,λg hg=>by rw[Zn,if_neg (λz=>hg (by rw[z];simp[fields]))];rfl,Nat.le_refl _,by rw[Zn,if_pos rfl]⟩;generalize upd H t (.ins C dx (putF "turns" (.int n) []))=H0 at M0 ⊢;generalize putF "turns" (.int n) []=F0 at M0;refine hk1 _ _ (tq λD2 hk2=>?_);refine mthV M0.at_ (M0.only _ (by decide +kernel)) ?_;refine⟨_,rfl,?_⟩;dsimp only[tNil];refine VW (z:="places") (n:=14) (go:=goP) (by simp[MN]) M0.at_ (p1.sameB ht M0.sm) (λa y e H1 s1=>?_) (λxs rs H1 l er hl s1 hx hrs hb hk=>?_)
  ·rw[e]at kk;exact kk _ rfl H1 (M0.sm.trans s1)
  have M1:=M0.same s1;refine⟨t,l,dx,xs,rs,F0,rfl,M1.at_,M1.only,by have:=M1.len;omega,hx,hl,hrs,?_⟩;have s01:Zg t H0 H1:=Zg.of s1;cases e1:Yi 0 [] rs with
 |inl q=>exact λH2 s2=>hb q.1 q.2 e1 H2 (s01.trans s2)
 |inr k1=>
  rw[hk k1 e1]at kk;dsimp only[named]at kk;intro H2 d s2 hd0 hdt hd2 ht2;refine hk2 _ _ (tq λD3 hk3=>?_);have A1:Z0 H2 (putF "room_by_place" (.ref d) (putF "places" (.ref l) F0)) "places" "room_by_place" r1 k1:=by rw[er];exact Z0.new (s2 _ _ hx (ne_of hx M1.at_ (by intro z;cases z))) hd2 (by decide +kernel)
  have M2:=M1.next s2 ht2 (by simp[fields]) (by simp[fields]) (by decide +kernel) (by decide +kernel);have lkP:(putF "room_by_place" (.ref d) (putF "places" (.ref l) F0)).lookup ("room_by_place":Str)=some (.ref d):=by rw[Zn,if_pos rfl]
  generalize putF "room_by_place" (.ref d) (putF "places" (.ref l) F0)=F2 at A1 M2 lkP;clear hk hb hrs hx ht2 s2 hd0 hl er e1 M1 s01 s1 M0 ek;refine mthV M2.at_ (M2.only _ (by decide +kernel)) ?_;refine⟨_,rfl,?_⟩;dsimp only[tNil];refine VW (z:="rides") (n:=80) (go:=goR k1 n) (by simp[MN]) M2.at_ (p2.sameB ht M2.sm) (λa y e Hb sb=>?_) (λxs rs H3 l er hl s3 hx hrs hb hk=>?_)
  ·rw[e]at kk;exact kk _ rfl Hb (M2.sm.trans sb)
  have M3:=M2.same s3;refine⟨t,l,dx,d,xs,rs,F2,k1,n,rfl,M3.at_,M3.only,by have:=M3.len;omega,lkP,s3 _ _ hd2,M3.turns,hx,hl,hrs,?_⟩;have sx:Zg t H2 H3:=Zg.of s3;cases e1:Yr false 6 (VC k1 n) 0 [] (xs.zip rs)with
 |inl q=>exact λHb sb=>hb q.1 q.2 e1 Hb (sx.trans sb)
 |inr k2=>
  rw[hk k2 e1]at kk;dsimp only at kk;intro H4 d2 s4 hd0 hdm hdk ht4;refine hk3 _ _ (tq λD4 hk4=>?_);have sy:Zg t H2 H4:=sx.trans s4;have A2:Z0 H4 (putF "ride_by_name" (.ref d2) (putF "rides" (.ref l) F2)) "rides" "ride_by_name" r2 k2:=by rw[er];exact Z0.new (s4 _ _ hx (ne_of hx M3.at_ (by intro z;cases z))) hdk (by decide +kernel)
  have A1:=(A1.sameB M2.at_ sy).put (f':="rides") (g':="ride_by_name") (x:=.ref l) (y:=.ref d2) (by decide +kernel) (by decide +kernel) (by decide +kernel) (by decide +kernel);have hd4:H4 d=some (.dK k1):=sy _ _ hd2 hdt;have M4:=M3.next s4 ht4 (by simp[fields]) (by simp[fields]) (by decide +kernel) (by decide +kernel);have lkP:(putF "ride_by_name" (.ref d2) (putF "rides" (.ref l) F2)).lookup ("room_by_place":Str)=some (.ref d):=by rw[Zn,if_neg (by decide +kernel),Zn,if_neg (by decide +kernel)];exact lkP
  generalize putF "ride_by_name" (.ref d2) (putF "rides" (.ref l) F2)=F4 at A1 A2 M4 lkP;clear hk hb hrs hx ht4 s4 hd0 hl er e1 M3 sx sy s3 M2 hdk;refine mthV M4.at_ (M4.only _ (by decide +kernel)) ?_;refine⟨_,rfl,?_⟩;dsimp only[tNil];refine VW (z:="ways") (n:=40) (go:=goW k1) (by simp[MN]) M4.at_ (p3.sameB ht M4.sm) (λa y e Hb sb=>?_) (λxs rs H5 l er hl s5 hx hrs hb hk=>?_)
  ·rw[e]at kk;exact kk _ rfl Hb (M4.sm.trans sb)
  have M5:=M4.same s5;refine⟨t,l,dx,d,xs,rs,F4,k1,n,rfl,M5.at_,M5.only,by have:=M5.len;omega,lkP,s5 _ _ hd4,M5.turns,hx,hl,hrs,?_⟩;have sx:Zg t H4 H5:=Zg.of s5;cases e1:Yr false 5 (wayW k1) 0 [] (xs.zip rs)with
 |inl q=>exact λHb sb=>hb q.1 q.2 e1 Hb (sx.trans sb)
 |inr k3=>
  rw[hk k3 e1]at kk;dsimp only at kk;intro H6 d3 s6 hd0 hdm hdk ht6;refine hk4 _ _ ?_;have sy:Zg t H4 H6:=sx.trans s6;have A3:Z0 H6 (putF "way_by_name" (.ref d3) (putF "ways" (.ref l) F4)) "ways" "way_by_name" r3 k3:=by rw[er];exact Z0.new (s6 _ _ hx (ne_of hx M5.at_ (by intro z;cases z))) hdk (by decide +kernel)
  have A1:=(A1.sameB M4.at_ sy).put (f':="ways") (g':="way_by_name") (x:=.ref l) (y:=.ref d3) (by decide +kernel) (by decide +kernel) (by decide +kernel) (by decide +kernel);have A2:=(A2.sameB M4.at_ sy).put (f':="ways") (g':="way_by_name") (x:=.ref l) (y:=.ref d3) (by decide +kernel) (by decide +kernel) (by decide +kernel) (by decide +kernel);have hd6:H6 d=some (.dK k1):=sy _ _ hd4 hdt;have M6:=M5.next s6 ht6 (by simp[fields]) (by simp[fields]) (by decide +kernel) (by decide +kernel);have lkP:(putF "way_by_name" (.ref d3) (putF "ways" (.ref l) F4)).lookup ("room_by_place":Str)=some (.ref d):=by rw[Zn,if_neg (by decide +kernel),Zn,if_neg (by decide +kernel)];exact lkP
  generalize putF "way_by_name" (.ref d3) (putF "ways" (.ref l) F4)=F6 at A1 A2 A3 M6 lkP;clear hk hb hrs hx ht6 s6 hd0 hl er e1 M5 sx sy s5 M4 hdk;refine mthV M6.at_ (M6.only _ (by decide +kernel)) ?_;refine⟨_,rfl,?_⟩;dsimp only[tNil];refine VW (z:="groups") (n:=300) (go:=goG k1 n) (by simp[MN]) M6.at_ (p4.sameB ht M6.sm) (λa y e Hb sb=>?_) (λxs rs H7 l er hl s7 hx hrs hb hk=>?_)
  ·rw[e]at kk;exact kk _ rfl Hb (M6.sm.trans sb)
  have M7:=M6.same s7;refine⟨t,l,dx,d,xs,rs,F6,k1,n,rfl,M7.at_,M7.only,by have:=M7.len;omega,lkP,s7 _ _ hd6,M7.turns,hx,hl,hrs,?_⟩;have sx:Zg t H6 H7:=Zg.of s7;cases e1:Yl k1 n 0 0 [] (xs.zip rs)with
 |inl q=>exact λHb sb=>hb q.1 q.2 e1 Hb (sx.trans sb)
 |inr k4=>
  rw[hk k4 e1]at kk;dsimp only at kk;intro H8 d4 s8 hd0 hdm hdk ht8;have sy:Zg t H6 H8:=sx.trans s8;have A4:Z0 H8 (putF "group_by_name" (.ref d4) (putF "groups" (.ref l) F6)) "groups" "group_by_name" r4 k4:=by rw[er];exact Z0.new (s8 _ _ hx (ne_of hx M7.at_ (by intro z;cases z))) hdk (by decide +kernel)
  have A1:=(A1.sameB M6.at_ sy).put (f':="groups") (g':="group_by_name") (x:=.ref l) (y:=.ref d4) (by decide +kernel) (by decide +kernel) (by decide +kernel) (by decide +kernel);have A2:=(A2.sameB M6.at_ sy).put (f':="groups") (g':="group_by_name") (x:=.ref l) (y:=.ref d4) (by decide +kernel) (by decide +kernel) (by decide +kernel) (by decide +kernel);have A3:=(A3.sameB M6.at_ sy).put (f':="groups") (g':="group_by_name") (x:=.ref l) (y:=.ref d4) (by decide +kernel) (by decide +kernel) (by decide +kernel) (by decide +kernel);have hd8:H8 d=some (.dK k1):=sy _ _ hd6 hdt;have M8:=M7.next s8 ht8 (by simp[fields]) (by simp[fields]) (by decide +kernel) (by decide +kernel);have lkP:(putF "group_by_name" (.ref d4) (putF "groups" (.ref l) F6)).lookup ("room_by_place":Str)=some (.ref d):=by rw[Zn,if_neg (by decide +kernel),Zn,if_neg (by decide +kernel)];exact lkP
  generalize putF "group_by_name" (.ref d4) (putF "groups" (.ref l) F6)=F8 at A1 A2 A3 A4 M8 lkP;clear hk hb hrs hx ht8 s8 hd0 hl er e1 M7 sx sy s7 M6 hdk;exact kk _ rfl H8 F8 n M8.sm rfl ⟨⟨⟨dx,M8.at_⟩,M8.only⟩,M8.turns,A1,A2,A3,A4⟩
 ·have hw0:K1.Zq vT 1 50=false:=by simpa using hw
  rw[hw0];refine iteT ?_;have ek:MI vT r1 r2 r3 r4=.inl (.str "turns",.non,.str "number"):=by
   cases vT with
  |int n=>show(if(decide (1<=n)&&decide (n<=50))=true then _ else _)=_;rw[if_neg (by rw[show(decide (1<=n)&&decide (n<=50))=false from hw0];decide)]
  |_=>rfl
  exact⟨rfl,kk _ ek H (Zg.refl t H)⟩
end
end TB
namespace L2
open PySem PySem.Spec PyProof.Rows
section
variable {X:Cx}{CX:CXT}{k:Nat}{C:Addr}{ps:List Str}{sp:Sp}{E:XK}{m:Str}{pos apos:Pos}{o:Expr}{ta:TE}
theorem JI{pl:Sem Bool}(c:CanM X.prog X.w X.K X.mg X.base CX k C m ps sp)(cl:Cls X.K C)(hx:Passes CX X E)(hr:Room k X.A)(he:PE X o ta)
  (ht:eval (.Call (.Attribute o m apos) [] [] pos) X.env=(do
   let ov <-eval o X.env
   gI apos.atName
   let (f,first) <-eR [ov] (e_ ov m pl)
   gF pos f first (cw pos (aD [] X.env)) (d8 pos (dh [] X.env))):=by rfl):
  PE X (.Call (.Attribute o m apos) [] [] pos) (QL C m sp [] E ta tNil):=by
 obtain⟨f,fd,F,me,b⟩:=c
 exact Le he cl me F hr b .nil hx ht
end
end L2
namespace TB
open PySem L2 PySem.Spec PyProof.Rows
section
variable {P:Program}{w:World}{K:aa}{mg:Str->Option Value}{base:Heap}{C Cb:Addr}
structure TMk(P:Program)(w:World)(K:aa)(mg:Str->Option Value)(base:Heap)(C Cb:Addr):Prop where
 made:∃f fd,Mk K C f/\FnOk P w K mg base (CX1 P w) 7 f fd ["self","turns","places","rides","ways","groups"] (P4 C Cb)/\Binds K fd ["self","turns","places","rides","ways","groups"] []
 mg:mg "Table"=some (.ref C)
theorem ML{H H1:Hp}{t dx:Addr}{o o2:HO}(ht:H t=none)(hdx:H dx=none)(s:Zg t (upd (upd H dx o) t o2) H1):Same H H1:=λc u e=>by
 have h1:c≠t:=λz=>by rw[z,ht]at e;cases e
 have h2:c≠dx:=λz=>by rw[z,hdx]at e;cases e
 exact s c u (by rw[Zh h1,Zh h2];exact e) h1
end
end TB
namespace L2
open PySem PySem.Spec PyProof.Rows
section
variable {prog:Program}{w:World}{A:aX}{E:Value->ag->Prop}{s:ag}
theorem QJ{M:Model}{a:Addr}{Q:Option Obj->ag->Prop}(h:Q (s.heap.get? a) s):wpAny M A (loadIfAlive a) Q E s:=λΓ p _=>by show Sem.wp M Γ (.loadIfAlive a .pure) _ _ p s;rw[Sem.wp_loadIfAlive,Sem.wp_pure];exact h
abbrev UI(h:Heap)(z TI TO T0:Addr)(f1:Bool):Prop:=h.get? z=some {cls:=.type "zip",dict:=none,data:=.fields #[bU T0,.bool f1,.bool false,.ref TI,.ref TO],slots:=#[]}
theorem Pf{z TI TO T0:Addr}{f1:Bool}{Q:Bool->ag->Prop}(hz:UI s.heap z TI TO T0 f1)(hT:∃o,s.heap.get? T0=some o)(hQ:∀h',UI h' z TI TO T0 true->Heap.SameBut z s.heap h'->Q false {s with heap:=h'}):wpAny (model prog w) A (bY (.ref z)) Q E s:=by
 obtain⟨o,ho⟩:=hT;unfold bY;refine ae (bt hz rfl (x:=bU T0) rfl ?_);show wpAny _ _ (loadIfAlive ((T0:Int).toNat) >>= _) _ _ _;refine ae (QJ ?_);have e:(T0:Int).toNat=T0:=Int.toNat_natCast T0;rw[e,ho];show wpAny _ _ (field (.ref z) 1 >>= _) _ _ _;refine ae (bt hz rfl (x:=.bool f1) rfl ?_);cases f1 with
|false=>show wpAny _ _ (setField (.ref z) 1 (.bool true) >>= _) _ _ _;refine ae (wpAny_setField_rec hz (by simp) λh1 hz1 hs1=>ao (hQ h1 hz1 hs1))
|true=>exact ao (hQ s.heap hz (Heap.SameBut.refl ..))
theorem Nh{z TI TO T0 i1 i2 l1 l2:Addr}{f1:Bool}{k1 k2:Nat}{xs ys:Array Value}{x y:Value}{Q:Value->ag->Prop}(D:fQ z TI TO i1 i2 l1 l2)(hz:UI s.heap z TI TO T0 f1)(hT:∃o,s.heap.get? T0=some o)(hTI:gD s.heap TI (.ref i1) (.ref i2))(h1:s.heap.IsListIter i1 l1 k1)(h2:s.heap.IsListIter i2 l2 k2)(hl1:s.heap.IsList l1 xs)(hl2:s.heap.IsList l2 ys)(hx:xs[k1]?=some x)(hy:ys[k2]?=some y)(hQ:∀h',UI h' z TI TO T0 true->h'.IsListIter i1 l1 (k1+1)->h'.IsListIter i2 l2 (k2+1)->gD h' s.heap.objs.size x y->h'.objs.size=s.heap.objs.size+1 ->(∀c o,c≠z->c≠TO->c≠i1->c≠i2->s.heap.get? c=some o->h'.get? c=some o)->Q (.ref s.heap.objs.size) {s with heap:=h'}):wpAny (model prog w) A (dG.«zip.__next__» ⟨[.ref z],[]⟩) (λfin s'=>∃v,fin=.done (.ret v)/\Q v s') E s:=by
 show wpAny _ _ (field (.ref z) 2 >>= _) _ _ _;refine ae (bt hz rfl (x:=.bool false) rfl ?_);show wpAny _ _ (field (.ref z) 3 >>= _) _ _ _;refine ae (bt hz rfl (x:=.ref TI) rfl ?_);refine ae (fo hTI rfl ?_);show wpAny _ _ (bY (.ref z) >>= _) _ _ _;refine ae (Pf hz hT λh₁ hz₁ hs₁=>?_);simp only[Bool.false_eq_true,if_false];refine ae ?_;simp only[List.forIn_toArray,List.forIn_cons,List.forIn_nil];refine ae (ae (bz ?_));show wpAny _ _ (a_ (.ref i1) >>= _) _ _ _;refine ae (fY (h1.extBut hs₁.extBut D.i1z) (hl1.extBut hs₁.extBut D.l1z) hx λh₂ h1₂ hs₂=>ao (ao ?_));refine ae (ae (bz ?_));show wpAny _ _ (a_ (.ref i2) >>= _) _ _ _;refine ae (fY ((h2.extBut hs₁.extBut D.i2z).extBut hs₂.extBut D.i12.symm) ((hl2.extBut hs₁.extBut D.l2z).extBut hs₂.extBut D.l2i1) hy λh₄ h2₄ hs₄=>ao (ao (ao ?_)));have hsz:h₄.objs.size=s.heap.objs.size:=by rw[hs₄.1,hs₂.1,hs₁.1]
 have hz₄:UI h₄ z TI TO T0 true:=hs₄.extBut _ _ D.i2z.symm (hs₂.extBut _ _ D.i1z.symm hz₁);have h1₄:h₄.IsListIter i1 l1 (k1+1):=h1₂.extBut hs₄.extBut D.i12;refine ae (wpAny_newTuple (hsz:=(zl)) ?_);refine ao ⟨_,rfl,?_⟩;show Q (.ref h₄.objs.size) _;rw[hsz];refine hQ _ (Heap.get?_push_of_some _ hz₄) (h1₄.at λo e=>Heap.get?_push_of_some _ e) (h2₄.at λo e=>Heap.get?_push_of_some _ e) ?_ ?_ λc o c1 c2 c3 c4 e=>Heap.get?_push_of_some _ (hs₄.extBut _ _ c4 (hs₂.extBut _ _ c3 (hs₁.extBut _ _ c1 e)))
 ·have this:(h₄.push {cls:=.type "tuple",data:=.seq #[x,y]}).get? h₄.objs.size=some _:=Heap.get?_push_size _ rfl;rw[hsz]at this;exact this
 ·rw[Heap.size_push,hsz]
theorem N8{z TI TO T0 i1 i2 l1 l2:Addr}{f1:Bool}{k1 k2:Nat}{xs ys:Array Value}{Q:Fin->ag->Prop}(hh:A.handled=none)(D:fQ z TI TO i1 i2 l1 l2)(hz:UI s.heap z TI TO T0 f1)(hT:∃o,s.heap.get? T0=some o)(hTI:gD s.heap TI (.ref i1) (.ref i2))(h1:s.heap.IsListIter i1 l1 k1)(h2:s.heap.IsListIter i2 l2 k2)(hl1:s.heap.IsList l1 xs)(hl2:s.heap.IsList l2 ys)(hend:xs[k1]?=none\/ys[k2]?=none)(hE:∀h' e,(∀c o,c≠z->c≠TO->c≠i1->c≠i2->s.heap.get? c=some o->h'.get? c=some o)->(∃o,h'.get? e=some o/\o.cls=.type "StopIteration")->E (.ref e) {s with heap:=h'}):wpAny (model prog w) A (dG.«zip.__next__» ⟨[.ref z],[]⟩) Q E s:=by
 show wpAny _ _ (field (.ref z) 2 >>= _) _ _ _;refine ae (bt hz rfl (x:=.bool false) rfl ?_);show wpAny _ _ (field (.ref z) 3 >>= _) _ _ _;refine ae (bt hz rfl (x:=.ref TI) rfl ?_);refine ae (fo hTI rfl ?_);show wpAny _ _ (bY (.ref z) >>= _) _ _ _;refine ae (Pf hz hT λh₁ hz₁ hs₁=>?_);simp only[Bool.false_eq_true,if_false];refine ae ?_;simp only[List.forIn_toArray,List.forIn_cons,List.forIn_nil];refine ae (ae (bz ?_));show wpAny _ _ (a_ (.ref i1) >>= _) _ _ _;cases hx:xs[k1]? with
|none=>exact ae (wpAny_nextOf_list_end hh (h1.extBut hs₁.extBut D.i1z) (hl1.extBut hs₁.extBut D.l1z) hx λh₂ e hs₂ he=>hE h₂ e (λc o c1 _ c3 _ x=>hs₂ _ _ c3 (hs₁.extBut _ _ c1 x)) he)
|some x=>
  have hy:ys[k2]?=none:=by rcases hend with h|h;rw[hx]at h;cases h;exact h
  refine ae (fY (h1.extBut hs₁.extBut D.i1z) (hl1.extBut hs₁.extBut D.l1z) hx λh₂ h1₂ hs₂=>ao (ao ?_));refine ae (ae (bz ?_));show wpAny _ _ (a_ (.ref i2) >>= _) _ _ _;exact ae (wpAny_nextOf_list_end hh ((h2.extBut hs₁.extBut D.i2z).extBut hs₂.extBut D.i12.symm) ((hl2.extBut hs₁.extBut D.l2z).extBut hs₂.extBut D.l2i1) hy λh₄ e hs₄ he=>hE h₄ e (λc o c1 c2 c3 c4 x=>hs₄ _ _ c4 (hs₂.extBut _ _ c3 (hs₁.extBut _ _ c1 x))) he)
def Vc(N0:Nat)(h:Heap)(z TI TO i1 i2 l1 l2:Addr)(xs ys:Array Value)(k:Nat):Prop:=((IsZip h z TI TO .none/\∃a b,gD h TO a b)\/∃T0 f1,UI h z TI TO T0 f1/\(∃o,h.get? T0=some o)/\N0<=T0) /\gD h TI (.ref i1) (.ref i2)/\h.IsListIter i1 l1 k/\h.IsListIter i2 l2 k/\h.IsList l1 xs/\h.IsList l2 ys
theorem Vc.type{N0:Nat}{z TI TO i1 i2 l1 l2:Addr}{xs ys:Array Value}{k:Nat}(st:Vc N0 s.heap z TI TO i1 i2 l1 l2 xs ys k):s.TypeIs (.ref z) "zip":=by
 obtain⟨⟨hz,_⟩|⟨T0,f1,hz,_⟩,_⟩:=st
 ·exact⟨_,hz,rfl⟩
 ·exact⟨_,hz,rfl⟩
theorem QG{N0:Nat}{z TI TO i1 i2 l1 l2:Addr}(lt0:z<N0/\TO<N0/\i1<N0/\i2<N0)(hN:N0<=s.heap.objs.size){k:Nat}{xs ys:Array Value}{x y:Value}{Q:Option Value->ag->Prop}(D:fQ z TI TO i1 i2 l1 l2)(st:Vc N0 s.heap z TI TO i1 i2 l1 l2 xs ys k)(hx:xs[k]?=some x)(hy:ys[k]?=some y)(hQ:∀h',Vc N0 h' z TI TO i1 i2 l1 l2 xs ys (k+1)->gD h' s.heap.objs.size x y->(∀c o,c≠z->c≠TO->c≠i1->c≠i2->s.heap.get? c=some o->h'.get? c=some o)->Q (some (.ref s.heap.objs.size)) {s with heap:=h'}):wpAny (model prog w) A (fH (.ref z)) Q E s:=by
 have hT:s.TypeIs (.ref z) "zip":=st.type;obtain⟨ha,hTI,h1,h2,hl1,hl2⟩:=st;have keep:∀h',(∀c o,c≠z->c≠TO->c≠i1->c≠i2->s.heap.get? c=some o->h'.get? c=some o)->gD h' TI (.ref i1) (.ref i2)/\h'.IsList l1 xs/\h'.IsList l2 ys:=λh' hk=>⟨hk _ _ D.TIz D.TITO D.TIi1 D.TIi2 hTI,hl1.at λo e=>hk _ o D.l1z D.l1TO D.l1i1 D.l1i2 e,hl2.at λo e=>hk _ o D.l2z D.l2TO D.l2i1 D.l2i2 e⟩;have lt:∀{c o},s.heap.get? c=some o->s.heap.objs.size≠c:=λe=>Nat.ne_of_gt (Heap.lt_size e);have n1:s.heap.objs.size≠i1:=by obtain⟨_,e,_⟩:=h1;exact lt e
 have n2:s.heap.objs.size≠i2:=by obtain⟨_,e,_⟩:=h2;exact lt e
 unfold fH;refine ae (fJ (bR (name:=Str.ofString "__next__") hT F.slot_zip_next (cj F.slot_zip_next hT F.entry_zip_next ?_ (F.args_zip_next_1 _))));rcases ha with⟨hz,a,b,hTO⟩|⟨T0,f1,hz,⟨o0,ho0⟩,t0⟩
 ·refine zip_next_item D hz hTI hTO h1 h2 hl1 hl2 hx hy λh' a1 a2 a3 a4 a5 a6 a7=>ao ?_;obtain⟨q1,q2,q3⟩:=keep h' a7;exact hQ h' ⟨.inr ⟨_,false,a1,⟨_,a5⟩,hN⟩,q1,a3,a4,q2,q3⟩ a5 a7
 ·refine Nh D hz ⟨o0,ho0⟩ hTI h1 h2 hl1 hl2 hx hy λh' a1 a3 a4 a5 a6 a7=>ao ?_;obtain⟨q1,q2,q3⟩:=keep h' a7;have g:∀c:Addr,c<N0->T0≠c:=λc hc=>Nat.ne_of_gt (Nat.lt_of_lt_of_le hc t0);exact hQ h' ⟨.inr ⟨T0,true,a1,⟨_,a7 _ _ (g z lt0.1) (g TO lt0.2.1) (g i1 lt0.2.2.1) (g i2 lt0.2.2.2) ho0⟩,t0⟩,q1,a3,a4,q2,q3⟩ a5 a7
theorem Ry{N0:Nat}{z TI TO i1 i2 l1 l2:Addr}{k:Nat}{xs ys:Array Value}{Q:Option Value->ag->Prop}(hh:A.handled=none)(D:fQ z TI TO i1 i2 l1 l2)(st:Vc N0 s.heap z TI TO i1 i2 l1 l2 xs ys k)(hend:xs[k]?=none\/ys[k]?=none)(hQ:∀h',(∀c o,c≠z->c≠TO->c≠i1->c≠i2->s.heap.get? c=some o->h'.get? c=some o)->Q none {s with heap:=h'}):wpAny (model prog w) A (fH (.ref z)) Q E s:=by
 have hT:s.TypeIs (.ref z) "zip":=st.type;obtain⟨ha,hTI,h1,h2,hl1,hl2⟩:=st;unfold fH;have fin:∀h' e,(∀c o,c≠z->c≠TO->c≠i1->c≠i2->s.heap.get? c=some o->h'.get? c=some o)->(∃o,h'.get? e=some o/\o.cls=.type "StopIteration")->wpAny (model prog w) A (isInstance (.ref e) (.type "StopIteration") >>= λok=>if ok=true then pure none else throw (.ref e)) Q E {s with heap:=h'}:=by rintro h' e hk ⟨o,ho,hc⟩;refine ae (wpAny_isInstance (T:="StopIteration") (b:=true) ⟨o,ho,hc⟩ isSubtype_stop ?_);exact ao (hQ _ hk)
 rcases ha with⟨hz,a,b,hTO⟩|⟨T0,f1,hz,hT0,t0⟩
 ·refine ae (fJ (bR (name:=Str.ofString "__next__") hT F.slot_zip_next (cj F.slot_zip_next hT F.entry_zip_next (zip_next_end hh D hz hTI hTO h1 h2 hl1 hl2 hend λh' e hk he=>fin h' e hk he) (F.args_zip_next_1 _))))
 ·refine ae (fJ (bR (name:=Str.ofString "__next__") hT F.slot_zip_next (cj F.slot_zip_next hT F.entry_zip_next (N8 hh D hz hT0 hTI h1 h2 hl1 hl2 hend λh' e hk he=>fin h' e hk he) (F.args_zip_next_1 _))))
end
theorem Rx:gX (.type "zip") "__len__"=pure none:=by rw[typeLookup_type,builtinLookup_eq_fast];kernel_rfl
theorem QE:gX (.type "zip") "__length_hint__"=pure none:=by rw[typeLookup_type,builtinLookup_eq_fast];kernel_rfl
theorem Vc.keep{N0:Nat}{h h':Heap}{z TI TO i1 i2 l1 l2:Addr}{xs ys:Array Value}{k:Nat}{S:Addr}(st:Vc N0 h z TI TO i1 i2 l1 l2 xs ys k)(hS:∀b o,b≠S->h.get? b=some o->h'.get? b=some o)(n:z≠S/\TI≠S/\TO≠S/\i1≠S/\i2≠S/\l1≠S/\l2≠S)(nT:S<N0):Vc N0 h' z TI TO i1 i2 l1 l2 xs ys k:=by
 obtain⟨ha,hTI,h1,h2,hl1,hl2⟩:=st;obtain⟨n1,n2,n3,n4,n5,n6,n7⟩:=n;refine⟨?_,hS _ _ n2 hTI,h1.at λo e=>hS _ o n4 e,h2.at λo e=>hS _ o n5 e,hl1.at λo e=>hS _ o n6 e,hl2.at λo e=>hS _ o n7 e⟩;rcases ha with⟨hz,a,b,hTO⟩|⟨T0,f1,hz,⟨o0,ho0⟩,t⟩
 ·exact .inl ⟨hS _ _ n1 hz,a,b,hS _ _ n3 hTO⟩
 ·exact .inr ⟨T0,f1,hS _ _ n1 hz,⟨o0,hS _ _ (Nat.ne_of_gt (Nat.lt_of_lt_of_le nT t)) ho0⟩,t⟩
section
variable {prog:Program}{w:World}{A:aX}{E:Value->ag->Prop}{R:Result->ag->Prop}
def Pairs(h:Heap)(N0:Nat)(xs ys:Array Value)(Ts:List Addr):Prop:=Ts.Nodup/\(∀T∈Ts,N0<=T/\T<h.objs.size)/\∀(j:Nat)T,Ts[j]?=some T->∃x y,xs[j]?=some x/\ys[j]?=some y/\gD h T x y
theorem Sn{z TI TO i1 i2 l1 l2 S:Addr}{xs ys:Array Value}{N0:Nat}(hh:A.handled=none)(D:fQ z TI TO i1 i2 l1 l2)(nS:z≠S/\TI≠S/\TO≠S/\i1≠S/\i2≠S/\l1≠S/\l2≠S)(res:Value)(lt:z<N0/\TO<N0/\i1<N0/\i2<N0/\S<N0)(hsz:min xs.size ys.size<=sizeLine):∀(k i:Nat)(s:ag)(Ts:List Addr)(c:Nat),min xs.size ys.size-i=k->i<=min xs.size ys.size->Ts.length=i->N0<=s.heap.objs.size->Vc N0 s.heap z TI TO i1 i2 l1 l2 xs ys i ->s.heap.get? S=some {cls:=.type "list",dict:=none,data:=.seq (Ts.map Value.ref).toArray c,slots:=#[]}->Pairs s.heap N0 xs ys Ts ->(∀h' Ts' c',(∀b o,b≠S->b≠z->b≠TO->b≠i1->b≠i2->s.heap.get? b=some o->h'.get? b=some o)->h'.get? S=some {cls:=.type "list",dict:=none,data:=.seq (Ts'.map Value.ref).toArray c',slots:=#[]}->Ts'.length=min xs.size ys.size->Pairs h' N0 xs ys Ts'->R (.ok (.ret res)) {s with heap:=h'}) ->fC (model prog w) A (.builtin "list.extend.loop" ⟨[.ref S,.ref z,res],[]⟩) R s:=by
 intro k;induction k with
|zero=>
  intro i s Ts c hk hi hl hN st hS hp hR;have hin:i=min xs.size ys.size:=by omega
  refine codeAny_builtin F.entry_extend_loop ?_;rw[Around.under_plainId F.plain_extend_loop _];show wpAny _ A.in1 (fH (.ref z) >>= _) _ _ s;have hend:xs[i]?=none\/ys[i]?=none:=by
   rcases Nat.le_total xs.size ys.size with h|h
   ·exact .inl (by rw[hin,Nat.min_eq_left h];exact Array.getElem?_eq_none (Nat.le_refl _))
   ·exact .inr (by rw[hin,Nat.min_eq_right h];exact Array.getElem?_eq_none (Nat.le_refl _))
  refine ae (Ry hh D st hend λh' hk'=>?_);obtain⟨n1,n2,n3,n4,n5,n6,n7⟩:=nS;refine ao (hR h' Ts c (λb o _ b1 b2 b3 b4 e=>hk' b o b1 b2 b3 b4 e) (hk' S _ n1.symm n3.symm n4.symm n5.symm hS) (by omega) ?_);obtain⟨p1,p2,p3⟩:=hp;have kt:∀T∈Ts,∀o,s.heap.get? T=some o->h'.get? T=some o:=λT hT' o e=>by have g:∀c:Addr,c<N0->T≠c:=λc hc=>Nat.ne_of_gt (Nat.lt_of_lt_of_le hc (p2 T hT').1);exact hk' T o (g z lt.1) (g TO lt.2.1) (g i1 lt.2.2.1) (g i2 lt.2.2.2.1) e
  refine⟨p1,λT hT'=>⟨(p2 T hT').1,?_⟩,λj T hj=>?_⟩
  ·obtain⟨j,hj⟩:=bh.mp hT';obtain⟨x,y,_,_,e⟩:=p3 j T hj;exact Heap.lt_size (kt T hT' _ e)
  ·obtain⟨x,y,q1,q2,e⟩:=p3 j T hj;exact⟨x,y,q1,q2,kt T (aK hj) _ e⟩
|succ k ih=>
  intro i s Ts c hk hi hl hN st hS hp hR;have hlt:i<min xs.size ys.size:=by omega
  have hix:i<xs.size:=Nat.lt_of_lt_of_le hlt (Nat.min_le_left ..);have hiy:i<ys.size:=Nat.lt_of_lt_of_le hlt (Nat.min_le_right ..);refine codeAny_builtin F.entry_extend_loop ?_;rw[Around.under_plainId F.plain_extend_loop _];show wpAny _ A.in1 (fH (.ref z) >>= _) _ _ s;refine ae (QG ⟨lt.1,lt.2.1,lt.2.2.1,lt.2.2.2.1⟩ hN D st (dv hix) (dv hiy) λh' st' hpr hk'=>?_);obtain⟨n1,n2,n3,n4,n5,n6,n7⟩:=id nS;have hS':=hk' S _ n1.symm n3.symm n4.symm n5.symm hS;show wpAny _ A.in1 (updateSeq S (·.push (.ref s.heap.objs.size)) >>= _) _ _ _;refine ae ?_;have hsS:S<s.heap.objs.size:=Heap.lt_size hS;obtain⟨p1,p2,p3⟩:=hp;have oth:∀b o,b≠S->h'.get? b=some o->(h'.update S (Obj.mapSeq (·.push (.ref s.heap.objs.size)))).get? b=some o:=λb o hb e=>(Heap.get?_update_other _ _ (bA hb)).trans e;have eT:(Ts.map Value.ref).toArray.push (Value.ref s.heap.objs.size)=((Ts++[s.heap.objs.size]).map Value.ref).toArray:=by simp
  obtain⟨c2,hS2⟩:∃c2,(h'.update S (Obj.mapSeq (·.push (.ref s.heap.objs.size)))).get? S=some {cls:=.type "list",dict:=none,data:=.seq ((Ts++[s.heap.objs.size]).map Value.ref).toArray c2,slots:=#[]}:=⟨_,(Heap.get?_update_self _ hS' rfl).trans (by rw[<-eT];rfl)⟩;refine f9 hS' rfl (ao ⟨plainId_quiet F.plain_extend_loop _,ih (i+1) _ (Ts++[s.heap.objs.size]) c2 (by omega) hlt (by simp[hl]) ?_ (st'.keep oth nS lt.2.2.2.2) hS2 ?_ λh'' Ts' c' q1 q2 q3 q4=>hR h'' Ts' c' (λb o b0 b1 b2 b3 b4 e=>q1 b o b0 b1 b2 b3 b4 (oth b o b0 (hk' b o b1 b2 b3 b4 e))) q2 q3 q4⟩) (by simp only[au,aZ];omega) (by simp only[Array.size_push,au,aZ];omega)
  ·have:=Heap.lt_size (oth _ _ (Nat.ne_of_gt hsS) hpr);exact Nat.le_of_lt (Nat.lt_of_le_of_lt hN this)
  ·have kt:∀T∈Ts,∀o,s.heap.get? T=some o->(h'.update S (Obj.mapSeq (·.push (.ref s.heap.objs.size)))).get? T=some o:=λT hT' o e=>by have g:∀c:Addr,c<N0->T≠c:=λc hc=>Nat.ne_of_gt (Nat.lt_of_lt_of_le hc (p2 T hT').1);exact oth T o (g S lt.2.2.2.2) (hk' T o (g z lt.1) (g TO lt.2.1) (g i1 lt.2.2.1) (g i2 lt.2.2.2.1) e)
   have new:=oth _ _ (Nat.ne_of_gt hsS) hpr;refine⟨?_,λT hT'=>?_,λj T hj=>?_⟩
   ·rw[eU];refine⟨p1,by simp,λa ha b hb=>?_⟩;rw[aQ]at hb;subst hb;exact Nat.ne_of_lt (p2 a ha).2
   ·rcases aP.mp hT' with hT'|hT'
    ·obtain⟨j,hj⟩:=bh.mp hT';obtain⟨x,y,_,_,e⟩:=p3 j T hj;exact⟨(p2 T hT').1,Heap.lt_size (kt T hT' _ e)⟩
    ·rw[aQ]at hT';subst hT';exact⟨hN,Heap.lt_size new⟩
   ·rcases Nat.lt_or_ge j Ts.length with hjl|hjl
    ·rw[a8 hjl]at hj;obtain⟨x,y,q1,q2,e⟩:=p3 j T hj;exact⟨x,y,q1,q2,kt T (aK hj) _ e⟩
    ·rw[bD hjl]at hj;have hj0:j-Ts.length=0:=by
      rcases Nat.eq_zero_or_pos (j-Ts.length)with h|h
      ·exact h
      ·rw[fP (by simp;omega)]at hj;cases hj
     rw[hj0]at hj;have e:s.heap.objs.size=T:=by simpa using hj
     subst e;have hji:j=i:=by omega
     subst hji;exact⟨_,_,dv hix,dv hiy,new⟩
end
section
variable {prog:Program}{w:World}{A:aX}{E:Value->ag->Prop}{s:ag}
theorem Pairs.nil{h:Heap}{N0:Nat}{xs ys:Array Value}:Pairs h N0 xs ys []:=⟨fT,λT hT=>(by cases hT),λj T hj=>by simp at hj⟩
theorem Vc.iter{N0:Nat}{z TI TO i1 i2 l1 l2:Addr}{xs ys:Array Value}{k:Nat}{Q:Value->ag->Prop}(st:Vc N0 s.heap z TI TO i1 i2 l1 l2 xs ys k)(h:Q (.ref z) s):wpAny (model prog w) A (pyIter (.ref z)) Q E s:=by have hT:s.TypeIs (.ref z) "zip":=st.type;refine wpAny_pyIter_slot hT F.slot_zip_iter (cj F.slot_zip_iter hT F.entry_zip_iter ?_ (F.args_zip_iter_1 _));show wpAny _ _ (ret (.ref z)) _ _ s;exact ao ⟨_,rfl,"zip",_,hT,F.slot_zip_next.lookup,h⟩
theorem MU{R:Result->ag->Prop}{z TI TO i1 i2 l1 l2 S:Addr}{xs ys:Array Value}{N0:Nat}(hh:A.handled=none)(D:fQ z TI TO i1 i2 l1 l2)(nS:z≠S/\TI≠S/\TO≠S/\i1≠S/\i2≠S/\l1≠S/\l2≠S)(res:Value)(c₀:Nat)(lt:z<N0/\TO<N0/\i1<N0/\i2<N0/\S<N0)(hN:N0<=s.heap.objs.size)(hsz:min xs.size ys.size<=sizeLine)(st:Vc N0 s.heap z TI TO i1 i2 l1 l2 xs ys 0)(hS:s.heap.get? S=some {cls:=.type "list",data:=.seq #[] c₀})(hR:∀h' Ts' c',(∀b o,b≠S->b≠z->b≠TO->b≠i1->b≠i2->s.heap.get? b=some o->h'.get? b=some o)->h'.get? S=some {cls:=.type "list",dict:=none,data:=.seq (Ts'.map Value.ref).toArray c',slots:=#[]}->Ts'.length=min xs.size ys.size->Pairs h' N0 xs ys Ts'->R (.ok (.ret res)) {s with heap:=h'}):wpAny (model prog w) A.in1 (c8 (.ref S) (.ref z) res) (λfin s'=>match fin with|.done f=>R (.ok f) s'|.again c'=>c'.quiet=true/\fC (model prog w) A c' R s') (λe s'=>R (.error e) s') s:=by
 obtain⟨n1,n2,n3,n4,n5,n6,n7⟩:=id nS;unfold c8;refine ae (wpAny_typeOf st.type ?_);have h1:gN (.ref S) (.ref z)=false:=by simp[gN,n1.symm]
 have h2:(Value.type "zip"==Value.type "list")=false:=by decide
 have h3:(Value.type "zip"==Value.type "tuple")=false:=by decide
 simp only[h1,h2,h3,Bool.or_false,Bool.false_eq_true,if_false];refine ae (st.iter ?_);refine ae (bz ?_);unfold Builtin.List.listLengthHint;refine ae (f_ st.type Rx ?_);show wpAny _ A.in1 (specialOf (Value.ref z) (Str.ofString "__length_hint__") >>= _) _ _ _;refine ae (f_ st.type QE ?_);refine ao ?_;show wpAny _ A.in1 (rule "list.extend.makes-room" >>= λ_=>Builtin.List.listTouch (.ref S) >>= λ_=>
  again (.builtin "list.extend.loop" ⟨[.ref S,.ref z,res],[]⟩)) _ _ _;refine ae (wpAny_rule ?_);refine ae ?_;show wpAny _ A.in1 (updateSeq S (·.push .none) >>= λ_=>updateSeq S (·.pop)) _ _ _;refine ae (f9 hS rfl ?_);have hS₂:=Heap.get?_update_self (Obj.mapSeq (·.push Value.none)) hS rfl;refine f9 (hz:=by seq_fits) hS₂ rfl ?_;have hS₃:=Heap.get?_update_self (Obj.mapSeq (·.pop)) hS₂ rfl;have oth:∀b o,b≠S->s.heap.get? b=some o->((s.heap.update S (Obj.mapSeq (·.push Value.none))).update S (Obj.mapSeq (·.pop))).get? b=some o:=λb o hb e=>(Heap.get?_update_other _ _ (bA hb)).trans ((Heap.get?_update_other _ _ (bA hb)).trans e);have hsz2:((s.heap.update S (Obj.mapSeq (·.push Value.none))).update S (Obj.mapSeq (·.pop))).objs.size=s.heap.objs.size:=by
  rw[(Heap.SameBut.update ..).1,(Heap.SameBut.update ..).1]
 refine ao ⟨plainId_quiet F.plain_extend_loop _,Sn hh D nS res lt hsz (min xs.size ys.size) 0 _ [] _ (by omega) (Nat.zero_le _) rfl (by rw[hsz2];exact hN) (st.keep oth nS lt.2.2.2.2) hS₃ Pairs.nil λh' Ts' c' q1 q2 q3 q4=>?_⟩;exact hR h' Ts' c' (λb o b0 b1 b2 b3 b4 e=>q1 b o b0 b1 b2 b3 b4 (oth b o b0 e)) q2 q3 q4
theorem ME{Q:Value->ag->Prop}{z TI TO i1 i2 l1 l2:Addr}{xs ys:Array Value}(hh:A.handled=none)(D:fQ z TI TO i1 i2 l1 l2)(lt:z<s.heap.objs.size/\TI<s.heap.objs.size/\TO<s.heap.objs.size/\i1<s.heap.objs.size/\i2<s.heap.objs.size/\l1<s.heap.objs.size/\l2<s.heap.objs.size)
  (hsz:min xs.size ys.size<=sizeLine) (hz:IsZip s.heap z TI TO .none) (hTI:gD s.heap TI (.ref i1) (.ref i2)) (hTO:∃a b,gD s.heap TO a b) (h1:s.heap.IsListIter i1 l1 0) (h2:s.heap.IsListIter i2 l2 0) (hl1:s.heap.IsList l1 xs) (hl2:s.heap.IsList l2 ys)
  (hQ:∀h' Ts' c',(∀b o,b≠z->b≠TO->b≠i1->b≠i2->s.heap.get? b=some o->h'.get? b=some o)->h'.get? s.heap.objs.size=some {cls:=.type "list",dict:=none,data:=.seq (Ts'.map Value.ref).toArray c',slots:=#[]}->Ts'.length=min xs.size ys.size->Pairs h' (s.heap.objs.size+1) xs ys Ts'->Q (.ref s.heap.objs.size) {s with heap:=h'}):
  wpAny (model prog w) A (call (.type "list") [.ref z]) Q E s:=by
 have ne:∀{b:Addr},b<s.heap.objs.size->b≠s.heap.objs.size:=λh=>Nat.ne_of_lt h
 refine callType_codes (Q₁:=λobj s₁=>obj=.ref s.heap.objs.size/\s₁={s with heap:=s.heap.push {cls:=.type "list",data:=.seq #[]}}) F.called_list (F.typeCall_list_1 _) F.entry_list_init
  (code_list_new _ ⟨rfl,rfl⟩) λobj s₁ h₁=>?_
 obtain⟨rfl,rfl⟩:=h₁
 have hS:(s.heap.push {cls:=.type "list",data:=.seq #[]}).get? s.heap.objs.size=some {cls:=.type "list",data:=.seq #[]}:=Heap.get?_push_size _ rfl
 refine⟨⟨_,hS,rfl⟩,F.args_list_init_2 _ _,?_⟩
 show wpAny _ A.in1.in1 (do let old <-gW (.ref s.heap.objs.size);Builtin.List.listUpdate (.ref s.heap.objs.size) (λ_=>#[]);letGo old.toList.reverse;c8 (.ref s.heap.objs.size) (.ref z) .none) _ _ _
 refine ae ?_
 unfold gW
 refine ae (fo hS rfl (ao ?_))
 show wpAny _ A.in1.in1 (updateSeq s.heap.objs.size (λ_=>#[]) >>= λ_=>letGo (#[]:Array Value).toList.reverse >>= λ_=>c8 (.ref s.heap.objs.size) (.ref z) .none) _ _ _
 refine ae (f9 hS rfl ?_)
 have hS₂:=Heap.get?_update_self (Obj.mapSeq (λ_=>(#[]:Array Value))) hS rfl
 have oth:∀b o,b≠s.heap.objs.size->s.heap.get? b=some o->((s.heap.push {cls:=.type "list",data:=.seq #[]}).update s.heap.objs.size (Obj.mapSeq (λ_=>(#[]:Array Value)))).get? b=some o:=
  λb o hb e=>(Heap.get?_update_other _ _ (bA hb)).trans (Heap.get?_push_of_some _ e)
 refine ae (wpAny_letGo ?_)
 have hsz2:((s.heap.push {cls:=.type "list",data:=.seq #[]}).update s.heap.objs.size (Obj.mapSeq (λ_=>(#[]:Array Value)))).objs.size=s.heap.objs.size+1:=by rw[(Heap.SameBut.update ..).1,Heap.size_push]
 obtain⟨t1,t2,t3,t4,t5,t6,t7⟩:=lt
 obtain⟨a,b,hTO⟩:=hTO
 refine MU (N0:=s.heap.objs.size+1) (A:=A.in1) hh D ⟨ne t1,ne t2,ne t3,ne t4,ne t5,ne t6,ne t7⟩ .none _ ⟨Nat.lt_succ_of_lt t1,Nat.lt_succ_of_lt t3,Nat.lt_succ_of_lt t4,Nat.lt_succ_of_lt t5,Nat.lt_succ_self _⟩ (by rw[hsz2];exact Nat.le_refl _) hsz
  ⟨.inl ⟨oth _ _ (ne t1) hz,a,b,oth _ _ (ne t3) hTO⟩,oth _ _ (ne t2) hTI,h1.at λo e=>oth _ o (ne t4) e,h2.at λo e=>oth _ o (ne t5) e,hl1.at λo e=>oth _ o (ne t6) e,hl2.at λo e=>oth _ o (ne t7) e⟩ hS₂ λh' Ts' c' q1 q2 q3 q4=>?_
 exact⟨rfl,hQ h' Ts' c' (λb o b1 b2 b3 b4 e=>q1 b o (Nat.ne_of_lt (Heap.lt_size e)) b1 b2 b3 b4 (oth b o (Nat.ne_of_lt (Heap.lt_size e)) e)) q2 q3 q4⟩
end
noncomputable def U0(H news:Hp):Hp:=λa=>match news a with|some o=>some o|none=>H a
theorem V0{H news:Hp}{a:Addr}(h:news a=none):U0 H news a=H a:=by unfold U0;rw[h]
theorem Mi{H news:Hp}{a:Addr}{o:HO}(h:news a=some o):U0 H news a=some o:=by unfold U0;rw[h]
section
variable {X:Cx}{pins:List (Addr×Obj)}{σ:List (Option V)}{H:Hp}{s:ag}{h':Heap}
theorem Inv.more{news:Hp}{t':Nat}(I:Inv X pins σ H s)(k:∀b u,s.heap.get? b=some u->h'.get? b=some u)(hp:∀a o,news a=some o->s.heap.objs.size<=a)(new:∀a o,news a=some o->ZP X.prog X.w (U0 H news) h' a o):Inv X pins σ (U0 H news) {s with heap:=h',toks:=t'}:=by
 have old:∀b,b<s.heap.objs.size->news b=none:=λb hb=>by
  cases e:news b with
 |none=>rfl
 |some o=>exact absurd (Nat.lt_of_lt_of_le hb (hp b o e)) (Nat.lt_irrefl _)
 have oldH:∀b u,H b=some u->U0 H news b=some u:=λb u e=>by rw[V0 (old b (I.hok.lt e))];exact e
 refine I.un ⟨λb u q _ _ _=>k b u q,λb u q _ _ _=>⟨u.slots,k b u q⟩,λb u q n _=>by rw[V0 (old b (Heap.lt_size q))];exact n,λb u q _=>⟨u,k b u q⟩,λb xs q=>oldH _ _ q,λb o u q=>oldH _ _ q,λb ps q=>⟨#[],by rw[oldH _ _ q];simp⟩⟩ λb u q=>?_;cases e:news b with
|some o=>rw[Mi e]at q;cases q;exact new b _ e
|none=>rw[V0 e]at q;exact(I.hok b u q).stay (λc v _ q=>k c v q) (λc q=>oldH _ _ q) λc xs q=>oldH _ _ q
end
def Dq(H H':Hp)(l:Addr)(rows:List (List V)):Prop:=Same H H'/\H l=none/\∃as:List Addr,H' l=some (.lst (as.map V.ref))/\as.length=rows.length/\(∀a∈as,H a=none)/\∀(i:Nat)a r,as[i]?=some a->rows[i]?=some r->H' a=some (.tup r)
section
variable {X:Cx}{a b:Expr}{ta:TA}{p p2 pos pos2:Pos}
def Hi(ta:TA):TE:=λσ H Q=>ta σ H λvs H1=>∃(l1 l2:Addr)(xs ys:List V),vs=[.ref l1,.ref l2]/\H1 l1=some (.lst xs)/\H1 l2=some (.lst ys)/\∀H' l,Dq H1 H' l ((xs.zip ys).map λq=>[q.1,q.2])->Q (.ref l) H'
theorem SV{xs:List V}{us:List Value}(r:Vals xs us){j:Nat}{u:Value}(h:us[j]?=some u):∃x,xs[j]?=some x/\RelV x u:=by
 have hj:j<us.length:=(aj.mp h).1;have hj':j<xs.length:=by rw[r.length];exact hj
 obtain⟨u',e,rr⟩:=r.get (gE hj');rw[h]at e;cases e;exact⟨_,gE hj',rr⟩
theorem RZ(hc:X.calm=true)(hg:Gl X "list")(hm:X.mg "list"=none)(hg2:Gl X "zip")(hm2:X.mg "zip"=none)(ha:PA X [a,b] ta)(hs:aD [a,b] X.env=[(false,eval a X.env),(false,eval b X.env)]:=by rfl)(hs2:aD [b] X.env=[(false,eval b X.env)]:=by rfl)(hs3:aD [.Call (.Name "zip" p2) [a,b] [] pos2] X.env=[(false,eval (.Call (.Name "zip" p2) [a,b] [] pos2) X.env)]:=by rfl):PE X (.Call (.Name "list" p) [.Call (.Name "zip" p2) [a,b] [] pos2] [] pos) (Hi ta):=by
 intro pins s σ H Q I h;refine di (J1 I hg hm GW (br ?_ (by rw[hs3];rfl) (by rfl)));rw[hs3];refine Calls.spliced_cons ?_;refine Call_ (J1 I hg2 hm2 boot_zip (br (thn (ha pos2 pins s σ H _ I h) λus s1⟨vs,H1,I1,r1,q1⟩=>?_) (by rw[hs,hs2]) (by rw[hs2];rfl)));obtain⟨l1,l2,xs,ys,e,hx,hy,q⟩:=q1;subst e;cases r1 with
|cons r rr=>
  cases rr with
 |cons r' rr=>
   cases rr;cases r;cases r';obtain⟨z1,its,n,rv,hl,e⟩:=I1.lstM hx;obtain⟨z2,its2,n2,rv2,hl2,e2⟩:=I1.lstM hy;refine call_zip_2 (xs:=its.toArray) (ys:=its2.toArray) ⟨_,e,rfl,_,rfl⟩ ⟨_,e2,rfl,_,rfl⟩ λh' a1 a2 a3 a4 a5 hsz kk=>?_;refine Calls.spliced_nil ?_;have lt1:=Heap.lt_size e;have lt2:=Heap.lt_size e2;have D:fQ (s1.heap.objs.size+4) (s1.heap.objs.size+2) (s1.heap.objs.size+3) s1.heap.objs.size (s1.heap.objs.size+1) l1 l2:=by
    generalize s1.heap.objs.size=N at lt1 lt2;have g:∀(c:Nat)(k:Nat),c<N->c≠N+k:=λc k hc=>by omega
    have g2:∀i j:Nat,i≠j->N+i≠N+j:=λi j h e=>h (Nat.add_left_cancel e);exact⟨g2 2 4 (by decide),g2 3 4 (by decide),g2 0 4 (by decide),g2 1 4 (by decide),g2 2 3 (by decide),g2 2 0 (by decide),g2 2 1 (by decide),g2 3 0 (by decide),g2 3 1 (by decide),g2 0 1 (by decide),g _ 4 lt1,g _ 3 lt1,g _ 0 lt1,g _ 1 lt1,g _ 4 lt2,g _ 3 lt2,g _ 0 lt2,g _ 1 lt2⟩
   have sz:h'.objs.size=s1.heap.objs.size+5:=hsz;refine ME (s:={s1 with heap:=h'}) (xs:=its.toArray) (ys:=its2.toArray) (I1.ok.hd hc) D ?_ ?_ a1 a2 ⟨_,_,a3⟩ a4 a5 ⟨_,kk _ _ e,rfl,_,rfl⟩ ⟨_,kk _ _ e2,rfl,_,rfl⟩ λh'' Ts c' k2 hS hlen hp=>?_
   ·show _<h'.objs.size/\_<h'.objs.size/\_<h'.objs.size/\_<h'.objs.size/\_<h'.objs.size/\_<h'.objs.size/\_<h'.objs.size;rw[sz];generalize s1.heap.objs.size=N at lt1 lt2;have g:∀k:Nat,k<5->N+k<N+5:=λk hk=>by omega
    exact⟨g 4 (by decide),g 2 (by decide),g 3 (by decide),g 0 (by decide),g 1 (by decide),Nat.lt_of_lt_of_le lt1 (Nat.le_add_right _ _),Nat.lt_of_lt_of_le lt2 (Nat.le_add_right _ _)⟩
   ·simp only[au];omega
   ·have kold:∀b o,s1.heap.get? b=some o->h''.get? b=some o:=λb o q=>by have hb:=Heap.lt_size q;have g:∀k:Nat,b≠s1.heap.objs.size+k:=λk=>Nat.ne_of_lt (Nat.lt_of_lt_of_le hb (Nat.le_add_right _ _));exact k2 b o (g 4) (g 3) (g 0) (g 1) (kk b o q)
    obtain⟨p1,p2,p3⟩:=hp;simp only[au]at hlen;have lenxy:Ts.length=min xs.length ys.length:=by rw[hlen,hl,hl2]
    let rows:=(xs.zip ys).map λq=>[q.1,q.2]
    let news:Hp:=λc=>if c=h'.objs.size then some (HO.lst (Ts.map V.ref))else if c∈Ts then some (HO.tup (rows.getD (Ts.idxOf c) []))else none
    have hS':h'.objs.size∉Ts:=λz=>Nat.not_succ_le_self _ (p2 _ z).1;have nS:news h'.objs.size=some (.lst (Ts.map V.ref)):=if_pos rfl;have nT:∀c∈Ts,news c=some (.tup (rows.getD (Ts.idxOf c) [])):=λc hc=>by have zc:c≠h'.objs.size:=λz=>hS' (by rw[<-z];exact hc);show(if c=h'.objs.size then some (HO.lst (Ts.map V.ref))else if c∈Ts then some (HO.tup (rows.getD (Ts.idxOf c) []))else none)=_;rw[if_neg zc,if_pos hc]
    have hge:s1.heap.objs.size<=h'.objs.size:=by rw[sz];exact Nat.le_add_right _ _
    have hrow:∀(i:Nat)T r,Ts[i]?=some T->rows[i]?=some r->rows.getD (Ts.idxOf T) []=r:=λi T r h1 h2=>by
     have hi:i<Ts.length:=(aj.mp h1).1;have ei:Ts.idxOf T=i:=by have e:Ts[i]=T:=(aj.mp h1).2;rw[<-e];exact p1.idxOf_getElem i hi
     rw[ei,bj,h2];rfl
    have I2:Inv X pins σ (U0 H1 news) {s1 with heap:=h'',toks:=s1.toks}:=I1.more kold (λc o hc=>?_) (λc o hc=>?_)
    ·refine⟨.ref h'.objs.size,U0 H1 news,I2,rfl,q _ _ ⟨λc o ho=>?_,I1.hok.fresh hge,Ts,Mi nS,?_,λc hc=>I1.hok.fresh (Nat.le_trans hge (Nat.le_of_succ_le (p2 c hc).1)),λi T r h1 h2=>?_⟩⟩
     ·rw[V0 ?_]
      ·exact ho
      ·have hlt:=I1.hok.lt ho;have zc:c≠h'.objs.size:=Nat.ne_of_lt (Nat.lt_of_lt_of_le hlt hge);have zt:c∉Ts:=λz=>Nat.lt_irrefl _ (Nat.lt_of_lt_of_le hlt (Nat.le_trans hge (Nat.le_of_succ_le (p2 c z).1)));show(if c=h'.objs.size then some (HO.lst (Ts.map V.ref))else if c∈Ts then some (HO.tup (rows.getD (Ts.idxOf c) []))else none)=_;rw[if_neg zc,if_neg zt]
     ·rw[lenxy,lm,bV]
     ·rw[Mi (nT T (aK h1)),hrow i T r h1 h2]
    ·by_cases z:c=h'.objs.size
     ·rw[z];exact hge
     ·by_cases zz:c∈Ts
      ·exact Nat.le_trans hge (Nat.le_of_succ_le (p2 c zz).1)
      ·have:news c=none:=by show(if c=h'.objs.size then some (HO.lst (Ts.map V.ref))else if c∈Ts then some (HO.tup (rows.getD (Ts.idxOf c) []))else none)=_;rw[if_neg z,if_neg zz]
       rw[this]at hc;cases hc
    ·by_cases z:c=h'.objs.size
     ·subst z;rw[nS]at hc;cases hc;refine⟨by rw[lm,lenxy];omega,Ts.map Value.ref,c',?_,hS⟩;generalize Ts=l;induction l with
     |nil=>exact .nil
     |cons a l ih=>exact .cons rfl ih
     ·by_cases zz:c∈Ts
      ·rw[nT c zz]at hc;cases hc;obtain⟨j,hj⟩:=bh.mp zz;obtain⟨x,y,hx',hy',hpr⟩:=p3 j c hj;obtain⟨vx,ex,rx⟩:=SV rv (j:=j) (by simpa using hx');obtain⟨vy,ey,ry⟩:=SV rv2 (j:=j) (by simpa using hy');have er:rows[j]?=some [vx,vy]:=by show((xs.zip ys).map λq=>[q.1,q.2])[j]?=_;rw[ah,List.getElem?_zip_eq_some (z:=(vx,vy)) |>.mpr ⟨ex,ey⟩];rfl
       rw[hrow j c _ hj er];exact⟨zl,[x,y],.cons rx (.cons ry .nil),⟨_,hpr,rfl,_,rfl⟩⟩
      ·have:news c=none:=by show(if c=h'.objs.size then some (HO.lst (Ts.map V.ref))else if c∈Ts then some (HO.tup (rows.getD (Ts.idxOf c) []))else none)=_;rw[if_neg z,if_neg zz]
       rw[this]at hc;cases hc
end
section
variable {prog:Program}{w:World}{A:aX}{E:Value->ag->Prop}
theorem PK{it l:Addr}{items:Array Value}(hne:l≠it):∀(n i:Nat)(s:ag)(Q:List Value->ag->Prop),s.heap.IsListIter it l i->s.heap.IsList l items->i+n<=items.size ->(∀h',h'.IsListIter it l (i+n)->Heap.SameBut it s.heap h'->Q ((items.toList.drop i).take n) {s with heap:=h'})->wpAny (model prog w) A (draw (.ref it) n) Q E s
|0,i,s,Q,hit,_,_,hQ=>by show wpAny _ _ (pure []) Q E s;exact ao (by simpa using hQ s.heap hit (Heap.SameBut.refl ..))
|n+1,i,s,Q,hit,hl,hle,hQ=>by
  have hlt:i<items.size:=by omega
  show wpAny _ _ (fH (.ref it) >>= _) Q E s;refine ae (wpAny_pyNext_list_item hit hl (x:=items[i]) (by simp[hlt]) λh₁ hit₁ hs₁=>?_);refine ae (bz (PK hne n (i+1) _ _ hit₁ (hl.at λo e=>hs₁.extBut _ _ hne e) (by omega) λh₂ hit₂ hs₂=>ao ?_));have hd:items.toList.drop i=items[i]::items.toList.drop (i+1):=by simp[cF,hlt]
  have:=hQ h₂ (by rw[show i+(n+1)=i+1+n by omega];exact hit₂) (hs₁.trans hs₂);rw[hd,List.take_succ_cons]at this;exact this
theorem G0{s:ag}{t:Addr}{items:Array Value}{Q:List Value->ag->Prop}(hh:A.handled=none)(ht:s.heap.IsList t items)(hQ:∀h',Heap.ExtBut s.heap.objs.size s.heap h'->Q items.toList {s with heap:=h'}):wpAny (model prog w) A (unpackItems (.ref t) items.size none) Q E s:=by
 have hlt:t≠s.heap.objs.size:=by obtain⟨o,ho,_⟩:=ht;exact Nat.ne_of_lt (Heap.lt_size ho)
 unfold unpackItems;refine ae ?_
 ·unfold notIterableAtAll;refine ae (f_ ht.typeIs slot_list_iter.lookup ?_);refine ao ?_;simp only[Bool.false_eq_true,if_false];refine ae (bz (wpAny_pyIter_list ht ?_));have ht0:(s.heap.push {cls:=.type "list_iterator",data:=.fields #[.ref t,.int 0 0]}).IsList t items:=ht.at λo e=>Heap.get?_push_of_some _ e;refine ae (bz (PK hlt items.size 0 _ _ ⟨_,Heap.get?_push_size _ rfl,rfl,rfl⟩ ht0 (by omega) λh₁ hit₁ hs₁=>?_));have hall:List.take items.size (List.drop 0 items.toList)=items.toList:=by rw[fU];exact aO (by simp)
  rw[hall];rw[if_neg (by simp)];have ht₁:h₁.IsList t items:=ht0.at λo e=>hs₁.extBut _ _ hlt e;refine ae (bz (wpAny_pyNext_list_end hh hit₁ ht₁ (by simp) λh₂ he₂=>?_));simp only[Option.isSome_none,Bool.false_eq_true,if_false];refine ao (hQ h₂ λb o hb e=>he₂ b o hb (hs₁.extBut b o hb (Heap.get?_push_of_some _ e)))
theorem GX{s:ag}{env:Env}{elts:List Expr}{x1}{pos:Pos}{t:Addr}{items:Array Value}{Q:Unit->ag->Prop}(hh:A.handled=none)(ht:s.heap.IsList t items)(hn:(cL elts env).length=items.size)(hstar:(cL elts env).findIdx? (·.1)=none)(h:∀h',Heap.ExtBut s.heap.objs.size s.heap h'->wpAny (model prog w) A (assignInOrder ((cL elts env).map (·.2)) items.toList) Q E {s with heap:=h'}):wpAny (model prog w) A (assign (.Tuple elts x1 pos) env (.ref t)) Q E s:=by rw[assign_Tuple];refine ae (d5 ?_);unfold unpack;rw[hn,hstar];exact ae (bz (G0 hh ht h))
end
section
variable {X:Cx}{pos:Pos}
def gLst(K:aa)(n:Nat)(t:TGs):TG:=λv σ H Q=>∃a xs,v=.ref a/\SqL K H a xs/\xs.length=n/\t xs σ H Q
theorem Ma{es:List Expr}{k:Nat}{t:TGs}{n:Nat}(hc:X.calm=true)(h:PGs X es t)(hn:(cL es X.env).length=n:=by rfl)(hst:(cL es X.env).findIdx? (·.1)=none:=by rfl):PG X (.Tuple es k pos) (gLst X.K n t):=by intro pins s σ H v u Q I r hw;obtain⟨a,xs,e1,hq,hl,hw⟩:=hw;subst e1;cases r;obtain⟨its,rv,ht,hz⟩:=I.list hq;refine GX (I.ok.hd hc) ht.isList (by simp[hn,<-hl,rv.length]) hst λh' hx=>?_;have I1:Inv X pins σ H {s with heap:=h'}:=I.kept (t':=s.toks) λb o e=>hx b o (Nat.ne_of_lt (Heap.lt_size e)) e;exact h pins _ σ H xs _ Q I1 (by simpa using rv) hw
noncomputable def rLen(K:aa):List V->Hp->VK->Prop:=λxs H Q=>∃p ys,xs=[.ref p]/\(SqL K H p ys\/SqT K H p ys)/\Q (.int ys.length) H
theorem YB:Jh X (.builtin "len") (rLen X.K):=J6
end
mutual
inductive Is(H:Hp):V->PyData->Prop
|non:Is H .non .none
|bl (b:Bool):Is H (.bl b) (.bool b)
|int (i:Int):Is H (.int i) (.int i)
|str (z:Str):Is H (.str z) (.str z)
|lst {a:Addr}{xs:List V}{ds:List PyData} (e:H a=some (.lst xs)) (r:IsAll H xs ds):Is H (.ref a) (.list ds)
|tup {a:Addr}{xs:List V}{ds:List PyData} (e:H a=some (.tup xs)) (r:IsAll H xs ds):Is H (.ref a) (.tuple ds)
inductive IsAll(H:Hp):List V->List PyData->Prop
|nil:IsAll H [] []
|cons {x:V}{xs:List V}{d:PyData}{ds:List PyData} (h:Is H x d) (r:IsAll H xs ds):IsAll H (x::xs) (d::ds)
end
section
variable {P:Program}{w:World}{H:Hp}{h:Heap}
mutual
theorem Is.reads(ok:HOk P w H h):∀{x:V}{d:PyData}{v:Value},Is H x d->RelV x v->∃as,Reads h v d as
|_,_,_,.non,r=>by cases r;exact⟨_,.none⟩
|_,_,_,.bl b,r=>by cases r;exact⟨_,.bool b⟩
|_,_,_,.int i,r=>by obtain⟨t,rfl⟩:=r;exact⟨_,.int i t⟩
|_,_,_,.str z,r=>by obtain⟨t,rfl⟩:=r;exact⟨_,.str z t⟩
|_,_,_,.lst e q,r=>by cases r;obtain⟨_,its,n,rv,e2⟩:=ok _ _ e;obtain⟨as,ra⟩:=IsAll.reads ok q rv;exact⟨_,.list e2 rfl rfl (by simpa using ra)⟩
|_,_,_,.tup e q,r=>by cases r;obtain⟨_,its,rv,o,e2,hc,n,hd⟩:=ok _ _ e;obtain⟨as,ra⟩:=IsAll.reads ok q rv;exact⟨_,.tuple e2 hc hd (by simpa using ra)⟩
theorem IsAll.reads(ok:HOk P w H h):∀{xs:List V}{ds:List PyData}{us:List Value},IsAll H xs ds->Vals xs us->∃as,ReadsAll h us ds as
|_,_,_,.nil,r=>by cases r;exact⟨_,.nil⟩
|_,_,_,.cons a b,r=>by
  cases r with
 |cons r1 r2=>obtain⟨as,h1⟩:=Is.reads ok a r1;obtain⟨bs,h2⟩:=IsAll.reads ok b r2;exact⟨_,.cons h1 h2⟩
end
mutual
theorem Is.nodict:∀{x:V}{d:PyData},Is H x d->d.hasDict=false
|_,_,.non=>by simp only[PyData.hasDict]
|_,_,.bl b=>by simp only[PyData.hasDict]
|_,_,.int i=>by simp only[PyData.hasDict]
|_,_,.str z=>by simp only[PyData.hasDict]
|_,_,.lst e q=>by simp only[PyData.hasDict];exact IsAll.nodict q
|_,_,.tup e q=>by simp only[PyData.hasDict];exact IsAll.nodict q
theorem IsAll.nodict:∀{xs:List V}{ds:List PyData},IsAll H xs ds->PyData.hasDictAll ds=false
|_,_,.nil=>by simp only[PyData.hasDictAll]
|_,_,.cons a b=>by simp only[PyData.hasDictAll,Is.nodict a,IsAll.nodict b,Bool.or_false]
end
mutual
theorem Is.same{H':Hp}(s:Same H H'):∀{x:V}{d:PyData},Is H x d->Is H' x d
|_,_,.non=>.non
|_,_,.bl b=>.bl b
|_,_,.int i=>.int i
|_,_,.str z=>.str z
|_,_,.lst e q=>.lst (s _ _ e) (IsAll.same s q)
|_,_,.tup e q=>.tup (s _ _ e) (IsAll.same s q)
theorem IsAll.same{H':Hp}(s:Same H H'):∀{xs:List V}{ds:List PyData},IsAll H xs ds->IsAll H' xs ds
|_,_,.nil=>.nil
|_,_,.cons a b=>.cons (Is.same s a) (IsAll.same s b)
end
end
section
variable {X:Cx}
noncomputable def Hw:List V->Hp->VK->Prop:=λxs H Q=>∃a d,xs=[.ref a]/\Is H (.ref a) d/\d.showable=true/\d.depth<=64/\d.shown.length<=sizeLine/\Q (.str d.shown) H
theorem N6{k:Nat}(hr:Room k X.A):Jh X (.builtin "repr") Hw:=by intro pins s σ H xs us Q I r h;obtain⟨a,d,rfl,hd,hs,hdp,hz,q⟩:=h;obtain⟨u,rfl,rx⟩:=vals1 r;obtain⟨as,rd⟩:=hd.reads I.hok rx;cases rx;exact repr_of_reads' rd hs (PyData.noDict_hsm hd.nodict) hr.gd (by have:=hr.un;omega) (λ_ _ e=>e) (λh' u tk hk=>⟨.str d.shown,H,I.kept hk,⟨u,rfl⟩,q⟩) hz
end
theorem Zg.new'{b l:Addr}{H H1:Hp}{o:HO}(x:Zg b H H1)(hl:H1 l=none):Zg b H (L2.upd H1 l o):=λc u h hc=>by rw[Zh (Zk (x c u h hc) hl)];exact x c u h hc
theorem Zg.put{b:Addr}{H H1:Hp}{o:HO}(x:Zg b H H1):Zg b H (L2.upd H1 b o):=λc u h hc=>by rw[Zh hc];exact x c u h hc
theorem at_of{α:Type}{xs:List α}{r:Int}(h0:0<=r)(h1:r<(xs.length:Int)):∃v,atI xs r=some v/\v∈xs:=by
 have e1:((r.toNat:Nat):Int)=r:=Int.toNat_of_nonneg h0;have hr':r.toNat<xs.length:=by omega
 refine⟨xs[r.toNat],?_,aG hr'⟩;have h:=Zr (xs:=xs) (gE hr');rwa [e1]at h
end L2
namespace WD
open PySem L2 PySem.Spec PyProof.Rows TB
noncomputable def Blts:List Str:=["len","range","int","list","tuple","zip","sum","repr","max","isinstance","bool","str","enumerate"]
theorem bm{mg:Str->Option Value}(B:∀x∈Blts,mg x=none){x:Str}(h:x∈Blts:=by decide +kernel):mg x=none:=B x h
noncomputable def boxV(x y z:Int):HO:=.lst [.int x,.int y,.int z]
def Zz(H:Hp)(b:Addr):Prop:=∃x y z:Int,H b=some (boxV x y z)
theorem Zz.new{H:Hp}{b l:Addr}{o:HO}(h:Zz H b)(hl:H l=none):Zz (upd H l o) b:=by obtain⟨x,y,z,e⟩:=h;exact⟨x,y,z,by rw[Zh (Zk e hl)];exact e⟩
theorem Zz.ne{H:Hp}{b l:Addr}(h:Zz H b)(hl:H l=none):l≠b:=by obtain⟨x,y,z,e⟩:=h;exact(Zk e hl).symm
theorem Zz.same{H H':Hp}{b:Addr}(h:Zz H b)(s:Same H H'):Zz H' b:=by obtain⟨x,y,z,e⟩:=h;exact⟨x,y,z,s _ _ e⟩
theorem al{b c:Addr}{H:Hp}{o:HO}{G:Hp->Prop}(B:Zz H b)(h:H c=none)(k:∀H',Zz H' b->Zg b H H'->H' c=some o->c≠b->G H'):G (upd H c o):=k _ (B.new h) ((Zg.refl b H).new' h) Zd (B.ne h)
theorem al2{b c:Addr}{H:Hp}{o:HO}{R:Type}{q:R}{G:Hp->R->Prop}(B:Zz H b)(h:H c=none)(k:∀H',Zz H' b->Zg b H H'->H' c=some o->c≠b->G H' q):G (upd H c o) q:=al (G:=λH=>G H q) B h k
def Ew:Sp:=λvs H Q _=>∃c:Int,vs=[.int c]/\∀l H',H l=none->Zz H' l->Same H H'->Q (.ref l) H'
def Xy:Sp:=λvs H Q _=>∃(b:Addr)(n:Int),vs=[.ref b,.int n]/\Zz H b/\0<n/\n.natAbs.log2<9000/\∀(r:Int)H',0<=r->r<n->Zz H' b->Zg b H H'->Q (.int r) H'
def P5:Sp:=λvs H Q _=>∃(b:Addr),vs=[.ref b]/\Zz H b/\∀(r:Int)H',0<=r->r<=1000->Zz H' b->Zg b H H'->Q (.int r) H'
theorem Pq(a m:Int)(h:0<m)(hm:m<2 ^ 64):-(2 ^ 64)<a % m/\a % m<2 ^ 64:=by have h1:=Int.emod_nonneg a (by omega:m≠0);have h2:=Int.emod_lt_of_pos a h;omega
theorem Yg{n:Int}(h:0<=n)(h2:n<=1000):n.natAbs.log2<9000:=Nat.lt_of_le_of_lt (Nat.log2_le_self _) (by omega)
theorem tkC{b:Addr}{i:Nat}{n:Int}{σ:L2.St}{H:Hp}{Q:VK}{E:XK}(hb:Zz H b)(k:∀(r:Int)H',0<=r->r<n->Zz H' b->Zg b H H'->Q (.int r) H')(h0:0<n:=by decide)(hl:n.natAbs.log2<9000:=by exact Yg (by decide) (by decide))(hv:σ[i]?=some (some (.ref b)):=by rfl):Pn Xy [] E (J8 (tVar i) (J8 (tC (.int n)) tNil)) σ H Q:=⟨_,hv,b,n,rfl,hb,h0,hl,k⟩
theorem YS{p:Bool}{A B:Prop}(h1:p=true->A)(h2:p=false->B):if p=true then A else B:=by
 cases p
 ·exact h2 rfl
 ·exact h1 rfl
section
variable {P:Program}{w:World}{K:aa}{mg:Str->Option Value}{base:Heap}
theorem RR:FnScope ["_law_cell_here"] ["_law_cell_here"] (Zb T.f__law_box):=scO
theorem Ei(B:∀x∈Blts,mg x=none)(D:Df K mg "_law_box" T.f__law_box ["_law_cell_here"]):Can P w K mg base 1 "_law_box" ["_law_cell_here"] Ew:=by refine D.cn RR λf cdv A outer s H vs Q E hr h=>?_;obtain⟨c,rfl,k⟩:=h;refine⟨_,(Zi (Zo (ZA (Za (ZG (Kk rfl) rfl (bm B) PyProof.Rows.boot_max (Za Zc (Za (Zv Jv (pv 0) (Zv Fc Zc Zc)) Zf))) (Za (Zv Jw (pv 0) Zc) (Za Zc Zf)))))),?_⟩;refine⟨_,rfl,_,_,rfl,rfl,⟨by decide,by decide,by decide⟩,_,_,rfl,rfl,_,_,rfl,_,rfl,_,_,rfl,rfl,(by show(0:Int)<2147483647;decide),(zl),λp hp=>?_⟩;exact k p _ hp ⟨_,_,_,Zd⟩ (sameNew (Same.refl _) hp)
theorem Jj:FnScope [q_b,"_law_many","_law_digit","_law_number"] [q_b,"_law_many"] (Zb T.f__law_take):=scO
theorem L3(D:Df K mg "_law_take" T.f__law_take [q_b,"_law_many"]):Can P w K mg base 1 "_law_take" [q_b,"_law_many"] Xy:=by
 refine D.cn Jj λf cdv A outer s H vs Q E hr h=>?_;obtain⟨b,n,rfl,⟨x,y,z,hb⟩,hn,hlog,k0⟩:=h;have k:∀r x' y' z':Int,0<=r->r<n->Q (.int r) (upd H b (boxV x' y' z')):=λr x' y' z' h0 h1=>k0 r _ h0 h1 ⟨_,_,_,Zd⟩ (Zg.refl b H).put;refine⟨_,(Ze (ZO (Zw Ll (il K (pv 0) Zc) Zc (ZC _)) (Ze (st 2 Jj.nd (Zv Jw (il K (pv 0) Zc) (pv 1))) (Ze (Jt (Zv Lm (il K (pv 0) Zc) (pv 1)) (Ld (pv 0) Zc set_list)) (Zi (Zo (pv 2))))) Zy) (Ze (Jt (Zv ZT (il K (pv 0) Zc) Zc) (Ld (pv 0) Zc set_list)) (Ze (st 3 Jj.nd (Zv Jw (Zv ZT (Zv ZT (Zv Me (il K (pv 0) Zc) Zc) (Zv Me Zc (il K (pv 0) Zc))) Zc) Zc)) (Ze (st 3 Jj.nd (Zv Jw (Zv Me (Zv Jw (Zv Me (pv 3) (pv 3)) Zc) Zc) Zc)) (Zi (Zo (Zv Jw (Zv DP (Zv Jw (Zv Me (pv 3) (pv 3)) Zc) Zc) (pv 1)))))))),?_⟩;have a0:atI [V.int x,V.int y,V.int z] 0=some (.int x):=Zr (j:=0) rfl;refine iaL hb a0 ⟨_,_,rfl,rfl,_,rfl,?_⟩;refine ite2 (λe=>?_) (λe=>?_)
 ·refine iaL hb a0 ⟨_,rfl,_,_,rfl,rfl,hn,?_⟩;refine iaL hb a0 ⟨_,rfl,_,_,rfl,rfl,⟨hn,hlog⟩,?_⟩;refine⟨_,rfl,b,_,0,0,rfl,rfl,hb,rfl,_,rfl,?_⟩;exact k _ _ _ _ (Int.emod_nonneg _ (by omega)) (Int.emod_lt_of_pos _ hn)
 ·have a2:atI [V.int x,V.int y,V.int z] 2=some (.int z):=Zr (j:=2) rfl;refine iaL hb a2 ⟨_,_,rfl,rfl,?_⟩;refine⟨_,rfl,b,_,2,2,rfl,rfl,hb,rfl,?_⟩;have hb2:upd H b (.lst ([V.int x,V.int y,V.int z].set 2 (.int (z+1)))) b=some (boxV x y (z+1)):=Zd;have b1:atI [V.int x,V.int y,V.int (z+1)] 1=some (.int y):=Zr (j:=1) rfl;have b2:atI [V.int x,V.int y,V.int (z+1)] 2=some (.int (z+1)):=Zr (j:=2) rfl;refine iaL hb2 b1 ⟨_,_,rfl,rfl,.inr ⟨by decide,by decide⟩,iaL hb2 b2 ⟨_,_,rfl,rfl,.inl ⟨by decide,by decide⟩,_,_,rfl,rfl,_,_,rfl,rfl,_,_,rfl,rfl,(by show(0:Int)<2147483629;decide),?_⟩⟩;refine⟨_,rfl,_,rfl,_,_,rfl,rfl,.inl (Pq _ _ (by decide) (by decide)),_,_,rfl,rfl,(by show(0:Int)<2147483587;decide),_,_,rfl,rfl,.inr ⟨by decide,by decide⟩,_,_,rfl,rfl,(by show(0:Int)<2147483647;decide),?_⟩;refine⟨_,rfl,_,rfl,_,_,rfl,rfl,.inl (Pq _ _ (by decide) (by decide)),_,_,rfl,rfl,(by show(0:Int)<2147483629;decide),_,_,rfl,rfl,⟨by decide,by decide⟩,_,rfl,_,_,rfl,rfl,hn,?_⟩;exact k _ _ _ _ (Int.emod_nonneg _ (by omega)) (Int.emod_lt_of_pos _ hn)
theorem MJ:FnScope [q_b,"_law_way_here"] [q_b] (Zb T.f__law_size):=scO
theorem L4(CT:Can P w K mg base 1 "_law_take" [q_b,"_law_many"] Xy)(D:Df K mg "_law_size" T.f__law_size [q_b]):Can P w K mg base 2 "_law_size" [q_b] P5:=by
 refine D.cn MJ λf cdv A outer s H vs Q E hr h=>?_;obtain⟨b,rfl,hb,k⟩:=h;refine⟨_,(Ze (st 1 MJ.nd (cn CT hr (Za (pv 0) (Za Zc Zf)))) (Ze (ZO (Zw YR (pv 1) Zc (ZC _)) (Zi (Zo (il K (ZA (Za Zc (Za Zc (Za Zc Zf)))) (cn CT hr (Za (pv 0) (Za Zc Zf)))))) Zy) (Zi (Zo (cn CT hr (Za (pv 0) (Za Zc Zf))))))),?_⟩;refine tkC hb (λr H1 h0 h1 B1 S1=>?_);refine⟨_,rfl,rfl,_,rfl,?_⟩;refine ite2 (λe=>?_) (λe=>?_)
 ·refine⟨zl,λl hl=>?_⟩;have nlb:=B1.ne hl;refine tkC (B1.new hl) (λr2 H2 h02 h12 B2 S2=>?_);obtain⟨v,hv,hm⟩:=at_of (xs:=[V.int 0,.int 1000,.int 999]) h02 h12;refine⟨l,_,r2,v,rfl,rfl,SqL.of (S2 _ _ Zd nlb),hv,?_⟩;have S:Zg b H H2:=(S1.new' hl).trans S2;simp only[aA,aJ,or_false]at hm;rcases hm with rfl|rfl|rfl
  ·exact k 0 H2 (by decide) (by decide) B2 S
  ·exact k 1000 H2 (by decide) (by decide) B2 S
  ·exact k 999 H2 (by decide) (by decide) B2 S
 ·refine tkC B1 (λr2 H2 h02 h12 B2 S2=>?_);exact k r2 H2 h02 (by omega) B2 (S1.trans S2)
end
noncomputable abbrev codes:=K1.codes
noncomputable abbrev LET:=K1.LET
theorem PN{a b:Str}(h:codes a=codes b):a=b:=by
 obtain⟨x⟩:=a;obtain⟨y⟩:=b;have:x=y:=by simpa[K1.codes]using h
 rw[this]
theorem Y5(a b:Str):codes (a++b)=codes a++codes b:=by show(a.cps++b.cps).toList=_;simp[K1.codes]
theorem W2(c:Nat):codes ⟨#[c]⟩=[c]:=rfl
theorem Uy{α:Type}(xs:List α)(a:Nat):∀k,a+k<=xs.length->((aY k).map λi=>a+i).filterMap (λi=>xs[i]?)=(xs.drop a).take k
|0,_=>by simp
|k+1,h=>by
  rw[dS,aE,List.filterMap_append,Uy xs a k (by omega)];have hk:a+k<xs.length:=by omega
  rw[aV];congr 1;simp[hk]
theorem LI(n:Nat)(j:Int)(h:0<=j):c9 none (some j) 1 n=(aY (min j.toNat n)).map λi=>0+i:=by
 unfold c9 sliceRange;obtain⟨m,rfl⟩:=Int.eq_ofNat_of_zero_le h;simp only[show(1:Int)>0 by decide,if_true,show ¬(m:Int)<0 by omega,if_false];rw[show max 0 (min (m:Int) n)=((min m n:Nat):Int) by omega,Int.toNat_natCast];generalize min m n=t;have e:(if(0:Int)<t then((t:Int)-0+1-1) / 1 else 0).toNat=t:=by rw[Int.ediv_one];split<;>omega
 rw[e];apply gk;intro k _;omega
theorem LJ(n:Nat)(j:Int)(h:0<=j)(h2:j<=n):c9 (some j) none 1 n=(aY (n-j.toNat)).map λi=>j.toNat+i:=by
 unfold c9 sliceRange;obtain⟨m,rfl⟩:=Int.eq_ofNat_of_zero_le h;simp only[show(1:Int)>0 by decide,if_true,show ¬(m:Int)<0 by omega,if_false];rw[show max 0 (min (m:Int) n)=m by omega,Int.toNat_natCast];have e:(if(m:Int)<(n:Int)then((n:Int)-m+1-1) / 1 else 0).toNat=n-m:=by rw[Int.ediv_one];split<;>omega
 rw[e];apply gk;intro k _;omega
theorem Q5(x:Str)(l:List Nat):(l.filterMap (x.cps[·]?))=l.filterMap (λi=>(codes x)[i]?):=by congr 1;funext i;simp[K1.codes]
theorem ZU(x:Str):(codes x).length=x.length:=K1.clen x
theorem UG(x:Str)(j:Int)(h:0<=j):codes (Txt.slice x none (some j))=(codes x).take j.toNat:=by
 unfold Txt.slice;rw[LI _ _ h];split
 ·rename_i hq;have:min j.toNat x.length=x.length:=by simpa using hq
  rw[aO (by rw[ZU];omega)]
 ·show(List.filterMap _ _)=_;rw[Q5,Uy _ 0 _ (by rw[ZU];omega),fU];rcases Nat.le_total j.toNat x.length with hh|hh
  ·rw[Nat.min_eq_left hh]
  ·rw[Nat.min_eq_right hh,aO (by rw[ZU];exact Nat.le_refl _),aO (by rw[ZU];omega)]
theorem So(x:Str)(j:Int)(h:0<=j)(h2:j<=x.length):codes (Txt.slice x (some j) none)=(codes x).drop j.toNat:=by
 unfold Txt.slice;rw[LJ _ _ h h2];split
 ·rename_i hq;have:x.length-j.toNat=x.length:=by simpa using hq
  have hl:=ZU x;rcases Nat.eq_zero_or_pos x.length with e|e
  ·have:codes x=[]:=g9 (by omega);rw[this];simp
  ·have:j.toNat=0:=by omega
   rw[this,fU]
 ·show(List.filterMap _ _)=_;rw[Q5,Uy _ j.toNat _ (by rw[ZU];omega),aO (by rw[gR,ZU];omega)]
theorem NZ:∀(ts:List Str),codes (Txt.join Str.empty ts)=(ts.map codes).flatten
|[]=>rfl
|[t]=>by show codes (Txt.join Str.empty [t])=_;unfold Txt.join;rw[gm];show codes t=_;simp
|t::u::r=>by have ih:=NZ (u::r);unfold Txt.join at ih ⊢;rw[gm]at ih ⊢;show codes (t++Str.empty++Str.join Str.empty (u::r))=_;rw[Y5,Y5,ih];simp[K1.codes,Str.empty]
def Nm(t:Str):Prop:=1<=(codes t).length/\(codes t).length<=8/\∀c∈codes t,c∈LET
def Bs(n:Nat)(t:Str):Prop:=(codes t).length=n/\∀c∈codes t,c∈LET
theorem Bs.join{ts:List Str}(h:∀t∈ts,Bs 1 t):Bs ts.length (Txt.join Str.empty ts):=by
 unfold Bs;rw[NZ];induction ts with
|nil=>simp
|cons t r ih=>
  obtain⟨a,b⟩:=h t aB;obtain⟨a',b'⟩:=ih λu hu=>h u (av _ hu);refine⟨by simp only[aL,List.flatten_cons,ay,aN];omega,λc hc=>?_⟩;rw[aL,List.flatten_cons]at hc;rcases aP.mp hc with hc|hc
  ·exact b c hc
  ·exact b' c hc
noncomputable def wds:List Str:=["home","ride","turns","place","way","group","out","wait"]
noncomputable def wdsFrom(a n:Nat):List Str:=(aY n).map λk=>wds.getD ((a+k) % 8) ""
theorem EO:∀a<8,∀n<9,(wdsFrom a n).Nodup:=by decide +kernel
theorem EN:∀t∈wds,1<=(codes t).length/\(codes t).length<=8/\∀c∈codes t,c∈LET:=by decide +kernel
theorem RA(a n:Nat):∀t∈wdsFrom a n,Nm t:=λt ht=>by obtain⟨k,_,rfl⟩:=aq.mp ht;have:(a+k) % 8<wds.length:=Nat.mod_lt _ (by decide);rw[bj,gE this];exact EN _ (aG this)
noncomputable def begs(base:Str)(sz n:Nat):List Str:=(aY n).map λk=>Txt.slice base none (some ((1+(k+sz) % 8:Nat):Int))
theorem Ek{base:Str}(hb:Bs 8 base)(sz n:Nat):∀t∈begs base sz n,Nm t:=λt ht=>by obtain⟨k,_,rfl⟩:=aq.mp ht;unfold Nm;rw[UG _ _ (by omega)];refine⟨by rw[aw,hb.1];omega,by rw[aw,hb.1];omega,λc hc=>hb.2 c (dm hc)⟩
theorem nodup_map_on{α β:Type}{f:α->β}:∀{l:List α},l.Nodup->(∀a∈l,∀b∈l,f a=f b->a=b)->(l.map f).Nodup
|[],_,_=>fT
|a::l,h,i=>by rw[aL,cu];rw[cu]at h;refine⟨λhm=>?_,nodup_map_on h.2 λx hx y hy e=>i x (av _ hx) y (av _ hy) e⟩;obtain⟨b,hb,e⟩:=aq.mp hm;exact h.1 (i b (av _ hb) a aB e▸hb)
theorem El{base:Str}(hb:Bs 8 base)(sz:Nat){n:Nat}(hn:n<=8):(begs base sz n).Nodup:=by refine nodup_map_on List.nodup_range λa ha b hb' e=>?_;rw[b_]at ha hb';have e1:=congrArg (λt=>(codes t).length) e;simp only[UG _ _ (Int.natCast_nonneg _),aw,hb.1,Int.toNat_natCast]at e1;omega
noncomputable def put(base:Str)(at_:Nat)(c:Nat):Str:=Txt.slice base none (some (at_:Int))++⟨#[c]⟩++Txt.slice base (some (at_:Int)) none
theorem MD{base:Str}{a:Nat}(h:a<=base.length)(c:Nat):codes (put base a c)=(codes base).take a++[c]++(codes base).drop a:=by unfold put;rw[Y5,Y5,UG _ _ (by omega),So _ _ (by omega) (by omega),W2];simp
noncomputable def sgn(f k:Nat):Nat:=LET.getD ((f+5*k) % 26) 0
theorem Dy(f k:Nat):sgn f k∈LET:=by have:(f+5*k) % 26<LET.length:=Nat.mod_lt _ (by decide);unfold sgn;rw[bj,gE this];exact aG this
theorem EW:∀f<26,∀n<14,((aY n).map (sgn f)).Nodup:=by decide +kernel
noncomputable def puts(base:Str)(a f n:Nat):List Str:=(aY n).map λk=>put base a (sgn f k)
theorem DK{base:Str}{sz:Nat}(hb:Bs sz base)(hs:sz<=7){a:Nat}(ha:a<=sz)(f n:Nat):∀t∈puts base a f n,Nm t:=λt ht=>by
 obtain⟨k,_,rfl⟩:=aq.mp ht;have hl:base.length=sz:=by rw[<-ZU];exact hb.1
 unfold Nm;rw[MD (by omega)];refine⟨by simp;omega,by simp[hb.1];omega,λc hc=>?_⟩;simp only[aP,aQ]at hc;rcases hc with(hc|hc)|hc
 ·exact hb.2 c (dm hc)
 ·rw[hc];exact Dy f k
 ·exact hb.2 c (List.mem_of_mem_drop hc)
theorem DL{base:Str}{sz:Nat}(hb:Bs sz base){a:Nat}(ha:a<=sz){f n:Nat}(hf:f<26)(hn:n<14):(puts base a f n).Nodup:=by
 have hl:base.length=sz:=by rw[<-ZU];exact hb.1
 refine nodup_map_on List.nodup_range λx hx y hy e=>?_;have e1:=congrArg codes e;rw[MD (by omega),MD (by omega)]at e1;have e2:sgn f x=sgn f y:=by rw[bG,bG]at e1;have:=List.append_cancel_left e1;simpa using this
 have nd:=EW f hf n hn;rw[b_]at hx hy;have h1:((aY n).map (sgn f))[x]'(by simpa using hx)=((aY n).map (sgn f))[y]'(by simpa using hy):=by simpa using e2
 exact(fz nd).mp h1
end WD
namespace L2
open PySem PySem.Spec PyProof.Rows
section
variable {X:Cx}
theorem YD{i:Nat}{x:Str}{pos' pos2:Pos}{elt iter tg:Expr}{ifs:List Expr}{scope:Scope}{pos:Pos}{N:List Str}{cp:List (Option Nat)}{wi:TI}{g:TG}{tc:TT}{te:TE}(hNd:X.N.Nodup)(hix:X.N[i]?=some x)(hlx:Loc X.env.scope x)(hc:X.calm=true){sc:Scope}{N0:List Str}(hS0:CompScope scope sc)(hN0:CompNames N0 scope N cp)
  (hi:PI X tg iter wi) (hg:∀C s H ex pn,PG (XU X scope N C s H ex pn) tg g) (ht:∀C s H ex pn,PTs (XU X scope N C s H ex pn) ifs tc) (he:∀C s H ex pn,PE (XU X scope N C s H ex pn) elt te)
  (hsw:eZ (.ListComp elt [⟨tg,iter,ifs,0⟩] scope pos) (some (.Name x pos')) pos2.line X.env=pure true:=by with_unfolding_all rfl) (hff:X.fn x=true\/X.env.scope.names.lookup x=some .local:=by first|exact .inl rfl|exact .inr rfl|assumption)
  (hsc:X.env.scope=sc:=by rfl) (hxn:X.N=N0:=by rfl) (hs:∀x,fF iter X.env x=pure x:=by intro _;rfl):PS X (.Assign [.Name x pos'] (.ListComp elt [⟨tg,iter,ifs,0⟩] scope pos) pos2) (tAsg (KD cp wi g tc te) (XQ i)):=by
 subst hsc hxn
 intro pins s σ H D I h
 rw[exec_Assign_Name_used _ _ _ _ hsw]
 refine ae (d5 (ae ?_))
 show wpAny _ _ (do let _ <-comprehension (.ListComp elt [⟨tg,iter,ifs,0⟩] scope pos) scope X.env _ (newList []) false (eval iter X.env) (some (assign (.Name x pos') X.env))) _ _ s
 refine ae (c5 (PM (R:=λ_ s'=>SP X pins D .next s') (use:=some (assign (.Name x pos') X.env)) hc hS0 hN0 hi hg ht he hs I h λD' C H5 s4 m I5 hn h1 h2 h3 h4 h5 q=>?_) (λ_ s' hq=>ao (ao hq)) λ_ _ e=>e)
 refine wpAny_assign_Name (Po I5 hNd hix hlx (v:=.ref D') rfl (λs' I6 hsb=>?_) hff)
 obtain⟨a,hsb,ha⟩:=hsb
 have haC:C≠a:=by
  rcases ha with rfl|ha
  ·exact h1
  ·exact(h2 _ _ ha).symm
 exact⟨m,hn.sameBut hsb haC,λh'' hs''=>⟨_,_,I6.turned (t':=s'.toks) (it:=C) (λb o hb e=>(hs''.2 b hb).trans e) h3 h1 (.inr h4) h2 h5,q⟩⟩
end
end L2
namespace WD
open PySem L2 PySem.Spec PyProof.Rows TB
def P7:Sp:=λvs H Q _=>∃(b:Addr)(n:Int),vs=[.ref b,.int n]/\Zz H b/\1<=n/\n<=13/\∀H' l(ts:List Str),Zz H' b->Zg b H H'->H' l=some (.lst (ts.map V.str))->l≠b->(ts.length:Int)=n->ts.Nodup->(∀t∈ts,Nm t)->Q (.ref l) H'
theorem modN{x:Int}{k n:Nat}(h:x=k):x % (n:Int)=((k % n:Nat):Int):=by rw[h];rfl
theorem Wh{p:Bool}{C B A:Prop}(h1:p=true->B->C)(h2:B):if p=true then C else(if false=true then A else B):=by
 cases p
 ·exact h2
 ·exact h1 rfl h2
theorem Dp{r:Int}(h0:0<=r)(h1:r<26):∃c,atI (codes K1.tLET) r=some c/\c∈LET:=by obtain⟨c,h,m⟩:=at_of (xs:=codes K1.tLET) h0 (by rw[show codes K1.tLET=LET from K1.cLET];exact h1);rw[show codes K1.tLET=LET from K1.cLET]at m;exact⟨c,h,m⟩
theorem SQ{α:Type}{xs:List α}{i:Int}{j:Nat}{v:α}(e:i=(j:Int))(h:xs[j]?=some v):atI xs i=some v:=by rw[e];exact Zr h
theorem P0{b:Addr}{H H1:Hp}{i:Nat}{ts:List Str}{c:Nat}(e:ts.length=i)(h:∀t∈ts,Bs 1 t)(hc:c∈LET):(ts++[(⟨#[c]⟩:Str)]).length=i+1/\∀t∈ts++[(⟨#[c]⟩:Str)],Bs 1 t:=by
 refine⟨by simp[e],λt ht=>?_⟩;rcases aP.mp ht with ht|ht
 ·exact h t ht
 ·rw[aQ]at ht;subst ht;exact⟨rfl,λd hd=>by rw[aQ.mp hd];exact hc⟩
theorem RJ:∀(ts:List Str),(∀t∈ts,Bs 1 t)->(ts.map (·.length)).sum=ts.length
|[],_=>rfl
|t::r,h=>by have h1:=(h t aB).1;rw[ZU]at h1;rw[aL,fe,h1,RJ r λu hu=>h u (av _ hu),aN];omega
theorem ER(a i:Nat):(wds.map V.str)[(a+i) % 8]?=some (.str (wds.getD ((a+i) % 8) "")):=by have:(a+i) % 8<wds.length:=Nat.mod_lt _ (by decide);rw[ah,bj,gE this];rfl
theorem EX(f i:Nat):(codes K1.tLET)[(f+5*i) % 26]?=some (sgn f i):=by have:(f+5*i) % 26<LET.length:=Nat.mod_lt _ (by decide);rw[show codes K1.tLET=LET from K1.cLET,sgn,bj,gE this];rfl
section
variable {P:Program}{w:World}{K:aa}{mg:Str->Option Value}{base:Heap}
theorem ZY:FnScope [q_b,"_law_many","_law_letters","_law_way_here","_law_words","_law_at","_law_size_here","_law_base","_law_first","_law_signs"] [q_b,"_law_many"] (Zb T.f__law_names):=scO
noncomputable def VO:Scope:=csx [(".0",.local),("_law_k",.local),("_law_at",.free),("_law_words",.free)]
theorem GP:CompScope VO (Zb T.f__law_names):=⟨rfl,by decide +kernel,by decide +kernel,by decide +kernel⟩
theorem GR:(["_law_k","_law_at","_law_words"]:List Str).Nodup:=by decide +kernel
theorem GQ:CompNames [q_b,"_law_many","_law_letters","_law_way_here","_law_words","_law_at","_law_size_here","_law_base","_law_first","_law_signs"] VO ["_law_k","_law_at","_law_words"] [none,some 5,some 4]:=.mk' (by decide +kernel)
noncomputable def VN:Scope:=csx [(".0",.local),("_law_k",.local),("_law_take",.globalImplicit),(q_b,.free),("_law_letters",.free)]
theorem GL:CompScope VN (Zb T.f__law_names):=⟨rfl,by decide +kernel,by decide +kernel,by decide +kernel⟩
theorem GO:(["_law_k",q_b,"_law_letters"]:List Str).Nodup:=by decide +kernel
theorem GN:CompNames [q_b,"_law_many","_law_letters","_law_way_here","_law_words","_law_at","_law_size_here","_law_base","_law_first","_law_signs"] VN ["_law_k",q_b,"_law_letters"] [none,some 0,some 2]:=.mk' (by decide +kernel)
noncomputable def VM:Scope:=csx [(".0",.local),("_law_k",.local),("_law_base",.free),("_law_size_here",.free)]
theorem GI:CompScope VM (Zb T.f__law_names):=⟨rfl,by decide +kernel,by decide +kernel,by decide +kernel⟩
theorem GK:(["_law_k","_law_base","_law_size_here"]:List Str).Nodup:=by decide +kernel
theorem GJ:CompNames [q_b,"_law_many","_law_letters","_law_way_here","_law_words","_law_at","_law_size_here","_law_base","_law_first","_law_signs"] VM ["_law_k","_law_base","_law_size_here"] [none,some 7,some 6]:=.mk' (by decide +kernel)
noncomputable def VL:Scope:=csx [(".0",.local),("_law_k",.local),("_law_take",.globalImplicit),(q_b,.free),("_law_letters",.free)]
theorem GF:CompScope VL (Zb T.f__law_names):=⟨rfl,by decide +kernel,by decide +kernel,by decide +kernel⟩
theorem GH:(["_law_k",q_b,"_law_letters"]:List Str).Nodup:=by decide +kernel
theorem GG:CompNames [q_b,"_law_many","_law_letters","_law_way_here","_law_words","_law_at","_law_size_here","_law_base","_law_first","_law_signs"] VL ["_law_k",q_b,"_law_letters"] [none,some 0,some 2]:=.mk' (by decide +kernel)
noncomputable def X7:Scope:=csx [(".0",.local),("_law_k",.local),("_law_first",.free),("_law_letters",.free)]
theorem GB:CompScope X7 (Zb T.f__law_names):=⟨rfl,by decide +kernel,by decide +kernel,by decide +kernel⟩
theorem GD:(["_law_k","_law_first","_law_letters"]:List Str).Nodup:=by decide +kernel
theorem GC:CompNames [q_b,"_law_many","_law_letters","_law_way_here","_law_words","_law_at","_law_size_here","_law_base","_law_first","_law_signs"] X7 ["_law_k","_law_first","_law_letters"] [none,some 8,some 2]:=.mk' (by decide +kernel)
noncomputable def VJ:Scope:=csx [(".0",.local),("_law_sign",.local),("_law_at",.free),("_law_base",.free)]
theorem Gy:CompScope VJ (Zb T.f__law_names):=⟨rfl,by decide +kernel,by decide +kernel,by decide +kernel⟩
theorem GA:(["_law_sign","_law_at","_law_base"]:List Str).Nodup:=by decide +kernel
theorem Gz:CompNames [q_b,"_law_many","_law_letters","_law_way_here","_law_words","_law_at","_law_size_here","_law_base","_law_first","_law_signs"] VJ ["_law_sign","_law_at","_law_base"] [none,some 5,some 7]:=.mk' (by decide +kernel)
theorem Kd(B:∀x∈Blts,mg x=none)(CT:Can P w K mg base 1 "_law_take" [q_b,"_law_many"] Xy)(D:Df K mg "_law_names" T.f__law_names [q_b,"_law_many"]):Can P w K mg base 2 "_law_names" [q_b,"_law_many"] P7:=by
 refine D.cn ZY λf cdv A outer s H vs Q E hr h=>?_;obtain⟨b,n,rfl,hb,hn1,hn2,k⟩:=h;have hsz:n.toNat<=sizeLine:=Nat.le_trans (by omega:n.toNat<=1000) (by decide);refine⟨_,(Ze (Z9 (i:=2) ZY.nd rfl (cQ rfl) Zu) (Ze (st 3 ZY.nd (cn CT hr (Za (pv 0) (Za Zc Zf)))) (Ze (ZO (PW.pt (K9 (Zw YR (pv 3) Zc (ZC _)) (TF (Zw EB (pv 1) Zc (ZC _))))) (Ze (Z9 (i:=4) ZY.nd rfl (cQ rfl) (ZA (Za Zu (Za Zu (Za Zu (Za Zu (Za Zu (Za Zu (Za Zu (Za Zu Zf)))))))))) (Ze (Z9 (i:=5) ZY.nd rfl (cQ rfl) (cn CT hr (Za (pv 0) (Za Zc Zf)))) (Zi (Zo (Z7 rfl GP GQ (Yn rfl (bm B) (Za (pv 1) Zf)) (λC s H ex pn=>(nmT 0 GR)) (λC s H ex pn=>ZV) (λC s H ex pn=>(il K (pv 2) (Zv Jw (Zv ZT (pv 1) (pv 0)) Zc)))))))) Zy) (Ze (Z9 (i:=6) ZY.nd rfl (cQ rfl) (cn CT hr (Za (pv 0) (Za Zc Zf)))) (Ze (ZO (PW.pt (K9 (Zw YR (pv 3) Zc (ZC _)) (TF (Zw EB (pv 1) Zc (ZC _))))) (Ze (Z9 (i:=7) ZY.nd rfl (cQ rfl) (ND PySem.F.plainAttrs_str PySem.F.slot_str_join PySem.F.type_str_join TR Zu (Za (Z7 rfl GL GN (Yn rfl (bm B) (Za Zc Zf)) (λC s H ex pn=>(nmT 0 GO)) (λC s H ex pn=>ZV) (λC s H ex pn=>(Yj NS (pv 2) (cn CT hr (Za (pv 1) (Za Zc Zf))) (λ_ _=>rfl)))) Zf))) (Zi (Zo (Z7 rfl GI GJ (Yn rfl (bm B) (Za (pv 1) Zf)) (λC s H ex pn=>(nmT 0 GK)) (λC s H ex pn=>ZV) (λC s H ex pn=>(YQ RP (pv 1) Xs (Xr (Zv ZT Zc (Zv Jw (Zv ZT (pv 0) (pv 2)) Zc))))))))) Zy) (Ze (Z9 (i:=5) ZY.nd rfl (cQ rfl) (cn CT hr (Za (pv 0) (Za (Zv ZT (pv 6) Zc) Zf)))) (Ze (Z9 (i:=7) ZY.nd rfl (cQ rfl) (ND PySem.F.plainAttrs_str PySem.F.slot_str_join PySem.F.type_str_join TR Zu (Za (Z7 rfl GF GG (Yn rfl (bm B) (Za (pv 6) Zf)) (λC s H ex pn=>(nmT 0 GH)) (λC s H ex pn=>ZV) (λC s H ex pn=>(Yj NS (pv 2) (cn CT hr (Za (pv 1) (Za Zc Zf))) (λ_ _=>rfl)))) Zf))) (Ze (Z9 (i:=8) ZY.nd rfl (cQ rfl) (cn CT hr (Za (pv 0) (Za Zc Zf)))) (Ze (YD (i:=9) ZY.nd rfl (bw rfl) (scope:=X7) (N:=["_law_k","_law_first","_law_letters"]) (cp:=[none,some 8,some 2]) rfl GB GC (Yn rfl (bm B) (Za (pv 1) Zf)) (λC s H ex pn=>(nmT 0 GD)) (λC s H ex pn=>ZV) (λC s H ex pn=>(Yj NS (pv 2) (Zv Jw (Zv ZT (pv 1) (Zv Me Zc (pv 0))) Zc) (λ_ _=>rfl)))) (Zi (Zo (Z7 rfl Gy Gz (Z3 (pv 9)) (λC s H ex pn=>(nmT 0 GA)) (λC s H ex pn=>ZV) (λC s H ex pn=>(Zv JZ (Zv JZ (YQ RP (pv 2) Xs (Xr (pv 1))) (pv 0)) (YQ RP (pv 2) (Xr (pv 1)) Xs))))))))))))))),?_⟩;refine tkC hb (λr H1 h0 h1 B1 S1=>?_);dsimp only[XQ];refine tqr λD1 hk1 hr1=>?_;refine⟨_,rfl,rfl,_,rfl,?_⟩;refine Wh (λe rest=>⟨_,rfl,_,_,rfl,rfl,_,rfl,ite2 (λe2=>?_) (λe2=>rest)⟩) ?_
 ·have hn9:n<9:=of_decide_eq_true e2;refine⟨zl,λl hl=>?_⟩;have nlb:=B1.ne hl;refine tkC (B1.new hl) (λr2 H2 h02 h12 B2 S2=>?_);have hw:H2 l=some (.lst (wds.map V.str)):=S2 _ _ Zd nlb;refine⟨_,rfl,n,rfl,by omega,by omega,ZI (J:=Itr 0 n.toNat) n.toNat hsz
   (λi ys τ H'=>H'=H2/\ys=(wdsFrom r2.toNat i).map V.str/\∃v,τ=[v,some (.int r2),some (.ref l)]) ⟨rfl,rfl,none,rfl⟩ (λi ys τ H' p=>?_) (λi ys τ H' hi p=>hi) (λys τ H' p=>Nat.le_refl _) (λi ys τ H' x' H3 hi p yl=>?_) (λys τ H' p q hq=>?_)⟩
  ·obtain⟨_,rfl,_⟩:=p;simp[wdsFrom]
  ·obtain⟨rfl,rfl,v,rfl⟩:=p;obtain⟨rfl,rfl⟩:=yl;refine⟨_,rfl,_,rfl,_,rfl,_,_,rfl,rfl,_,_,rfl,rfl,(by show(0:Int)<8;decide),l,_,_,_,rfl,rfl,SqL.of hw,SQ (j:=(r2.toNat+i) % 8) (modN (n:=8) (by omega)) (ER _ _),rfl,?_,_,rfl⟩;simp[wdsFrom,dS]
  ·obtain⟨rfl,rfl,v,rfl⟩:=p;exact hr1 _ _ (k _ q _ (B2.new hq) (((S1.new' hl).trans S2).new' hq) Zd (B2.ne hq) (by simp[wdsFrom];omega) (EO _ (by omega) _ (by omega)) (RA _ _))
 ·refine hk1 _ _ ?_;refine tkC B1 (λsz H2 h02 h12 B2 S2=>?_);have S02:=S1.trans S2;dsimp only[XQ];refine tqr λD2 hk2 hr2=>?_;refine⟨_,rfl,rfl,_,rfl,?_⟩;refine Wh (λe rest=>⟨_,rfl,_,_,rfl,rfl,_,rfl,ite2 (λe2=>?_) (λe2=>rest)⟩) ?_
  ·have hn9:n<9:=of_decide_eq_true e2;refine⟨rfl,8,rfl,by decide,by decide,ZI (J:=Itr 0 8) 8 (by decide)
    (λi ys τ H'=>Zz H' b/\Zg b H H'/\(∃ts:List Str,ys=ts.map V.str/\ts.length=i/\∀t∈ts,Bs 1 t)/\∃v,τ=[v,some (.ref b),some (.str K1.tLET)]) ⟨B2,S02,⟨[],rfl,rfl,by simp⟩,none,rfl⟩ (λi ys τ H' p=>?_) (λi ys τ H' hi p=>hi) (λys τ H' p=>Nat.le_refl _) (λi ys τ H' x' H3 hi p yl=>?_) (λys τ H' p q hq=>?_)⟩
   ·obtain⟨_,_,⟨ts,rfl,e,_⟩,_⟩:=p;rw[lm,e];exact Nat.le_refl _
   ·obtain⟨bx,sm,⟨ts,rfl,e,ho⟩,v,rfl⟩:=p;obtain⟨rfl,rfl⟩:=yl;refine⟨_,rfl,tkC bx (λr4 H4 h04 h14 B4 S4=>?_)⟩;obtain⟨c,hat,hc⟩:=Dp h04 h14;obtain⟨g1,g2⟩:=P0 (b:=b) (H:=H) (H1:=H) e ho hc;exact⟨_,r4,c,rfl,rfl,by decide +kernel,hat,B4,sm.trans S4,⟨ts++[⟨#[c]⟩],by rw[aE];rfl,g1,g2⟩,_,rfl⟩
   ·obtain⟨bx,sm,⟨ts,rfl,e,ho⟩,v,rfl⟩:=p;refine⟨_,q,ts,rfl,rfl,SqL.of Zd,by rw[RJ _ ho,e];decide,?_⟩;have hbs:=Bs.join ho;rw[e]at hbs;have hl8:(Txt.join Str.empty ts).length=8:=by rw[<-ZU];exact hbs.1
    refine⟨_,rfl,n,rfl,by omega,by omega,ZI (J:=Itr 0 n.toNat) n.toNat hsz
     (λi ys τ H3=>H3=upd H' q (.lst (ts.map V.str))/\ys=(begs (Txt.join Str.empty ts) sz.toNat i).map V.str/\∃v,τ=[v,some (.str (Txt.join Str.empty ts)),some (.int sz)]) ⟨rfl,rfl,none,rfl⟩ (λi ys τ H' p=>?_) (λi ys τ H' hi p=>hi) (λys τ H' p=>Nat.le_refl _) (λi ys τ H' x' H3 hi p yl=>?_) (λys τ H' p q2 hq2=>?_)⟩
    ·obtain⟨_,rfl,_⟩:=p;simp[begs]
    ·obtain⟨rfl,rfl,v,rfl⟩:=p;obtain⟨rfl,rfl⟩:=yl;refine⟨_,rfl,_,rfl,_,rfl,_,_,rfl,rfl,_,_,rfl,rfl,(by show(0:Int)<8;decide),_,_,rfl,rfl,_,rfl,_,rfl,by rw[hl8];decide,rfl,?_,_,rfl⟩;have e5:(1+(0+(i:Int)+sz) % 8)=((1+(i+sz.toNat) % 8:Nat):Int):=congrArg (1+·) (modN (k:=i+sz.toNat) (n:=8) (by omega));rw[e5];simp[begs,dS]
    ·obtain⟨rfl,rfl,v,rfl⟩:=p;exact hr2 _ _ (k _ q2 _ ((bx.new hq).new hq2) ((sm.new' hq).new' hq2) Zd ((bx.new hq).ne hq2) (by simp[begs];omega) (El hbs _ (by omega)) (Ek hbs _ _))
  ·refine hk2 _ _ ?_;refine⟨_,rfl,_,rfl,_,_,rfl,rfl,b,sz+1,rfl,B2,by omega,Yg (by omega) (by omega),λat_ H3 h03 h13 B3 S3=>?_⟩;have S03:=S02.trans S3;refine⟨rfl,_,rfl,sz,rfl,by omega,by omega,ZI (J:=Itr 0 sz.toNat) sz.toNat (Nat.le_trans (by omega:sz.toNat<=8) (by decide))
    (λi ys τ H'=>Zz H' b/\Zg b H H'/\(∃ts:List Str,ys=ts.map V.str/\ts.length=i/\∀t∈ts,Bs 1 t)/\∃v,τ=[v,some (.ref b),some (.str K1.tLET)]) ⟨B3,S03,⟨[],rfl,rfl,by simp⟩,none,rfl⟩ (λi ys τ H' p=>?_) (λi ys τ H' hi p=>hi) (λys τ H' p=>Nat.le_refl _) (λi ys τ H' x' H3 hi p yl=>?_) (λys τ H' p q hq=>?_)⟩
   ·obtain⟨_,_,⟨ts,rfl,e,_⟩,_⟩:=p;rw[lm,e];exact Nat.le_refl _
   ·obtain⟨bx,sm,⟨ts,rfl,e,ho⟩,v,rfl⟩:=p;obtain⟨rfl,rfl⟩:=yl;refine⟨_,rfl,tkC bx (λr4 H4 h04 h14 B4 S4=>?_)⟩;obtain⟨c,hat,hc⟩:=Dp h04 h14;obtain⟨g1,g2⟩:=P0 (b:=b) (H:=H) (H1:=H) e ho hc;exact⟨_,r4,c,rfl,rfl,by decide +kernel,hat,B4,sm.trans S4,⟨ts++[⟨#[c]⟩],by rw[aE];rfl,g1,g2⟩,_,rfl⟩
   ·obtain⟨bx,sm,⟨ts,rfl,e,ho⟩,v,rfl⟩:=p;refine⟨_,q,ts,rfl,rfl,SqL.of Zd,?_,?_⟩
    ·rw[RJ _ ho,e];show sz.toNat+sz.toNat*0<=16777216;omega
    have hbs:=Bs.join ho;rw[e]at hbs;have hl8:(Txt.join Str.empty ts).length=sz.toNat:=by rw[<-ZU];exact hbs.1
    refine tkC (bx.new hq) (λfi H5 h05 h15 B5 S5=>?_);have S05:=(sm.new' hq).trans S5;refine⟨_,rfl,n,rfl,by omega,by omega,ZI (J:=Itr 0 n.toNat) n.toNat hsz
     (λi ys τ H'=>H'=H5/\ys=((aY i).map λk=>V.str ⟨#[sgn fi.toNat k]⟩)/\∃v,τ=[v,some (.int fi),some (.str K1.tLET)]) ⟨rfl,rfl,none,rfl⟩ (λi ys τ H' p=>?_) (λi ys τ H' hi p=>hi) (λys τ H' p=>Nat.le_refl _) (λi ys τ H' x' H3 hi p yl=>?_) (λys τ H' p q2 hq2=>?_)⟩
    ·obtain⟨_,rfl,_⟩:=p;simp
    ·obtain⟨rfl,rfl,v,rfl⟩:=p;obtain⟨rfl,rfl⟩:=yl;refine⟨_,rfl,_,rfl,_,rfl,_,_,rfl,rfl,.inl ⟨by decide,by decide⟩,_,_,rfl,rfl,_,_,rfl,rfl,(by show(0:Int)<26;decide),_,_,_,rfl,rfl,by decide +kernel,SQ (j:=(fi.toNat+5*i) % 26) (modN (n:=26) (by omega)) (EX _ _),rfl,?_,_,rfl⟩;simp[dS]
    ·obtain⟨rfl,rfl,v,rfl⟩:=p;refine⟨_,rfl,q2,rfl,⟨_,SqL.of Zd⟩,?_⟩;generalize eH:upd H' q2 (.lst ((aY n.toNat).map λk=>V.str ⟨#[sgn fi.toNat k]⟩))=H6;have hq6:H6 q2=some (.lst ((aY n.toNat).map λk=>V.str ⟨#[sgn fi.toNat k]⟩)):=by rw[<-eH];exact Zd
     have B6:Zz H6 b:=by rw[<-eH];exact B5.new hq2
     have S06:Zg b H H6:=by rw[<-eH];exact S05.new' hq2
     refine ZI (J:=Itl K q2) n.toNat hsz (λi ys τ H'=>H'=H6/\ys=(puts (Txt.join Str.empty ts) at_.toNat fi.toNat i).map V.str/\∃v,τ=[v,some (.int at_),some (.str (Txt.join Str.empty ts))]) ⟨rfl,rfl,none,rfl⟩ (λi ys τ H' p=>?_) (λi ys τ H' hi p=>?_) (λys τ H' p=>?_) (λi ys τ H' x' H3 hi p yl=>?_) (λys τ H' p q3 hq3=>?_)
     ·obtain⟨_,rfl,_⟩:=p;simp[puts]
     ·obtain⟨rfl,_⟩:=p;exact⟨_,V.str ⟨#[sgn fi.toNat i]⟩,SqL.of hq6,by simp[hi]⟩
     ·obtain⟨rfl,_⟩:=p;exact⟨_,SqL.of hq6,by simp⟩
     ·obtain⟨rfl,rfl,v,rfl⟩:=p;obtain⟨rfl,hy⟩:=yl;have hx:x'=V.str ⟨#[sgn fi.toNat i]⟩:=by have:=hy _ (SqL.of hq6);simp[hi]at this;exact this.symm
      subst hx;have hbl:(Txt.join Str.empty ts).length<=8:=by omega
      have e1:=Txt.slice_le (Txt.join Str.empty ts) none (some at_);have e2:=Txt.slice_le (Txt.join Str.empty ts) (some at_) none;have z:(100:Nat)<=sizeLine:=by decide
      refine⟨_,rfl,_,rfl,_,rfl,_,rfl,by omega,_,rfl,_,_,rfl,rfl,?_,_,rfl,_,rfl,_,rfl,_,rfl,by omega,_,_,rfl,rfl,?_,rfl,?_,_,rfl⟩
      ·show _+1<=_;omega
      ·rw[Str.length_append];show _+1+_<=_;omega
      ·have e5:at_=((at_.toNat:Nat):Int):=by omega
       simp[puts,dS,put,<-e5]
     ·obtain⟨rfl,rfl,v,rfl⟩:=p;exact k _ q3 _ (B6.new hq3) (S06.new' hq3) Zd (B6.ne hq3) (by simp[puts];omega) (DL hbs (by omega) (by omega) (by omega)) (DK hbs (by omega) (by omega) _ _)
noncomputable abbrev Pl:=List (Str×Option Int)
noncomputable def Yx:Option Int->V
|none=>.non
|some i=>.int i
noncomputable def plRow(p:Str×Option Int):List V:=[.str p.1,Yx p.2]
def RowsAt(b:Addr)(H:Hp)(l:Addr)(rows:List (List V)):Prop:=l≠b/\∃as:List Addr,H l=some (.lst (as.map V.ref))/\as.length=rows.length/\∀(i:Nat)a r,as[i]?=some a->rows[i]?=some r->a≠b/\H a=some (.tup r)
theorem RowsAt.same{b:Addr}{H H':Hp}{l:Addr}{rows:List (List V)}(s:Zg b H H')(h:RowsAt b H l rows):RowsAt b H' l rows:=by obtain⟨n,as,e,hl,r⟩:=h;exact⟨n,as,s _ _ e n,hl,λi a q h1 h2=>let ⟨x,y⟩:=r i a q h1 h2;⟨x,s _ _ y x⟩⟩
theorem RowsAt.at{b:Addr}{H:Hp}{l:Addr}{rows:List (List V)}(h:RowsAt b H l rows){i:Nat}{r:List V}(hr:rows[i]?=some r):∃a,a≠b/\H a=some (.tup r)/\∃as:List Addr,H l=some (.lst (as.map V.ref))/\as[i]?=some a/\as.length=rows.length:=by
 obtain⟨n,as,e,hl,q⟩:=h;have hi:i<as.length:=by rw[hl];exact(aj.mp hr).1
 obtain⟨x,y⟩:=q i as[i] r (gE hi) hr;exact⟨as[i],x,y,as,e,gE hi,hl⟩
theorem Zz.same_ne{H:Hp}{b q:Addr}{o:HO}(h:Zz H b)(n:q≠b):Zz (upd H q o) b:=by obtain⟨x,y,z,e⟩:=h;exact⟨x,y,z,by rw[Zh n.symm];exact e⟩
theorem WB{b q:Addr}{H H4 H6:Hp}{o:HO}(s:Zg b H H6)(s4:Zg b H H4)(nqb:q≠b)(hq:H4 q=none):Zg b H (upd H6 q o):=λc u h hc=>by
 have:c≠q:=λz=>by rw[z]at h hc;rw[s4 _ _ h hc]at hq;cases hq
 rw[Zh this];exact s c u h hc
structure GoodPl(ps:Pl):Prop where
 lo:3<=ps.length
 hi:ps.length<=6
 nd:(ps.map (·.1)).Nodup
 nm:∀p∈ps,Nm p.1
 room:∀p∈ps,∀i,p.2=some i->0<=i/\i<=1000
 one:∃p∈ps,∃i,p.2=some i
 frs:∃a i,ps[0]?=some (a,some i)
theorem zip_rows(ts:List Str)(ρ:List (Option Int)):((ts.map V.str).zip (ρ.map Yx)).map (λq=>[q.1,q.2])=(ts.zip ρ).map plRow:=by rw[List.zip_map,bI];rfl
theorem QF{α β:Type}:∀(t0:List α)(ρ:List β)(s:α),t0.length=ρ.length->(t0++[s]).zip ρ=t0.zip ρ
|[],[],_,_=>rfl
|[],_::_,_,h=>by cases h
|_::_,[],_,h=>by cases h
|a::t,c::r,s,h=>by rw[gT,eF,QF t r s (by simpa using h),eF]
def QP:Sp:=λvs H Q _=>∃(b:Addr),vs=[.ref b]/\Zz H b/\∀H' q l s(ps:Pl),Zz H' b->Zg b H H'->H' q=some (.lst [.ref l,.str s])->q≠b->RowsAt b H' l (ps.map plRow)->GoodPl ps->Nm s->s∉ps.map (·.1)->Q (.ref q) H'
theorem Rj{b:Addr}{H H':Hp}{l:Addr}{rows:List (List V)}(h:Dq H H' l rows)(hb:Zz H b):RowsAt b H' l rows:=by obtain⟨s,hl,as,e,len,n,r⟩:=h;exact⟨hb.ne hl,as,e,len,λi a q h1 h2=>⟨hb.ne (n a (aK h1)),r i a q h1 h2⟩⟩
theorem Xp:FnScope [q_b,"_law_names_here","_law_rooms","_law_k"] [q_b] (Zb T.f__law_places):=scO
theorem SD(B:∀x∈Blts,mg x=none)(CT:Can P w K mg base 1 "_law_take" [q_b,"_law_many"] Xy)(CN:Can P w K mg base 2 "_law_names" [q_b,"_law_many"] P7)(CS:Can P w K mg base 2 "_law_size" [q_b] P5)(D:Df K mg "_law_places" T.f__law_places [q_b]):Can P w K mg base 3 "_law_places" [q_b] QP:=by
 refine D.cn Xp λf cdv A outer s H vs Q E hr h=>?_;obtain⟨b,rfl,hb,k⟩:=h;refine⟨_,(Ze (st 1 Xp.nd (cn CN hr (Za (pv 0) (Za (Zv ZT Zc (cn CT hr (Za (pv 0) (Za Zc Zf)))) Zf)))) (Ze (st 2 Xp.nd (ZA (Za (cn CS hr (Za (pv 0) Zf)) (Za (cn CS hr (Za (pv 0) Zf)) (Za Yc Zf))))) (Ze (YJ bq rfl (Yn rfl (bm B) (Za (Zv Jv (ZG (r:=rLen K) YB rfl (bm B) bC (Za (pv 1) Zf)) Zc) Zf)) (nmT 3 Xp.nd) (Zi (Yp (ND cg PySem.F.slot_list_append PySem.F.type_list_append WJ (pv 2) (Za (il K (ZA (Za Yc (Za (cn CS hr (Za (pv 0) Zf)) Zf))) (cn CT hr (Za (pv 0) (Za Zc Zf)))) Zf))))) (Zi (Zo (ZA (Za (RZ rfl rfl (bm B) rfl (bm B) (Za (pv 1) (Za (pv 2) Zf))) (Za (il K (pv 1) (EA Kx Zc)) Zf)))))))),?_⟩;refine⟨_,rfl,tkC hb (λr H1 h0 h1 B1 S1=>?_)⟩;refine⟨_,_,rfl,rfl,b,4+r,rfl,B1,by omega,by omega,λH2 l ts B2 S2 hl nlb hlen hnd hnm=>?_⟩;refine⟨_,rfl,b,rfl,B2,λr3 H3 h03 h13 B3 S3=>?_⟩;refine⟨_,rfl,b,rfl,B3,λr4 H4 h04 h14 B4 S4=>?_⟩;refine⟨zl,λq hq=>?_⟩;have S04:=((S1.trans S2).trans S3).trans S4;have hl4:=S4 _ _ (S3 _ _ hl nlb) nlb;have nql:q≠l:=(Zk hl4 hq).symm;refine⟨_,rfl,l,_,rfl,.inl (SqL.of (by rw[Zh nql.symm];exact hl4)),_,_,rfl,rfl,r,?_,by omega,by omega,?_⟩
 ·have:((List.map V.str ts).length:Int)-4=r:=by rw[lm];omega
  exact congrArg (λx=>[V.int x]) this
 refine V4 (n:=r.toNat) (λi σ' H'=>Zz H' b/\Zg b H H'/\H' l=some (.lst (ts.map V.str))/\q≠b/\(∃ρ:List (Option Int),H' q=some (.lst (ρ.map Yx))/\ρ.length=3+i/\ρ[0]?=some (some r3)/\ρ[2]?=some none/\∀x∈ρ,∀j,x=some j->0<=j/\j<=1000)/\∃v,σ'=[some (.ref b),some (.ref l),some (.ref q),v]) ⟨B4.new hq,S04.new' hq,by rw[Zh nql.symm];exact hl4,B4.ne hq,⟨[some r3,some r4,none],Zd,rfl,rfl,rfl,?_⟩,none,rfl⟩ (λi σ' H' hi p=>?_) (λσ' H' p=>?_)
 ·intro x hx j e;subst e;simp only[aA,Option.some.injEq,aJ,or_false,reduceCtorEq]at hx;omega
 ·obtain⟨bx,sm,hl',nqb,⟨ρ,hq',len,z0,z2,ok⟩,v,rfl⟩:=p;refine⟨_,rfl,.inl ⟨rfl,_,SqL.of hq'⟩,_,rfl,b,rfl,bx,λr5 H5 h05 h15 B5 S5=>?_⟩;refine⟨zl,λq2 hq2=>?_⟩;have n2:=B5.ne hq2;refine tkC (B5.new hq2) (λr6 H6 h06 h16 B6 S6=>?_);have e6:H6 q2=some (.lst [.non,.int r5]):=S6 _ _ Zd n2;have hq6:H6 q=some (.lst (ρ.map Yx)):=S6 _ _ (by rw[Zh (Zk (S5 _ _ hq' nqb) hq2)];exact S5 _ _ hq' nqb) nqb;have hl6:H6 l=some (.lst (ts.map V.str)):=S6 _ _ (by rw[Zh (Zk (S5 _ _ hl' nlb) hq2)];exact S5 _ _ hl' nlb) nlb;have S06:Zg b H H6:=((sm.trans S5).new' hq2).trans S6;have hz:(ρ.map Yx).length<sizeLine:=by rw[lm,len];exact Nat.lt_of_lt_of_le (by omega:3+i<1000) (by decide)
  have fin:∀x:Option Int,(∀j,x=some j->0<=j/\j<=1000)->_:=λx hx=>(⟨B6.same_ne nqb,WB S06 S04 nqb hq,by rw[Zh nql.symm];exact hl6,nqb,⟨ρ++[x],by rw[Zd,aE];rfl,by simp[len];omega,by rw[a8 (by omega)];exact z0,by rw[a8 (by omega)];exact z2,λy hy j e=>by
    rcases aP.mp hy with hy|hy
    ·exact ok y hy j e
    ·rw[aQ]at hy;subst hy;exact hx j e⟩,_,rfl⟩:Zz (upd H6 q (.lst (ρ.map Yx++[Yx x]))) b/\Zg b H (upd H6 q (.lst (ρ.map Yx++[Yx x])))/\(upd H6 q (.lst (ρ.map Yx++[Yx x]))) l=some (.lst (ts.map V.str))/\q≠b/\(∃ρ':List (Option Int),(upd H6 q (.lst (ρ.map Yx++[Yx x]))) q=some (.lst (ρ'.map Yx))/\ρ'.length=3+(i+1)/\ρ'[0]?=some (some r3)/\ρ'[2]?=some none/\∀x∈ρ',∀j,x=some j->0<=j/\j<=1000)/\∃v',[some (.ref b),some (.ref l),some (.ref q),some (.int (0+i))]=[some (V.ref b),some (.ref l),some (.ref q),v'])
  have c6:r6=0\/r6=1:=by omega
  rcases c6 with rfl|rfl
  ·exact⟨q2,_,0,.non,rfl,rfl,SqL.of e6,Zr (j:=0) rfl,q,_,_,rfl,rfl,hq6,hz,fin none (λj e=>by cases e)⟩
  ·exact⟨q2,_,1,.int r5,rfl,rfl,SqL.of e6,Zr (j:=1) rfl,q,_,_,rfl,rfl,hq6,hz,fin (some r5) (λj e=>by cases e;exact⟨h05,h15⟩)⟩
 ·obtain⟨bx,sm,hl',nqb,⟨ρ,hq',len,z0,z2,ok⟩,v,rfl⟩:=p;refine⟨_,rfl,_,rfl,l,q,_,_,rfl,hl',hq',λH7 l7 L7=>?_⟩;have S7:Same H' H7:=L7.1;obtain⟨t0,s,rfl⟩:∃t0 s,ts=t0++[s]:=⟨_,_,(List.dropLast_concat_getLast (l:=ts) (by intro z;rw[z]at hlen;simp at hlen;omega)).symm⟩;have len0:t0.length=ρ.length:=by have:((t0++[s]).length:Int)=4+r:=hlen;rw[ay]at this;simp at this;omega
  refine⟨_,rfl,_,rfl,l,_,-1,.str s,rfl,rfl,SqL.of (S7 _ _ hl'),by rw[aE];exact Rw _ _,zl,λq8 hq8=>?_⟩;have B7:Zz H7 b:=bx.same S7;have R7:=Rj L7 bx;rw[zip_rows,QF t0 ρ s len0]at R7;have fst:(t0.zip ρ).map (·.1)=t0:=List.map_fst_zip (by omega);have nd0:=eU.mp hnd;refine k _ q8 l7 s (t0.zip ρ) (B7.new hq8) ((sm.trans (Zg.of S7)).new' hq8) Zd (B7.ne hq8) (R7.same ((Zg.refl b H7).new' hq8)) ?_ (hnm s (by simp)) ?_
  ·refine⟨by rw[bV];omega,by rw[bV];omega,by rw[fst];exact nd0.1,λp hp=>hnm _ (bp _ (dC hp).1),λp hp i e=>ok _ (dC hp).2 i e,?_,?_⟩
   ·have h3:0<t0.length:=by omega
    have h4:0<ρ.length:=by omega
    refine⟨(t0[0],ρ[0]),List.mem_iff_getElem.mpr ⟨0,by rw[bV];omega,by simp⟩,r3,?_⟩;rw[gE h4]at z0;exact ar z0
   ·exact⟨t0[0]'(by omega),r3,List.getElem?_zip_eq_some.mpr ⟨gE (by omega),z0⟩⟩
  ·rw[fst];intro z;exact nd0.2.2 s z s (by simp) rfl
end
end WD
namespace L2
open PySem PySem.Spec PyProof.Rows
theorem Y8{X:Cx}{pos:Pos}{K:aa}{es:List Expr}{k:Nat}{t:TGs}{n:Nat}(hK:X.K=K)(hc:X.calm=true)(h:PGs X es t)(hn:(cL es X.env).length=n:=by rfl)(hst:(cL es X.env).findIdx? (·.1)=none:=by rfl):PG X (.Tuple es k pos) (gTup K n t):=by subst hK;exact XM hc h hn hst
end L2
namespace WD
open PySem L2 PySem.Spec PyProof.Rows TB
def Qb:Sp:=λvs H Q _=>∃(b l:Addr)(ps:Pl),vs=[.ref b,.ref l]/\Zz H b/\RowsAt b H l (ps.map plRow)/\GoodPl ps/\∀H' q s g,Zz H' b->Zg b H H'->H' q=some (.tup [.str s,.str g])->q≠b->(∃i,(s,some i)∈ps)->(∃r,(g,r)∈ps)->s≠g->Q (.ref q) H'
theorem Y1{α:Type}(p:α->Bool)(l:List α){i:Nat}{a:α}(h:l[i]?=some a):(l.take (i+1)).filter p=(l.take i).filter p++(if p a=true then[a]else[]):=by rw[aV,h,eG];simp only[gj];cases hp:p a<;>simp[hp]
theorem SO{ts:List Str}{r:Int}(h0:0<=r)(h1:r<(ts.length:Int)):∃t,atI (ts.map V.str) r=some (.str t)/\t∈ts:=by obtain⟨v,hv,hm⟩:=at_of (xs:=ts.map V.str) h0 (by rw[lm];exact h1);obtain⟨t,ht,rfl⟩:=aq.mp hm;exact⟨t,hv,ht⟩
theorem Wz(r:Option Int):(!decide (Yx r=.non))=r.isSome:=by cases r<;>rfl
theorem RowsAt.go{K:aa}{b:Addr}{H:Hp}{l:Addr}{rows:List (List V)}(h:RowsAt b H l rows){i:Nat}(hi:i<rows.length):(Itl K l).go i H:=by obtain⟨n,as,e,hl,r⟩:=h;exact⟨_,.ref (as[i]'(by omega)),SqL.of e,by simp[hl,hi]⟩
theorem RowsAt.stop{K:aa}{b:Addr}{H:Hp}{l:Addr}{rows:List (List V)}(h:RowsAt b H l rows):(Itl K l).stop rows.length H:=by obtain⟨n,as,e,hl,r⟩:=h;exact⟨_,SqL.of e,by simp[hl]⟩
theorem RowsAt.item{K:aa}{b:Addr}{H:Hp}{l:Addr}{rows:List (List V)}(h:RowsAt b H l rows){i:Nat}{r:List V}(hr:rows[i]?=some r){x:V}{H':Hp}(y:(Itl K l).yld i H x H'):H'=H/\∃a,x=.ref a/\a≠b/\H a=some (.tup r):=by obtain⟨a,n,e,as,el,ea,len⟩:=h.at hr;obtain⟨rfl,q⟩:=y;have:=q _ (SqL.of el);rw[ah,ea]at this;exact⟨rfl,a,(ar this).symm,n,e⟩
section
variable {P:Program}{w:World}{K:aa}{mg:Str->Option Value}{base:Heap}
theorem Jl:FnScope [q_b,q_p,"_law_starts","_law_start","_law_goals"] [q_b,q_p] (Zb T.f__law_ends):=scO
noncomputable def Jz:Scope:=csx [(".0",.local),("_law_place",.local),("_law_room",.local)]
theorem MB:CompScope Jz (Zb T.f__law_ends):=⟨rfl,by decide +kernel,by decide +kernel,by decide +kernel⟩
theorem JP:(["_law_place","_law_room"]:List Str).Nodup:=by decide +kernel
theorem MC:CompNames [q_b,q_p,"_law_starts","_law_start","_law_goals"] Jz ["_law_place","_law_room"] [none,none]:=.mk' (by decide +kernel)
noncomputable def Jy:Scope:=csx [(".0",.local),("_law_place",.local),("_law_room",.local),("_law_start",.free)]
theorem Mz:CompScope Jy (Zb T.f__law_ends):=⟨rfl,by decide +kernel,by decide +kernel,by decide +kernel⟩
theorem JO:(["_law_place","_law_room","_law_start"]:List Str).Nodup:=by decide +kernel
theorem MA:CompNames [q_b,q_p,"_law_starts","_law_start","_law_goals"] Jy ["_law_place","_law_room","_law_start"] [none,none,some 3]:=.mk' (by decide +kernel)
theorem Kg(B:∀x∈Blts,mg x=none)(CT:Can P w K mg base 1 "_law_take" [q_b,"_law_many"] Xy)(D:Df K mg "_law_ends" T.f__law_ends [q_b,q_p]):Can P w K mg base 2 "_law_ends" [q_b,q_p] Qb:=by
 refine D.cn Jl λf cdv A outer s H vs Q E hr h=>?_;obtain⟨b,l,ps,rfl,hb,hp,gp,k⟩:=h;have hpl:(ps.map plRow).length<=sizeLine:=Nat.le_trans (by rw[lm];have:=gp.hi;omega:(ps.map plRow).length<=1000) (by decide);refine⟨_,(Ze (YD (i:=2) Jl.nd rfl (bw rfl) (scope:=Jz) (N:=["_law_place","_law_room"]) (cp:=[none,none]) rfl MB MC (Z3 (pv 1)) (λC s H ex pn=>(Y8 (K:=K) (n:=2) rfl rfl (Zl (nmT 0 JP) (Zl (nmT 1 JP) ZL)))) (λC s H ex pn=>(Xq (Zw VX (pv 1) Yc (ZC _)))) (λC s H ex pn=>(pv 0))) (Ze (Z9 (i:=3) Jl.nd rfl (cQ rfl) (il K (pv 2) (cn CT hr (Za (pv 0) (Za (ZG (r:=rLen K) YB rfl (bm B) bC (Za (pv 2) Zf)) Zf))))) (Ze (YD (i:=4) Jl.nd rfl (bw rfl) (scope:=Jy) (N:=["_law_place","_law_room","_law_start"]) (cp:=[none,none,some 3]) rfl Mz MA (Z3 (pv 1)) (λC s H ex pn=>(Y8 (K:=K) (n:=2) rfl rfl (Zl (nmT 0 JO) (Zl (nmT 1 JO) ZL)))) (λC s H ex pn=>(Xq (Zw Ra (pv 0) (pv 2) (ZC _)))) (λC s H ex pn=>(pv 0))) (Zi (Zo (ZE (Za (pv 3) (Za (il K (pv 4) (cn CT hr (Za (pv 0) (Za (ZG (r:=rLen K) YB rfl (bm B) bC (Za (pv 4) Zf)) Zf)))) Zf)))))))),?_⟩;refine tq λD1 hk1=>?_;refine⟨_,rfl,l,rfl,⟨_,SqL.of hp.2.choose_spec.1⟩,?_⟩;refine Y9 (J:=Itl K l) (ps.map plRow).length hpl (λi ys τ H'=>H'=H/\ys=((ps.take i).filter λp=>p.2.isSome).map (λp=>V.str p.1)/\∃v1 v2,τ=[v1,v2]) ⟨rfl,rfl,none,none,rfl⟩ (λi ys τ H' p=>?_) (λi ys τ H' hi p=>?_) (λys τ H' p=>?_) (λi ys τ H' x H2 hi p yl=>?_) (λys τ H0 p l1 hl1=>?_)
 ·obtain⟨_,rfl,_⟩:=p;rw[lm];exact Nat.le_trans (bu _ _) (by rw[aw];omega)
 ·obtain⟨rfl,_⟩:=p;exact hp.go hi
 ·obtain⟨rfl,_⟩:=p;exact hp.stop
 ·obtain⟨rfl,rfl,v1,v2,rfl⟩:=p;have hi':i<ps.length:=by simpa using hi
  have e0:ps[i]?=some ps[i]:=gE hi';obtain⟨rfl,a,rfl,na,ha⟩:=hp.item (r:=plRow ps[i]) (by rw[ah,e0];rfl) yl;refine⟨a,_,rfl,SqT.of ha,rfl,_,_,rfl,_,_,rfl,rfl,_,rfl,rfl,_,rfl,?_⟩;rw[Wz];refine YS (λe=>?_) (λe=>?_)
  ·refine⟨_,rfl,rfl,?_,_,_,rfl⟩;rw[Y1 _ _ e0,if_pos e,aE];rfl
  ·refine⟨rfl,?_,_,_,rfl⟩;rw[Y1 _ _ e0,if_neg (by rw[e];exact Bool.false_ne_true),aT]
 ·obtain⟨rfl,rfl,v1,v2,rfl⟩:=p;rw[lm,aF];generalize ess:(ps.filter λp=>p.2.isSome).map (·.1)=ss;have e1:(ps.filter λp=>p.2.isSome).map (λp=>V.str p.1)=ss.map V.str:=by rw[<-ess,bI];rfl
  rw[e1];have hss:∀t∈ss,∃i,(t,some i)∈ps:=λt ht=>by rw[<-ess]at ht;obtain⟨p,hp',rfl⟩:=aq.mp ht;obtain⟨m1,m2⟩:=dg.mp hp';obtain⟨i,hi⟩:=dw.mp m2;exact⟨i,by rw[<-hi];exact m1⟩
  have hs0:0<ss.length:=by
   obtain⟨p,hp',i,hi⟩:=gp.one;have:p.1∈ss:=by rw[<-ess];exact aq.mpr ⟨p,dg.mpr ⟨hp',by rw[hi];rfl⟩,rfl⟩
   exact fG this
  have hs6:ss.length<=6:=by rw[<-ess,lm];exact Nat.le_trans (bu _ _) gp.hi
  have nl1:=hb.ne hl1;have B1:=hb.new (o:=.lst (ss.map V.str)) hl1;have S1:Zg b H0 (upd H0 l1 (.lst (ss.map V.str))):=(Zg.refl b H0).new' hl1;have el1:upd H0 l1 (.lst (ss.map V.str)) l1=some (.lst (ss.map V.str)):=Zd;generalize upd H0 l1 (.lst (ss.map V.str))=H1 at B1 S1 el1 ⊢;refine hk1 _ _ (tq λD2 hk2=>?_);refine⟨_,rfl,_,rfl,_,rfl,l1,_,rfl,.inl (SqL.of el1),b,_,rfl,B1,by rw[lm];omega,Yg (by omega) (by rw[lm];omega),λr H2 h02 h12 B2 S2=>?_⟩;rw[lm]at h12;obtain⟨st,hat,hst⟩:=SO h02 h12;refine⟨l1,_,r,_,rfl,rfl,SqL.of (S2 _ _ el1 nl1),hat,?_⟩;have hp2:=hp.same (S1.trans S2);have S02:=S1.trans S2;refine hk2 _ _ (tq λD3 hk3=>?_);refine⟨_,rfl,l,rfl,⟨_,SqL.of hp2.2.choose_spec.1⟩,?_⟩;refine Y9 (J:=Itl K l) (ps.map plRow).length hpl (λi ys τ H'=>H'=H2/\ys=((ps.take i).filter λp=>!decide (p.1=st)).map (λp=>V.str p.1)/\∃v1 v2,τ=[v1,v2,some (.str st)]) ⟨rfl,rfl,none,none,rfl⟩ (λi ys τ H' p=>?_) (λi ys τ H' hi p=>?_) (λys τ H' p=>?_) (λi ys τ H' x H2 hi p yl=>?_) (λys τ H' p l3 hl3=>?_)
  ·obtain⟨_,rfl,_⟩:=p;rw[lm];exact Nat.le_trans (bu _ _) (by rw[aw];omega)
  ·obtain⟨rfl,_⟩:=p;exact hp2.go hi
  ·obtain⟨rfl,_⟩:=p;exact hp2.stop
  ·obtain⟨rfl,rfl,v1,v2,rfl⟩:=p;have hi':i<ps.length:=by simpa using hi
   have e0:ps[i]?=some ps[i]:=gE hi';obtain⟨rfl,a,rfl,na,ha⟩:=hp2.item (r:=plRow ps[i]) (by rw[ah,e0];rfl) yl;refine⟨a,_,rfl,SqT.of ha,rfl,_,_,rfl,_,_,rfl,rfl,_,rfl,_,rfl,rfl,_,rfl,?_⟩;have ee:(!decide (V.str ps[i].1=V.str st))=!decide (ps[i].1=st):=by
    congr 1;by_cases z:ps[i].1=st
    ·rw[z];simp
    ·rw[decide_eq_false z,decide_eq_false (λq=>z (by cases q;rfl))]
   refine YS (λe=>?_) (λe=>?_)
   ·have e':=ee.symm.trans e;refine⟨_,rfl,rfl,?_,_,_,rfl⟩;rw[Y1 _ _ e0,if_pos e',aE];rfl
   ·have e':=ee.symm.trans e;refine⟨rfl,?_,_,_,rfl⟩;rw[Y1 _ _ e0,if_neg (by rw[e'];exact Bool.false_ne_true),aT]
  ·obtain⟨rfl,rfl,v1,v2,rfl⟩:=p;rw[lm,aF];generalize egs:(ps.filter λp=>!decide (p.1=st)).map (·.1)=gs;have e3:(ps.filter λp=>!decide (p.1=st)).map (λp=>V.str p.1)=gs.map V.str:=by rw[<-egs,bI];rfl
   rw[e3];have hgs:∀t∈gs,st≠t/\∃r,(t,r)∈ps:=λt ht=>by rw[<-egs]at ht;obtain⟨p,hp',rfl⟩:=aq.mp ht;obtain⟨m1,m2⟩:=dg.mp hp';exact⟨λz=>by simp[z]at m2,p.2,m1⟩
   have hg0:0<gs.length:=by
    have h3:=gp.lo;have nd:=gp.nd;by_cases z:ps[0].1=st
    ·have z1:ps[1].1≠st:=λq=>by
      have:(ps.map (·.1))[0]'(by simp;omega)=(ps.map (·.1))[1]'(by simp;omega):=by simp[z,q]
      exact absurd ((fz nd).mp this) (by decide)
     have:ps[1].1∈gs:=by rw[<-egs];exact aq.mpr ⟨ps[1],dg.mpr ⟨aG _,by simp[z1]⟩,rfl⟩
     exact fG this
    ·have:ps[0].1∈gs:=by rw[<-egs];exact aq.mpr ⟨ps[0],dg.mpr ⟨aG _,by simp[z]⟩,rfl⟩
     exact fG this
   have hg6:gs.length<=6:=by rw[<-egs,lm];exact Nat.le_trans (bu _ _) gp.hi
   have nl3:=B2.ne hl3;have B3:=B2.new (o:=.lst (gs.map V.str)) hl3;have S3:Zg b H0 (upd H' l3 (.lst (gs.map V.str))):=S02.new' hl3;have el3:upd H' l3 (.lst (gs.map V.str)) l3=some (.lst (gs.map V.str)):=Zd;generalize upd H' l3 (.lst (gs.map V.str))=H3 at B3 S3 el3 ⊢;refine hk3 _ _ ?_;refine⟨_,rfl,_,rfl,_,rfl,_,rfl,l3,_,rfl,.inl (SqL.of el3),b,_,rfl,B3,by rw[lm];omega,Yg (by omega) (by rw[lm];omega),λr4 H4 h04 h14 B4 S4=>?_⟩;rw[lm]at h14;obtain⟨g,hat4,hg⟩:=SO h04 h14;refine⟨l3,_,r4,_,rfl,rfl,SqL.of (S4 _ _ el3 nl3),hat4,zl,λq hq=>?_⟩;exact k _ q st g (B4.new hq) ((S3.trans S4).new' hq) Zd (B4.ne hq) (hss st hst) (hgs g hg).2 (hgs g hg).1
structure Rd where
 nm:Str
 st:Str
 lv:Int
 gl:Str
 cm:Int
 se:Int
noncomputable def rdRow(r:Rd):List V:=[.str r.nm,.str r.st,.int r.lv,.str r.gl,.int r.cm,.int r.se]
structure Wy where
 nm:Str
 st:Str
 gl:Str
 lo:Int
 wi:Int
noncomputable def wyRow(r:Wy):List V:=[.str r.nm,.str r.st,.str r.gl,.int r.lo,.int r.wi]
structure Gr where
 nm:Str
 pl:Str
 tu:Int
 ma:Int
noncomputable def grRow(r:Gr):List V:=[.str r.nm,.str r.pl,.int r.tu,.int r.ma]
structure Ends(ps:Pl)(s g:Str):Prop where
 st:∃i,(s,some i)∈ps
 gl:∃r,(g,r)∈ps
 ne:s≠g
structure GoodRd(n:Int)(ps:Pl)(r:Rd):Prop where
 ends:Ends ps r.st r.gl
 lv0:0<=r.lv
 lv1:r.lv<=n-1
 cm0:r.lv+1<=r.cm
 cm1:r.cm<=n
 se0:0<=r.se
 se1:r.se<=1000
structure GoodWy(ps:Pl)(r:Wy):Prop where
 ends:Ends ps r.st r.gl
 lo0:1<=r.lo
 lo1:r.lo<=50
 wi0:0<=r.wi
 wi1:r.wi<=1000
noncomputable def sufs:List Str:=["",".","..7",".b"]
structure GoodGr(n:Int)(ps:Pl)(base:Str)(r:Gr):Prop where
 nm:∃s∈sufs,r.nm=base++s
 pl:∃x,(r.pl,x)∈ps
 tu0:0<=r.tu
 tu1:r.tu<=n
 ma0:0<=r.ma
 ma1:r.ma<=5
def P9:Sp:=λvs H Q _=>∃(b l:Addr)(nm:Str)(n:Int)(ps:Pl),vs=[.ref b,.str nm,.int n,.ref l]/\Zz H b/\RowsAt b H l (ps.map plRow)/\GoodPl ps/\1<=n/\n<=50/\∀H' q(r:Rd),Zz H' b->Zg b H H'->H' q=some (.tup (rdRow r))->q≠b->r.nm=nm->GoodRd n ps r->Q (.ref q) H'
def KN:Sp:=λvs H Q _=>∃(b l:Addr)(nm:Str)(ps:Pl),vs=[.ref b,.str nm,.ref l]/\Zz H b/\RowsAt b H l (ps.map plRow)/\GoodPl ps/\∀H' q(r:Wy),Zz H' b->Zg b H H'->H' q=some (.tup (wyRow r))->q≠b->r.nm=nm->GoodWy ps r->Q (.ref q) H'
def Nu:Sp:=λvs H Q _=>∃(b l:Addr)(nm:Str)(n:Int)(ps:Pl),vs=[.ref b,.str nm,.int n,.ref l]/\Zz H b/\nm.length<=1000/\RowsAt b H l (ps.map plRow)/\GoodPl ps/\1<=n/\n<=50/\∀H' q(r:Gr),Zz H' b->Zg b H H'->H' q=some (.tup (grRow r))->q≠b->GoodGr n ps nm r->Q (.ref q) H'
theorem SN{c:Bool}{x y:Int}:atI [V.int x,.int y] (if c=true then 1 else 0)=some (.int (if c=true then y else x)):=by
 cases c
 ·exact Zr (j:=0) rfl
 ·exact Zr (j:=1) rfl
theorem G1{x y m:Int}(h1:x<=m)(h2:y<=m)(c:Bool):(if c=true then y else x)<=m:=by cases c<;>assumption
theorem G2{x y m:Int}(h1:m<=x)(h2:m<=y)(c:Bool):m<=(if c=true then y else x):=by cases c<;>assumption
theorem Jk:FnScope [q_b,"_law_name","_law_turns",q_p,"_law_start","_law_goal","_law_leave"] [q_b,"_law_name","_law_turns",q_p] (Zb T.f__law_ride):=scO
theorem Kf(B:∀x∈Blts,mg x=none)(CT:Can P w K mg base 1 "_law_take" [q_b,"_law_many"] Xy)(CS:Can P w K mg base 2 "_law_size" [q_b] P5)(CE:Can P w K mg base 2 "_law_ends" [q_b,q_p] Qb)(D:Df K mg "_law_ride" T.f__law_ride [q_b,"_law_name","_law_turns",q_p]):Can P w K mg base 3 "_law_ride" [q_b,"_law_name","_law_turns",q_p] P9:=by refine D.cn Jk λf cdv A outer s H vs Q E hr h=>?_;obtain⟨b,l,nm,n,ps,rfl,hb,hp,gp,hn1,hn2,k⟩:=h;refine⟨_,(Ze (Jt (cn CE hr (Za (pv 0) (Za (pv 3) Zf))) (XM rfl (Zl (nmT 4 Jk.nd) (Zl (nmT 5 Jk.nd) ZL)))) (Ze (st 6 Jk.nd (cn CT hr (Za (pv 0) (Za (pv 2) Zf)))) (Zi (Zo (ZE (Za (pv 1) (Za (pv 4) (Za (pv 6) (Za (pv 5) (Za (Zv ZT (Zv ZT (pv 6) Zc) (cn CT hr (Za (pv 0) (Za (Zv Jv (pv 2) (pv 6)) Zf)))) (Za (cn CS hr (Za (pv 0) Zf)) Zf))))))))))),?_⟩;refine⟨_,rfl,_,rfl,b,l,ps,rfl,hb,hp,gp,λH1 q st gl B1 S1 hq nq es eg ne=>?_⟩;refine⟨q,_,rfl,SqT.of hq,rfl,_,_,rfl,_,_,rfl,rfl,?_⟩;refine⟨_,rfl,_,rfl,b,n,rfl,B1,by omega,Yg (by omega) (by omega),λlv H2 h02 h12 B2 S2=>?_⟩;refine⟨_,rfl,_,rfl,_,rfl,_,rfl,_,rfl,_,_,rfl,rfl,_,rfl,_,rfl,_,rfl,_,_,rfl,rfl,b,n-lv,rfl,B2,by omega,Yg (by omega) (by omega),λd H3 h03 h13 B3 S3=>?_⟩;refine⟨_,_,rfl,rfl,_,rfl,b,rfl,B3,λse H4 h04 h14 B4 S4=>?_⟩;refine⟨zl,λq2 hq2=>?_⟩;exact k _ q2 ⟨nm,st,lv,gl,lv+1+d,se⟩ (B4.new hq2) ((((S1.trans S2).trans S3).trans S4).new' hq2) Zd (B4.ne hq2) rfl ⟨⟨es,eg,ne⟩,h02,by show lv<=n-1;omega,by show lv+1<=lv+1+d;omega,by show lv+1+d<=n;omega,h04,h14⟩
theorem Uv:FnScope [q_b,"_law_name",q_p,"_law_start","_law_goal"] [q_b,"_law_name",q_p] (Zb T.f__law_way):=scO
theorem Dd(B:∀x∈Blts,mg x=none)(CT:Can P w K mg base 1 "_law_take" [q_b,"_law_many"] Xy)(CS:Can P w K mg base 2 "_law_size" [q_b] P5)(CE:Can P w K mg base 2 "_law_ends" [q_b,q_p] Qb)(D:Df K mg "_law_way" T.f__law_way [q_b,"_law_name",q_p]):Can P w K mg base 3 "_law_way" [q_b,"_law_name",q_p] KN:=by
 refine D.cn Uv λf cdv A outer s H vs Q E hr h=>?_;obtain⟨b,l,nm,ps,rfl,hb,hp,gp,k⟩:=h;refine⟨_,(Ze (Jt (cn CE hr (Za (pv 0) (Za (pv 2) Zf))) (XM rfl (Zl (nmT 3 Uv.nd) (Zl (nmT 4 Uv.nd) ZL)))) (Zi (Zo (ZE (Za (pv 1) (Za (pv 3) (Za (pv 4) (Za (Zv ZT Zc (cn CT hr (Za (pv 0) (Za (il K (ZA (Za Zc (Za Zc Zf))) (Y2 MF rfl (bm B) QA (Za (JY YR (cn CT hr (Za (pv 0) (Za Zc Zf))) Zc (ZC _)) Zf))) Zf)))) (Za (cn CS hr (Za (pv 0) Zf)) Zf))))))))),?_⟩;refine⟨_,rfl,_,rfl,b,l,ps,rfl,hb,hp,gp,λH1 q st gl B1 S1 hq nq es eg ne=>?_⟩;refine⟨q,_,rfl,SqT.of hq,rfl,_,_,rfl,_,_,rfl,rfl,?_⟩;refine⟨_,rfl,_,rfl,_,rfl,_,rfl,zl,λl2 hl2=>?_⟩;have n2:=B1.ne hl2;refine tkC (B1.new hl2) (λr2 H2 h02 h12 B2 S2=>?_);have el2:=S2 _ _ Zd n2;have S02:=(S1.new' (o:=.lst [.int 3,.int 50]) hl2).trans S2;refine⟨rfl,.inr ⟨_,rfl,l2,_,_,_,rfl,rfl,SqL.of el2,SN,b,_,rfl,B2,?_,?_,λlo H3 h03 h13 B3 S3=>?_⟩⟩
 ·exact Int.lt_of_lt_of_le (by decide:(0:Int)<3) (G2 (by decide) (by decide) _)
 ·exact Yg (Int.le_trans (by decide:(0:Int)<=3) (G2 (by decide) (by decide) _)) (G1 (by decide) (by decide) _)
 ·have h50:lo<50:=Int.lt_of_lt_of_le h13 (G1 (by decide) (by decide) _);refine⟨_,_,rfl,rfl,_,rfl,b,rfl,B3,λwi H4 h04 h14 B4 S4=>?_⟩;refine⟨zl,λq2 hq2=>?_⟩;exact k _ q2 ⟨nm,st,gl,1+lo,wi⟩ (B4.new hq2) (((S02.trans S3).trans S4).new' hq2) Zd (B4.ne hq2) rfl ⟨⟨es,eg,ne⟩,by show 1<=1+lo;omega,by show 1+lo<=50;omega,h04,h14⟩
theorem JV:FnScope [q_b,"_law_name","_law_turns",q_p,"_law_place"] [q_b,"_law_name","_law_turns",q_p] (Zb T.f__law_group):=scO
theorem SH(B:∀x∈Blts,mg x=none)(CT:Can P w K mg base 1 "_law_take" [q_b,"_law_many"] Xy)(D:Df K mg "_law_group" T.f__law_group [q_b,"_law_name","_law_turns",q_p]):Can P w K mg base 2 "_law_group" [q_b,"_law_name","_law_turns",q_p] Nu:=by
 refine D.cn JV λf cdv A outer s H vs Q E hr h=>?_;obtain⟨b,l,nm,n,ps,rfl,hb,hnl,hp,gp,hn1,hn2,k⟩:=h;refine⟨_,(Ze (st 1 JV.nd (Zv JZ (pv 1) (il K (ZA (Za Zu (Za Zu (Za Zu (Za Zu Zf))))) (cn CT hr (Za (pv 0) (Za Zc Zf)))))) (Ze (st 4 JV.nd (it K (il K (pv 3) (cn CT hr (Za (pv 0) (Za (ZG (r:=rLen K) YB rfl (bm B) bC (Za (pv 3) Zf)) Zf)))) Zc)) (Zi (Zo (ZE (Za (pv 1) (Za (pv 4) (Za (cn CT hr (Za (pv 0) (Za (Zv ZT (pv 2) Zc) Zf))) (Za (cn CT hr (Za (pv 0) (Za Zc Zf))) Zf))))))))),?_⟩;refine⟨_,rfl,zl,λl2 hl2=>?_⟩;have n2:=hb.ne hl2;refine tkC (hb.new hl2) (λr2 H2 h02 h12 B2 S2=>?_);have el2:=S2 _ _ Zd n2;have S02:=((Zg.refl b H).new' (o:=.lst (sufs.map V.str)) hl2).trans S2;obtain⟨sf,hat,hsf⟩:=SO (ts:=sufs) h02 h12;have hsl:sf.length<=3:=(by decide +kernel:∀t∈sufs,t.length<=3) sf hsf;refine⟨l2,_,r2,_,rfl,rfl,SqL.of el2,hat,_,_,rfl,rfl,Nat.le_trans (by omega:nm.length+sf.length<=2000) (by decide),?_⟩;have hp2:=hp.same S02;have hp2':=hp2;obtain⟨nlb,as,el,len,rws⟩:=hp2';have len':as.length=ps.length:=by rw[len,lm]
 have h36:3<=ps.length/\ps.length<=6:=⟨gp.lo,gp.hi⟩;refine⟨_,rfl,_,rfl,_,rfl,l,_,rfl,.inl (SqL.of el),b,_,rfl,B2,by rw[lm];omega,Yg (by omega) (by rw[lm];omega),λr3 H3 h03 h13 B3 S3=>?_⟩;rw[lm]at h13;have hi:r3.toNat<ps.length:=by omega
 obtain⟨a,na,ha,as',el',ea,len2⟩:=(hp2.same S3).at (i:=r3.toNat) (r:=plRow ps[r3.toNat]) (by rw[ah,gE hi];rfl);refine⟨l,_,r3,.ref a,rfl,rfl,SqL.of el',SQ (j:=r3.toNat) (by omega) (by rw[ah,ea];rfl),a,_,0,_,rfl,rfl,SqT.of ha,Zr (j:=0) rfl,?_⟩;refine⟨_,rfl,_,rfl,_,rfl,_,rfl,_,_,rfl,rfl,b,n+1,rfl,B3,by omega,Yg (by omega) (by omega),λtu H4 h04 h14 B4 S4=>?_⟩;refine tkC B4 (λma H5 h05 h15 B5 S5=>?_);refine⟨zl,λq hq=>?_⟩;exact k _ q ⟨nm++sf,ps[r3.toNat].1,tu,ma⟩ (B5.new hq) ((((S02.trans S3).trans S4).trans S5).new' hq) Zd (B5.ne hq) ⟨⟨sf,hsf,rfl⟩,⟨ps[r3.toNat].2,aG hi⟩,h04,by show tu<=n;omega,h05,by show ma<=5;omega⟩
structure Wd where
 n:Int
 ps:Pl
 rs:List Rd
 ws:List Wy
 gs:List Gr
structure Names(ts:List Str)(s:Str):Prop where
 nd:ts.Nodup
 nm:∀t∈ts,Nm t
 len:ts.length<=12
 snm:Nm s
 s:s∉ts
structure GoodW(W:Wd)(bs:List Str):Prop where
 n0:1<=W.n
 n1:W.n<=50
 pl:GoodPl W.ps
 rd:∀r∈W.rs,GoodRd W.n W.ps r
 wy:∀r∈W.ws,GoodWy W.ps r
 len:W.gs.length=bs.length
 gr:∀(i:Nat)b g,bs[i]?=some b->W.gs[i]?=some g->GoodGr W.n W.ps b g
structure Strange(W:Wd)(bs:List Str)(s0 s1 s2 s3:Str):Prop where
 p:Nm s0/\s0∉W.ps.map (·.1)
 r:Names (W.rs.map (·.nm)) s1
 w:Names (W.ws.map (·.nm)) s2
 g:Names bs s3
structure WorldAt(b:Addr)(H:Hp)(p:Addr)(W:Wd)(l1 l2 l3 l4:Addr):Prop where
 ne:p≠b
 at_:H p=some (.lst [.int W.n,.ref l1,.ref l2,.ref l3,.ref l4])
 pl:RowsAt b H l1 (W.ps.map plRow)
 rd:RowsAt b H l2 (W.rs.map rdRow)
 wy:RowsAt b H l3 (W.ws.map wyRow)
 gr:RowsAt b H l4 (W.gs.map grRow)
def Tc:Sp:=λvs H Q _=>∃(b:Addr),vs=[.ref b]/\Zz H b/\∀H' q p st l1 l2 l3 l4(W:Wd)(bs:List Str)(s0 s1 s2 s3:Str),Zz H' b->Zg b H H'->q≠b->H' q=some (.lst [.ref p,.ref st])->st≠b->H' st=some (.lst [.str s0,.str s1,.str s2,.str s3])->WorldAt b H' p W l1 l2 l3 l4->GoodW W bs->Strange W bs s0 s1 s2 s3->Q (.ref q) H'
def Ng(b:Addr)(H:Hp)(l:Addr)(ts:List Str):Prop:=l≠b/\H l=some (.lst (ts.map V.str))/\1<=ts.length/\ts.length<=13/\ts.Nodup/\∀t∈ts,Nm t
theorem Ng.same{b:Addr}{H H':Hp}{l:Addr}{ts:List Str}(s:Zg b H H')(h:Ng b H l ts):Ng b H' l ts:=⟨h.1,s _ _ h.2.1 h.1,h.2.2⟩
theorem cut1(xs:List V)(h:1<=xs.length):cutV xs (some 1) none=xs.drop 1:=by
 have e:HT.sIx xs.length 0 (some 1)=1:=by simp[HT.sIx];omega
 have e2:HT.sIx xs.length xs.length none=xs.length:=by simp[HT.sIx]
 unfold cutV;rw[e,e2,aO (by rw[gR];exact Nat.le_refl _)]
theorem Names.of{ts:List Str}{s:Str}(h1:(s::ts).length<=13)(h2:(s::ts).Nodup)(h3:∀t∈s::ts,Nm t):Names ts s:=by rw[cu]at h2;exact⟨h2.2,λt ht=>h3 t (av _ ht),by simp at h1;omega,h3 s aB,h2.1⟩
def Made{R:Type}(b:Addr)(H:Hp)(row:R->List V)(G:Str->R->Prop)(tl:List Str)(i:Nat)(ys:List V):Prop:=∃(as:List Addr)(rs:List R),ys=as.map V.ref/\as.length=i/\rs.length=i/\(∀(j:Nat)a r,as[j]?=some a->rs[j]?=some r->a≠b/\H a=some (.tup (row r)))/\∀(j:Nat)r t,rs[j]?=some r->tl[j]?=some t->G t r
theorem Made.nil{R:Type}{b:Addr}{H:Hp}{row:R->List V}{G:Str->R->Prop}{tl:List Str}:Made b H row G tl 0 []:=⟨[],[],rfl,rfl,rfl,λj a r h=>by simp at h,λj r t h=>by simp at h⟩
theorem Made.len{R:Type}{b:Addr}{H:Hp}{row:R->List V}{G:Str->R->Prop}{tl:List Str}{i:Nat}{ys:List V}(m:Made b H row G tl i ys):ys.length<=i:=by obtain⟨as,rs,rfl,l1,_⟩:=m;rw[lm,l1];exact Nat.le_refl _
theorem MW{α:Type}{l:List α}{x y:α}{j i:Nat}(hl:l.length=i)(h:(l++[x])[j]?=some y):l[j]?=some y\/(j=i/\x=y):=by
 rcases Nat.lt_or_ge j l.length with h1|h1
 ·rw[a8 h1]at h;exact .inl h
 ·rw[bD h1]at h;rcases Nat.eq_zero_or_pos (j-l.length)with h2|h2
  ·rw[h2]at h;exact .inr ⟨by omega,by simpa using h⟩
  ·rw[fP (by simp;omega)]at h;cases h
theorem Made.step{R:Type}{b:Addr}{H H2:Hp}{row:R->List V}{G:Str->R->Prop}{tl:List Str}{i:Nat}{ys:List V}{a:Addr}{r:R}{t:Str}(m:Made b H row G tl i ys)(s:Zg b H H2)(na:a≠b)(ha:H2 a=some (.tup (row r)))(ht:tl[i]?=some t)(g:G t r):Made b H2 row G tl (i+1) (ys++[.ref a]):=by
 obtain⟨as,rs,rfl,l1,l2,r1,r2⟩:=m;refine⟨as++[a],rs++[r],by simp,by simp[l1],by simp[l2],λj a' r' h1 h2=>?_,λj r' t' h1 h2=>?_⟩
 ·rcases MW l1 h1 with h1|⟨e,rfl⟩
  ·have hj:j<i:=by rw[<-l1];exact(aj.mp h1).1
   rcases MW l2 h2 with h2|⟨e,rfl⟩
   ·obtain⟨n,e⟩:=r1 j a' r' h1 h2;exact⟨n,s _ _ e n⟩
   ·omega
  ·rcases MW l2 h2 with h2|⟨e,rfl⟩
   ·have hj:j<i:=by rw[<-l2];exact(aj.mp h2).1
    omega
   ·exact⟨na,ha⟩
 ·rcases MW l2 h1 with h1|⟨e,rfl⟩
  ·exact r2 j r' t' h1 h2
  ·rw[e,ht]at h2;cases h2;exact g
theorem Made.done{R:Type}{b:Addr}{H:Hp}{row:R->List V}{G:Str->R->Prop}{tl:List Str}{ys:List V}(m:Made b H row G tl tl.length ys){l:Addr}(hb:Zz H b)(hl:H l=none):∃rs:List R,RowsAt b (upd H l (.lst ys)) l (rs.map row)/\rs.length=tl.length/\∀(j:Nat)r t,rs[j]?=some r->tl[j]?=some t->G t r:=by obtain⟨as,rs,rfl,l1,l2,r1,r2⟩:=m;refine⟨rs,⟨hb.ne hl,as,Zd,by rw[lm,l1,l2],λi a r h1 h2=>?_⟩,l2,r2⟩;rw[ah]at h2;obtain⟨r',h2',rfl⟩:=a9.mp h2;obtain⟨n,e⟩:=r1 i a r' h1 h2';exact⟨n,by rw[Zh (Zk e hl)];exact e⟩
theorem RK{K:aa}{H:Hp}{l:Addr}{ts:List Str}(h:H l=some (.lst (ts.map V.str))){i:Nat}(hi:i<ts.length):(Itl K l).go i H:=⟨_,.str ts[i],SqL.of h,by simp[hi]⟩
theorem Np{K:aa}{H:Hp}{l:Addr}{ts:List Str}(h:H l=some (.lst (ts.map V.str))):(Itl K l).stop ts.length H:=⟨_,SqL.of h,by simp⟩
theorem Nq{K:aa}{H H':Hp}{l:Addr}{ts:List Str}(h:H l=some (.lst (ts.map V.str))){i:Nat}{x:V}(hi:i<ts.length)(y:(Itl K l).yld i H x H'):H'=H/\x=.str ts[i]:=by obtain⟨rfl,q⟩:=y;have:=q _ (SqL.of h);rw[ah,gE hi]at this;exact⟨rfl,(ar this).symm⟩
theorem Yo:FnScope [q_b,"_law_turns",q_p,q_s,"_law_names_here","_law_rides","_law_ways","_law_groups"] [q_b] (Zb T.f__law_world):=scO
noncomputable def XZ:Scope:=csx [(".0",.local),("_law_k",.local),("_law_names",.globalImplicit),("_law_take",.globalImplicit),("int",.globalImplicit),(q_b,.free)]
theorem Gg:CompScope XZ (Zb T.f__law_world):=⟨rfl,by decide +kernel,by decide +kernel,by decide +kernel⟩
theorem Gi:(["_law_k",q_b]:List Str).Nodup:=by decide +kernel
theorem Gh:CompNames [q_b,"_law_turns",q_p,q_s,"_law_names_here","_law_rides","_law_ways","_law_groups"] XZ ["_law_k",q_b] [none,some 0]:=.mk' (by decide +kernel)
noncomputable def XY:Scope:=csx [(".0",.local),("_law_name",.local),("_law_ride",.globalImplicit),(q_b,.free),(q_p,.free),("_law_turns",.free)]
theorem Gd:CompScope XY (Zb T.f__law_world):=⟨rfl,by decide +kernel,by decide +kernel,by decide +kernel⟩
theorem Gf:(["_law_name",q_b,q_p,"_law_turns"]:List Str).Nodup:=by decide +kernel
theorem Ge:CompNames [q_b,"_law_turns",q_p,q_s,"_law_names_here","_law_rides","_law_ways","_law_groups"] XY ["_law_name",q_b,q_p,"_law_turns"] [none,some 0,some 2,some 1]:=.mk' (by decide +kernel)
noncomputable def XX:Scope:=csx [(".0",.local),("_law_name",.local),("_law_way",.globalImplicit),(q_b,.free),(q_p,.free)]
theorem U9:CompScope XX (Zb T.f__law_world):=⟨rfl,by decide +kernel,by decide +kernel,by decide +kernel⟩
theorem Gb:(["_law_name",q_b,q_p]:List Str).Nodup:=by decide +kernel
theorem Ga:CompNames [q_b,"_law_turns",q_p,q_s,"_law_names_here","_law_rides","_law_ways","_law_groups"] XX ["_law_name",q_b,q_p] [none,some 0,some 2]:=.mk' (by decide +kernel)
noncomputable def XW:Scope:=csx [(".0",.local),("_law_name",.local),("_law_group",.globalImplicit),(q_b,.free),(q_p,.free),("_law_turns",.free)]
theorem U6:CompScope XW (Zb T.f__law_world):=⟨rfl,by decide +kernel,by decide +kernel,by decide +kernel⟩
theorem U8:(["_law_name",q_b,q_p,"_law_turns"]:List Str).Nodup:=by decide +kernel
theorem U7:CompNames [q_b,"_law_turns",q_p,q_s,"_law_names_here","_law_rides","_law_ways","_law_groups"] XW ["_law_name",q_b,q_p,"_law_turns"] [none,some 0,some 2,some 1]:=.mk' (by decide +kernel)
theorem W3(B:∀x∈Blts,mg x=none)(CT:Can P w K mg base 1 "_law_take" [q_b,"_law_many"] Xy)(CN:Can P w K mg base 2 "_law_names" [q_b,"_law_many"] P7)(CP:Can P w K mg base 3 "_law_places" [q_b] QP)(CR:Can P w K mg base 3 "_law_ride" [q_b,"_law_name","_law_turns",q_p] P9)(CW:Can P w K mg base 3 "_law_way" [q_b,"_law_name",q_p] KN)(CG:Can P w K mg base 2 "_law_group" [q_b,"_law_name","_law_turns",q_p] Nu)(D:Df K mg "_law_world" T.f__law_world [q_b]):Can P w K mg base 4 "_law_world" [q_b] Tc:=by
 refine D.cn Yo λf cdv A outer s H vs Q E hr h=>?_;obtain⟨b,rfl,hb,k⟩:=h;refine⟨_,(Ze (Z9 (i:=1) Yo.nd rfl (cQ rfl) (Zv ZT Zc (cn CT hr (Za (pv 0) (Za (il K (ZA (Za Zc (Za Zc Zf))) (Y2 MF rfl (bm B) QA (Za (JY YR (cn CT hr (Za (pv 0) (Za Zc Zf))) Zc (ZC _)) Zf))) Zf))))) (Ze (Jt (cn CP hr (Za (pv 0) Zf)) (Ma rfl (Zl (VV (i:=2) Yo.nd rfl (cQ rfl)) (Zl (nmT 3 Yo.nd) ZL)))) (Ze (YD (i:=4) Yo.nd rfl (bw rfl) (scope:=XZ) (N:=["_law_k",q_b]) (cp:=[none,some 0]) rfl Gg Gh (Yn rfl (bm B) (Za Zc Zf)) (λC s H ex pn=>(nmT 0 Gi)) (λC s H ex pn=>ZV) (λC s H ex pn=>(cn CN hr (Za (pv 1) (Za (Zv ZT Zc (cn CT hr (Za (pv 1) (Za (il K (ZA (Za Zc (Za Zc Zf))) (Y2 MF rfl (bm B) QA (Za (JY YR (cn CT hr (Za (pv 1) (Za Zc Zf))) Zc (ZC _)) Zf))) Zf)))) Zf))))) (Ze (YD (i:=5) Yo.nd rfl (bw rfl) (scope:=XY) (N:=["_law_name",q_b,q_p,"_law_turns"]) (cp:=[none,some 0,some 2,some 1]) rfl Gd Ge (Z3 (YQ (r:=rSlL K) JU (il K (pv 4) Zc) (Xr Zc) Xs)) (λC s H ex pn=>(nmT 0 Gf)) (λC s H ex pn=>ZV) (λC s H ex pn=>(cn CR hr (Za (pv 1) (Za (pv 0) (Za (pv 3) (Za (pv 2) Zf))))))) (Ze (YD (i:=6) Yo.nd rfl (bw rfl) (scope:=XX) (N:=["_law_name",q_b,q_p]) (cp:=[none,some 0,some 2]) rfl U9 Ga (Z3 (YQ (r:=rSlL K) JU (il K (pv 4) Zc) (Xr Zc) Xs)) (λC s H ex pn=>(nmT 0 Gb)) (λC s H ex pn=>ZV) (λC s H ex pn=>(cn CW hr (Za (pv 1) (Za (pv 0) (Za (pv 2) Zf)))))) (Ze (YD (i:=7) Yo.nd rfl (bw rfl) (scope:=XW) (N:=["_law_name",q_b,q_p,"_law_turns"]) (cp:=[none,some 0,some 2,some 1]) rfl U6 U7 (Z3 (YQ (r:=rSlL K) JU (il K (pv 4) Zc) (Xr Zc) Xs)) (λC s H ex pn=>(nmT 0 U8)) (λC s H ex pn=>ZV) (λC s H ex pn=>(cn CG hr (Za (pv 1) (Za (pv 0) (Za (pv 3) (Za (pv 2) Zf))))))) (Zi (Zo (ZA (Za (ZA (Za (pv 1) (Za (pv 2) (Za (pv 5) (Za (pv 6) (Za (pv 7) Zf)))))) (Za (ZA (Za (pv 3) (Za (il K (il K (pv 4) Zc) Zc) (Za (il K (il K (pv 4) Zc) Zc) (Za (il K (il K (pv 4) Zc) Zc) Zf))))) Zf))))))))))),?_⟩;refine tq λD1 hk1=>?_;refine⟨_,rfl,zl,λl2 hl2=>?_⟩;have n2:=hb.ne hl2;refine tkC (hb.new hl2) (λr2 H2 h02 h12 B2 S2=>?_);have el2:=S2 _ _ Zd n2;have S02:=((Zg.refl b H).new' (o:=.lst [.int 6,.int 50]) hl2).trans S2;refine⟨rfl,.inr ⟨_,rfl,l2,_,_,_,rfl,rfl,SqL.of el2,SN,b,_,rfl,B2,?_,?_,λtu H3 h03 h13 B3 S3=>?_⟩⟩
 ·exact Int.lt_of_lt_of_le (by decide:(0:Int)<6) (G2 (by decide) (by decide) _)
 ·exact Yg (Int.le_trans (by decide:(0:Int)<=6) (G2 (by decide) (by decide) _)) (G1 (by decide) (by decide) _)
 have h50:tu<50:=Int.lt_of_lt_of_le h13 (G1 (by decide) (by decide) _);clear h13;refine⟨_,_,rfl,rfl,?_⟩;have S03:=S02.trans S3;clear S02 S2 S3 el2 hl2;have hn1:1<=(1+tu):=by omega
 have hn2:(1+tu)<=50:=by omega
 refine hk1 _ _ (tq λD2 hk2=>?_);refine⟨_,rfl,b,rfl,B3,λH4 q l1 s0 ps B4 S4 hq nq hpl gp s0n s0p=>?_⟩;refine⟨q,_,rfl,SqL.of hq,rfl,_,_,rfl,_,_,rfl,rfl,?_⟩;have S04:=S03.trans S4;clear S03 S4 B3;refine hk2 _ _ (tq λD3 hk3=>?_);refine⟨3,rfl,by decide,by decide,ZI (J:=Itr 0 3) 3 (by decide)
  (λi ys τ H'=>Zz H' b/\Zg b H H'/\RowsAt b H' l1 (ps.map plRow)/\(∃ls:List (Addr×List Str),ys=ls.map (λp=>V.ref p.1)/\ls.length=i/\∀p∈ls,Ng b H' p.1 p.2)/\∃v,τ=[v,some (.ref b)]) ⟨B4,S04,hpl,⟨[],rfl,rfl,by simp⟩,none,rfl⟩ (λi ys τ H' p=>?_) (λi ys τ H' hi p=>hi) (λys τ H' p=>Nat.le_refl _) (λi ys τ H' x' H3 hi p yl=>?_) (λys τ H5 p ln hln=>?_)⟩
 ·obtain⟨_,_,_,⟨ls,rfl,e,_⟩,_⟩:=p;rw[lm,e];exact Nat.le_refl _
 ·obtain⟨bx,sm,hpl5,⟨ls,rfl,e,ho⟩,v,rfl⟩:=p;obtain⟨rfl,rfl⟩:=yl;refine⟨_,rfl,_,rfl,zl,λl2 hl2=>?_⟩;have n2:=bx.ne hl2;refine tkC (bx.new hl2) (λr2 H2 h02 h12 B2 S2=>?_);have el2:=S2 _ _ Zd n2;have S12:=((Zg.refl b H3).new' (o:=.lst [.int 5,.int 13]) hl2).trans S2;refine⟨rfl,.inr ⟨_,rfl,l2,_,_,_,rfl,rfl,SqL.of el2,SN,b,_,rfl,B2,?_,?_,λmn H6 h06 h16 B6 S6=>?_⟩⟩
  ·exact Int.lt_of_lt_of_le (by decide:(0:Int)<5) (G2 (by decide) (by decide) _)
  ·exact Yg (Int.le_trans (by decide:(0:Int)<=5) (G2 (by decide) (by decide) _)) (G1 (by decide) (by decide) _)
  have h13:mn<13:=Int.lt_of_lt_of_le h16 (G1 (by decide) (by decide) _);refine⟨_,_,rfl,rfl,b,1+mn,rfl,B6,by omega,by omega,λH7 l7 ts B7 S7 hl7 nl7 hlen hnd hnm=>?_⟩;have S17:=(S12.trans S6).trans S7;refine⟨B7,sm.trans S17,hpl5.same S17,⟨ls++[(l7,ts)],by rw[aE];rfl,by simp[e],λp hp=>?_⟩,_,rfl⟩;rcases aP.mp hp with hp|hp
  ·exact(ho p hp).same S17
  ·rw[aQ]at hp;subst hp;exact⟨nl7,hl7,by show 1<=ts.length;omega,by show ts.length<=13;omega,hnd,hnm⟩
 ·obtain⟨B5,S05,hpl5,⟨ls,rfl,e,ho⟩,v,rfl⟩:=p;match ls,e,ho with
 |[(a1,t1),(a2,t2),(a3,t3)],_,ho=>
  have N1:=ho (a1,t1) (by simp);have N2:=ho (a2,t2) (by simp);have N3:=ho (a3,t3) (by simp);clear ho;dsimp only[List.map]at hln ⊢;have nln:=B5.ne hln;have B6:=B5.new (o:=.lst [.ref a1,.ref a2,.ref a3]) hln;have S56:Zg b H5 (upd H5 ln (.lst [.ref a1,.ref a2,.ref a3])):=(Zg.refl b H5).new' hln;have eln:upd H5 ln (.lst [.ref a1,.ref a2,.ref a3]) ln=some (.lst [.ref a1,.ref a2,.ref a3]):=Zd;generalize upd H5 ln (.lst [.ref a1,.ref a2,.ref a3])=H6 at B6 S56 eln ⊢;have S06:=S05.trans S56;have N1:=N1.same S56;have N2:=N2.same S56;have N3:=N3.same S56;have hpl6:=hpl5.same S56;clear S56 S05 hpl5 B5 hln;refine hk3 _ _ (tq λD4 hk4=>?_);obtain⟨na1,ea1,c1,c1',nd1,nm1⟩:=id N1;obtain⟨h1,u1,rfl⟩:∃h u,t1=h::u:=by
   cases t1 with
  |nil=>simp at c1
  |cons h u=>exact⟨h,u,rfl⟩
  refine ixL 0 eln rfl ⟨_,rfl,a1,_,rfl,SqL.of ea1,λx1 hx1=>?_⟩;rw[cut1 _ (by rw[lm];exact c1)];have nx1:=B6.ne hx1;refine⟨x1,rfl,⟨_,SqL.of Zd⟩,?_⟩;have ex1:upd H6 x1 (.lst ((h1::u1).map V.str |>.drop 1)) x1=some (.lst (u1.map V.str)):=Zd
  have Bx1:=B6.new (o:=.lst ((h1::u1).map V.str |>.drop 1)) hx1
  have Sx1:Zg b H6 (upd H6 x1 (.lst ((h1::u1).map V.str |>.drop 1))):=(Zg.refl b H6).new' hx1
  generalize upd H6 x1 (.lst ((h1::u1).map V.str |>.drop 1))=X1 at ex1 Bx1 Sx1 ⊢
  have len1:u1.length<=12:=by simp at c1';omega
  refine ZI (J:=Itl K x1) u1.length (Nat.le_trans len1 (by decide)) (λi ys τ H'=>Zz H' b/\Zg b X1 H'/\Made b H' rdRow (λt(r:Rd)=>r.nm=t/\GoodRd (1+tu) ps r) u1 i ys/\∃v,τ=[v,some (.ref b),some (.ref l1),some (.int (1+tu))]) ⟨Bx1,Zg.refl b _,Made.nil,none,rfl⟩ (λi ys τ H' p=>p.2.2.1.len) (λi ys τ H' hi p=>RK (p.2.1 _ _ ex1 nx1) hi) (λys τ H' p=>Np (p.2.1 _ _ ex1 nx1)) (λi ys τ H' x' H3 hi p yl=>?_) (λys τ H70 p lr hlr=>?_)
  ·obtain⟨bx,sm,md,v,rfl⟩:=p;obtain⟨rfl,rfl⟩:=Nq (sm _ _ ex1 nx1) hi yl;exact⟨_,rfl,_,rfl,_,rfl,_,rfl,b,l1,_,(1+tu),ps,rfl,bx,hpl6.same (Sx1.trans sm),gp,hn1,hn2,λH4 q r B4 S4 hq nq e g=>⟨B4,sm.trans S4,md.step S4 nq hq (gE hi) ⟨e,g⟩,_,rfl⟩⟩
  obtain⟨bx1,sm1,md1,v,rfl⟩:=p;obtain⟨rs,R1,lr1,g1⟩:=md1.done bx1 hlr;have B7:=bx1.new (o:=.lst ys) hlr;have S1_:Zg b H6 (upd H70 lr (.lst ys)):=(Sx1.trans sm1).new' hlr;generalize upd H70 lr (.lst ys)=H7 at B7 S1_ R1 ⊢;have S07:=S06.trans S1_;have hpl7:=hpl6.same S1_;have eln:=S1_ _ _ eln nln;have N2:=N2.same S1_;have N3:=N3.same S1_;clear Sx1 sm1 ex1 bx1 Bx1 ea1;refine hk4 _ _ (tq λD5 hk5=>?_);obtain⟨na2,ea2,c2,c2',nd2,nm2⟩:=id N2;obtain⟨h2,u2,rfl⟩:∃h u,t2=h::u:=by
   cases t2 with
  |nil=>simp at c2
  |cons h u=>exact⟨h,u,rfl⟩
  refine ixL 1 eln rfl ⟨_,rfl,a2,_,rfl,SqL.of ea2,λx2 hx2=>?_⟩;rw[cut1 _ (by rw[lm];exact c2)];have nx2:=B7.ne hx2;refine⟨x2,rfl,⟨_,SqL.of Zd⟩,?_⟩;have ex2:upd H7 x2 (.lst ((h2::u2).map V.str |>.drop 1)) x2=some (.lst (u2.map V.str)):=Zd
  have Bx2:=B7.new (o:=.lst ((h2::u2).map V.str |>.drop 1)) hx2
  have Sx2:Zg b H7 (upd H7 x2 (.lst ((h2::u2).map V.str |>.drop 1))):=(Zg.refl b H7).new' hx2
  generalize upd H7 x2 (.lst ((h2::u2).map V.str |>.drop 1))=X2 at ex2 Bx2 Sx2 ⊢
  have len2:u2.length<=12:=by simp at c2';omega
  refine ZI (J:=Itl K x2) u2.length (Nat.le_trans len2 (by decide)) (λi ys τ H'=>Zz H' b/\Zg b X2 H'/\Made b H' wyRow (λt(r:Wy)=>r.nm=t/\GoodWy ps r) u2 i ys/\∃v,τ=[v,some (.ref b),some (.ref l1)]) ⟨Bx2,Zg.refl b _,Made.nil,none,rfl⟩ (λi ys τ H' p=>p.2.2.1.len) (λi ys τ H' hi p=>RK (p.2.1 _ _ ex2 nx2) hi) (λys τ H' p=>Np (p.2.1 _ _ ex2 nx2)) (λi ys τ H' x' H3 hi p yl=>?_) (λys τ H80 p lw hlw=>?_)
  ·obtain⟨bx,sm,md,v,rfl⟩:=p;obtain⟨rfl,rfl⟩:=Nq (sm _ _ ex2 nx2) hi yl;exact⟨_,rfl,_,rfl,_,rfl,b,l1,_,ps,rfl,bx,hpl7.same (Sx2.trans sm),gp,λH4 q r B4 S4 hq nq e g=>⟨B4,sm.trans S4,md.step S4 nq hq (gE hi) ⟨e,g⟩,_,rfl⟩⟩
  obtain⟨bx2,sm2,md2,v,rfl⟩:=p;obtain⟨ws,R2,lr2,g2⟩:=md2.done bx2 hlw;have B8:=bx2.new (o:=.lst ys) hlw;have S2_:Zg b H7 (upd H80 lw (.lst ys)):=(Sx2.trans sm2).new' hlw;generalize upd H80 lw (.lst ys)=H8 at B8 S2_ R2 ⊢;have S08:=S07.trans S2_;have hpl8:=hpl7.same S2_;have eln:=S2_ _ _ eln nln;have N3:=N3.same S2_;have R1:=R1.same S2_;clear Sx2 sm2 ex2 bx2 Bx2 ea2;refine hk5 _ _ (tq λD6 hk6=>?_);obtain⟨na3,ea3,c3,c3',nd3,nm3⟩:=id N3;obtain⟨h3,u3,rfl⟩:∃h u,t3=h::u:=by
   cases t3 with
  |nil=>simp at c3
  |cons h u=>exact⟨h,u,rfl⟩
  refine ixL 2 eln rfl ⟨_,rfl,a3,_,rfl,SqL.of ea3,λx3 hx3=>?_⟩;rw[cut1 _ (by rw[lm];exact c3)];have nx3:=B8.ne hx3;refine⟨x3,rfl,⟨_,SqL.of Zd⟩,?_⟩;have ex3:upd H8 x3 (.lst ((h3::u3).map V.str |>.drop 1)) x3=some (.lst (u3.map V.str)):=Zd
  have Bx3:=B8.new (o:=.lst ((h3::u3).map V.str |>.drop 1)) hx3
  have Sx3:Zg b H8 (upd H8 x3 (.lst ((h3::u3).map V.str |>.drop 1))):=(Zg.refl b H8).new' hx3
  generalize upd H8 x3 (.lst ((h3::u3).map V.str |>.drop 1))=X3 at ex3 Bx3 Sx3 ⊢
  have len3:u3.length<=12:=by simp at c3';omega
  refine ZI (J:=Itl K x3) u3.length (Nat.le_trans len3 (by decide)) (λi ys τ H'=>Zz H' b/\Zg b X3 H'/\Made b H' grRow (λt(r:Gr)=>GoodGr (1+tu) ps t r) u3 i ys/\∃v,τ=[v,some (.ref b),some (.ref l1),some (.int (1+tu))]) ⟨Bx3,Zg.refl b _,Made.nil,none,rfl⟩ (λi ys τ H' p=>p.2.2.1.len) (λi ys τ H' hi p=>RK (p.2.1 _ _ ex3 nx3) hi) (λys τ H' p=>Np (p.2.1 _ _ ex3 nx3)) (λi ys τ H' x' H3 hi p yl=>?_) (λys τ H90 p lg hlg=>?_)
  ·obtain⟨bx,sm,md,v,rfl⟩:=p;obtain⟨rfl,rfl⟩:=Nq (sm _ _ ex3 nx3) hi yl;exact⟨_,rfl,_,rfl,_,rfl,_,rfl,b,l1,_,(1+tu),ps,rfl,bx,Nat.le_trans (by have:=(nm3 u3[i] (av _ (aG hi))).2.1;rw[ZU]at this;exact this) (by decide),hpl8.same (Sx3.trans sm),gp,hn1,hn2,λH4 q r B4 S4 hq nq g=>⟨B4,sm.trans S4,md.step S4 nq hq (gE hi) g,_,rfl⟩⟩
  obtain⟨bx3,sm3,md3,v,rfl⟩:=p;obtain⟨gs,R3,lr3,g3⟩:=md3.done bx3 hlg;have B9:=bx3.new (o:=.lst ys) hlg;have S3_:Zg b H8 (upd H90 lg (.lst ys)):=(Sx3.trans sm3).new' hlg;generalize upd H90 lg (.lst ys)=H9 at B9 S3_ R3 ⊢;have S09:=S08.trans S3_;have hpl9:=hpl8.same S3_;have eln:=S3_ _ _ eln nln;have R1:=R1.same S3_;have R2:=R2.same S3_;have N1:=N1.same ((S1_.trans S2_).trans S3_);have N2:=N2.same (S2_.trans S3_);have N3:=N3.same S3_;clear Sx3 sm3 ex3 bx3 Bx3 ea3;refine hk6 _ _ ?_;refine⟨_,rfl,_,rfl,_,rfl,_,rfl,_,rfl,zl,λpw hpw=>?_⟩;have npw:=B9.ne hpw;have Bp:=B9.new (o:=.lst [.int (1+tu),.ref l1,.ref lr,.ref lw,.ref lg]) hpw;have Sp:Zg b H9 (upd H9 pw (.lst [.int (1+tu),.ref l1,.ref lr,.ref lw,.ref lg])):=(Zg.refl b H9).new' hpw;have ep:upd H9 pw (.lst [.int (1+tu),.ref l1,.ref lr,.ref lw,.ref lg]) pw=some (.lst [.int (1+tu),.ref l1,.ref lr,.ref lw,.ref lg]):=Zd;generalize upd H9 pw (.lst [.int (1+tu),.ref l1,.ref lr,.ref lw,.ref lg])=Hp at Bp Sp ep ⊢;have elnp:=Sp _ _ eln nln;have at0:∀(x:V)(l:List V),atI (x::l) 0=some x:=λx l=>Zr (xs:=x::l) (j:=0) rfl;refine⟨_,rfl,ixL 0 elnp rfl ⟨a1,_,0,_,rfl,rfl,SqL.of (Sp _ _ N1.2.1 N1.1),at0 _ _,ixL 1 elnp rfl ⟨a2,_,0,_,rfl,rfl,SqL.of (Sp _ _ N2.2.1 N2.1),at0 _ _,ixL 2 elnp rfl ⟨a3,_,0,_,rfl,rfl,SqL.of (Sp _ _ N3.2.1 N3.1),at0 _ _,zl,λps4 hps4=>?_⟩⟩⟩⟩;have nps4:=Bp.ne hps4;refine⟨zl,λqq hqq=>?_⟩;have Bs:=Bp.new (o:=.lst [.str s0,.str h1,.str h2,.str h3]) hps4;have Ss:Zg b Hp (upd Hp ps4 (.lst [.str s0,.str h1,.str h2,.str h3])):=(Zg.refl b Hp).new' hps4;have Sq:=(Sp.trans Ss).new' (o:=.lst [.ref pw,.ref ps4]) hqq;have st4:(upd (upd Hp ps4 (.lst [.str s0,.str h1,.str h2,.str h3])) qq (.lst [.ref pw,.ref ps4])) ps4=some (.lst [.str s0,.str h1,.str h2,.str h3]):=by rw[Zh (Zk Zd hqq)];exact Zd
  have fst:∀{R:Type}{f:R->Str}{rs:List R}{u:List Str},rs.length=u.length->(∀(j:Nat)r t,rs[j]?=some r->u[j]?=some t->f r=t)->rs.map f=u:=λ{R f rs u}hl hf=>by apply List.ext_getElem (by simp[hl]);intro i h1 h2;simp only[fw];exact hf i _ _ (gE (by simpa using h1)) (gE h2)
  have f1:rs.map (·.nm)=u1:=fst lr1 λj r t a c=>(g1 j r t a c).1;have f2:ws.map (·.nm)=u2:=fst lr2 λj r t a c=>(g2 j r t a c).1;have all:∀{R:Type}{rs:List R}{u:List Str}{G:R->Prop},rs.length=u.length->(∀(j:Nat)r t,rs[j]?=some r->u[j]?=some t->G r)->∀r∈rs,G r:=λ{R rs u G}hl hf r hr=>by
   obtain⟨j,hj⟩:=bh.mp hr;have:j<u.length:=by rw[<-hl];exact(aj.mp hj).1
   exact hf j r _ hj (gE this)
  refine k _ qq pw ps4 l1 lr lw lg ⟨(1+tu),ps,rs,ws,gs⟩ u3 s0 h1 h2 h3 (Bs.new hqq) (S09.trans Sq) (Bs.ne hqq) Zd nps4 st4 ⟨npw,?_,hpl9.same Sq,R1.same Sq,R2.same Sq,R3.same Sq⟩ ?_ ?_
  ·exact((Zg.refl b Hp).new' hps4).new' hqq _ _ ep npw
  ·exact⟨hn1,hn2,gp,all lr1 λj r t a c=>(g1 j r t a c).2,all lr2 λj r t a c=>(g2 j r t a c).2,lr3,λi c g h1 h2=>g3 i g c h2 h1⟩
  ·refine⟨⟨s0n,s0p⟩,?_,?_,Names.of c3' nd3 nm3⟩
   ·show Names (rs.map (·.nm)) h1;rw[f1];exact Names.of c1' nd1 nm1
   ·show Names (ws.map (·.nm)) h2;rw[f2];exact Names.of c2' nd2 nm2
end
theorem Qs{t:Str}(h:Nm t):∃c r,codes t=c::r/\c∈LET:=by
 obtain⟨h1,h2,h3⟩:=h;cases e:codes t with
|nil=>rw[e]at h1;simp at h1
|cons c r=>exact⟨c,r,rfl,h3 c (by rw[e];exact aB)⟩
theorem NK{t:Str}(h:Nm t):Z5 false (.str t)=true:=by
 obtain⟨c,r,e,hc⟩:=Qs h;obtain⟨h1,h2,h3⟩:=h;show K1.XO 8 (K1.codes K1.tNAME) (codes t)=true;unfold K1.XO K1.YI K1.lenB;rw[K1.Aa];simp only[Bool.and_eq_true,decide_eq_true_eq,bZ];refine⟨⟨⟨by omega,by omega⟩,λd hd=>?_⟩,?_⟩
 ·exact bp _ (bp _ (h3 d hd))
 ·rw[e];exact hc
theorem KJ:∀s∈sufs,(codes s).length<=3/\(∀c∈codes s,c∈LET++K1.FIG++[46])/\((codes s).head?.map λc=>decide (c∈LET))≠some true:=by decide +kernel
theorem FQ{t s:Str}(h:Nm t)(hs:s∈sufs):Z5 true (.str (t++s))=true:=by
 obtain⟨c,r,e,hc⟩:=Qs h;obtain⟨h1,h2,h3⟩:=h;obtain⟨s1,s2,_⟩:=KJ s hs;show K1.XO 12 (K1.codes K1.tGROUP) (codes (t++s))=true;unfold K1.XO K1.YI K1.lenB;rw[K1.Dk,Y5];simp only[Bool.and_eq_true,decide_eq_true_eq,bZ,ay];refine⟨⟨⟨by omega,by omega⟩,λd hd=>?_⟩,?_⟩
 ·rcases aP.mp hd with hd|hd
  ·exact bp _ (bp _ (h3 d hd))
  ·exact s2 d hd
 ·rw[e];exact hc
theorem Pm{t s:Str}(h:Nm t)(hs:s∈sufs):(codes (t++s)).takeWhile (λc=>decide (c∈LET))=codes t:=by
 obtain⟨_,_,h3⟩:=h;obtain⟨_,_,s3⟩:=KJ s hs;rw[Y5,List.takeWhile_append_of_pos (λc hc=>decide_eq_true (h3 c hc))];cases e:codes s with
|nil=>simp
|cons c r=>
  rw[e]at s3;have:decide (c∈LET)=false:=by simpa using s3
  rw[List.takeWhile_cons_of_neg (by rw[this];exact Bool.false_ne_true),aT]
theorem Ym{i lo hi:Int}(h1:lo<=i)(h2:i<=hi):K1.Zq (.int i) lo hi=true:=by show(decide (lo<=i)&&decide (i<=hi))=true;simp[h1,h2]
end WD
namespace L2
open PySem PySem.W PySem.Spec PyProof.Rows
section
variable {X:Cx}
def Hy:R2:=λx y H Q=>∃(a b:Addr)(xs ys:List V),x=.ref a/\y=.ref b/\H a=some (.tup xs)/\H b=some (.tup ys)/\xs.length+ys.length<=sizeLine /\(xs=[]->Q (.ref b) H)/\(ys=[]->Q (.ref a) H)/\(∀p,H p=none->Q (.ref p) (upd H p (.tup (xs++ys))))
theorem DR:OpR X (cJ .Add) Hy:=by
 intro pins s σ H x y v u Q I rx ry h;obtain⟨a,b,xs,ys,rfl,rfl,ha,hb,hz,q1,q2,q3⟩:=h;by_cases hx:xs=[]
 ·cases rx;cases ry;obtain⟨its,r1,p1,_⟩:=I.tuple (SqT.of ha);obtain⟨its2,r2,p2,_⟩:=I.tuple (SqT.of hb);obtain⟨⟨cls,dd,data,sl⟩,ho,hc,n,hd⟩:=id p1;obtain⟨⟨cls2,dd2,data2,sl2⟩,ho2,hc2,n2,hd2⟩:=id p2;simp only at hc hd hc2 hd2;subst hc hd hc2 hd2;have h0:its=[]:=r1.nil_iff.mpr hx;exact concat_meets ⟨_,ho,rfl⟩ ⟨_,ho2,rfl⟩ noFill_tuple_add seq_tuple_add fq eV (eQ _ _) (tuple_addW0 a b its.toArray its2.toArray n n2 dd dd2 sl sl2 (by simp[h0])) ⟨ho,ho2,⟨.ref b,H,I,rfl,q1 hx⟩⟩
 ·exact DQ pins s σ H _ _ v u Q I rx ry ⟨a,b,xs,ys,rfl,rfl,SqT.of ha,SqT.of hb,hx,hz,q2,λ_=>q3⟩
def rNil(neg:Bool)(K:aa):R2:=λx y H Q=>∃a b xs,x=.ref a/\y=.ref b/\SqL K H a xs/\H b=some (.lst [])/\Q (.bl (if neg then !decide (xs=[])else decide (xs=[]))) H
theorem Ln(hu:X.A.units+64<cLine):OpR X (bE .Eq) (rNil false X.K):=by
 intro pins s σ H x y v u Q I rx ry h;obtain⟨a,b,xs,rfl,rfl,ha,hb,q⟩:=h;cases rx;cases ry;obtain⟨its,rv,p1,_⟩:=I.list ha;obtain⟨_,its2,n2,rv2,_,e2⟩:=I.lstM hb;have h2:=rv2.zero;subst h2;have l2:s.heap.IsList b #[]:=⟨_,e2,rfl,_,rfl⟩;have hl:=rv.length;by_cases hx:xs=[]
 ·subst hx;have h1:=rv.zero;subst h1;refine SeqAt.RcAt.lists (A:=X.A) (s:=s) (e:=λ_=>true) p1.isList l2 rfl (by omega) (λj h1 h2=>by simp at h2) X.prog X.w X.xe (EP X pins σ Q) ⟨.bl true,H,I,rfl,?_⟩;simpa using q
 ·refine SeqAt.RcAt.lists_lengths (A:=X.A) (s:=s) p1.isList l2 ?_ (by omega) X.prog X.w X.xe (EP X pins σ Q) ⟨.bl false,H,I,rfl,?_⟩
  ·have:its.length≠0:=by rw[<-hl];intro z;exact hx (List.length_eq_zero_iff.mp z)
   simpa using λz=>hx (by subst z;simpa using hl)
  ·simpa[hx]using q
end
end L2
namespace L2
open PySem PySem.Spec PyProof.Rows
section
variable {X:Cx}
def rEqD:R2:=λx y H Q=>∃d e,Is H x d/\Is H y e/\cM d=true/\cM e=true/\Q (.bl (PyData.eqv d e)) H
theorem Fd(hu:X.A.units+64<cLine):OpR X (bE .Eq) rEqD:=by intro pins s σ H x y v u Q I rx ry h;obtain⟨d,e,h1,h2,s1,s2,q⟩:=h;obtain⟨as,r1⟩:=h1.reads I.hok rx;obtain⟨bs,r2⟩:=h2.reads I.hok ry;exact SeqAt.compareEq_shaped r1 r2 s1 s2 hu ⟨.bl _,H,I,rfl,q⟩
def rNeD:R2:=λx y H Q=>∃d e,Is H x d/\Is H y e/\cM d=true/\cM e=true/\Q (.bl (!PyData.eqv d e)) H
theorem R5(hu:X.A.units+64<cLine):OpR X (bE .NotEq) rNeD:=by intro pins s σ H x y v u Q I rx ry h;obtain⟨d,e,h1,h2,s1,s2,q⟩:=h;obtain⟨as,r1⟩:=h1.reads I.hok rx;obtain⟨bs,r2⟩:=h2.reads I.hok ry;exact SeqAt.compareNe_shaped r1 r2 s1 s2 hu ⟨.bl _,H,I,rfl,q⟩
end
end L2
namespace WD
open PySem L2 PySem.Spec PyProof.Rows TB
noncomputable def szJ:Nat->Nat
|1=>2|2=>6|3=>5|_=>4
noncomputable def ED:Nat->Nat
|1=>14|2=>80|3=>40|_=>300
noncomputable def gJ(j:Nat):Bool:=decide (j=4)
noncomputable abbrev Kv:=List (Key×V)
noncomputable def whyJ(j:Nat)(k1:Kv)(n pp:Int)(ys:List V):V:=match j with
|1=>Yh (at_ ys 1)
|2=>VC k1 n ys
|3=>wayW k1 ys
|_=>J2 k1 n pp ys
noncomputable def dueJ(j:Nat)(k1:Kv)(n pp:Int)(kvs:Kv)(r:Option (List V)):V:=if begR (gJ j) (szJ j) kvs r≠.non then begR (gJ j) (szJ j) kvs r else match r with
 |some ys=>whyJ j k1 n pp ys
 |none=>.str "form"
noncomputable def Va(j:Nat)(k1:Kv)(n:Int):Nat->Int->Kv->List (V×Option (List V))->Sum (Nat×V) Kv
|_,_,kvs,[]=>.inr kvs
|i,pp,kvs,(x,r)::rs=>if dueJ j k1 n pp kvs r≠.non then .inl (i,dueJ j k1 n pp kvs r)else match r with
 |some ys=>Va j k1 n (i+1) (pp+Yk ys) (putK kvs (.inr (nameOf ys)) (if j=1 then at_ ys 1 else x)) rs
 |none=>.inl (i,.str "form")
theorem V5{j:Nat}{k1:Kv}{n pp:Int}{kvs:Kv}{r:Option (List V)}(h:begR (gJ j) (szJ j) kvs r≠.non):dueJ j k1 n pp kvs r=begR (gJ j) (szJ j) kvs r:=by unfold dueJ;rw[if_pos h]
theorem Xu{j:Nat}{k1:Kv}{n pp:Int}{kvs:Kv}{ys:List V}(h:begR (gJ j) (szJ j) kvs (some ys)=.non):dueJ j k1 n pp kvs (some ys)=whyJ j k1 n pp ys:=by unfold dueJ;rw[if_neg (λz=>z h)]
theorem V3{j:Nat}{k1:Kv}{n:Int}{i:Nat}{pp:Int}{kvs:Kv}{x:V}{r:Option (List V)}{rs:List (V×Option (List V))}(h:dueJ j k1 n pp kvs r≠.non):Va j k1 n i pp kvs ((x,r)::rs)=.inl (i,dueJ j k1 n pp kvs r):=by unfold Va;rw[if_pos h]
theorem U4{j:Nat}{k1:Kv}{n:Int}{i:Nat}{pp:Int}{kvs:Kv}{x:V}{ys:List V}{rs:List (V×Option (List V))}(h:dueJ j k1 n pp kvs (some ys)=.non):Va j k1 n i pp kvs ((x,some ys)::rs)=Va j k1 n (i+1) (pp+Yk ys) (putK kvs (.inr (nameOf ys)) (if j=1 then at_ ys 1 else x)) rs:=by
 conv=>lhs;unfold Va
 rw[if_neg (λz=>z h)]
theorem NU{g:Bool}{m:Nat}{why:List V->V}{j:Nat}{k1:Kv}{n:Int}(hg:gJ j=g)(hm:szJ j=m)(hj:j≠1)(hw:∀pp ys,whyJ j k1 n pp ys=why ys):∀(rs:List (V×Option (List V)))(i:Nat)(pp:Int)(kvs:Kv),Yr g m why i kvs rs=Va j k1 n i pp kvs rs
|[],_,_,_=>rfl
|(x,r)::rs,i,pp,kvs=>by
  subst hg hm;by_cases b:begR (gJ j) (szJ j) kvs r=.non
  ·cases r with
  |none=>cases b
  |some ys=>
    rw[G7 b];by_cases h:why ys=.non
    ·rw[if_neg (λz=>z h),U4 (by rw[Xu b,hw];exact h),if_neg hj];exact NU rfl rfl hj hw rs _ _ _
    ·rw[if_pos h,V3 (by rw[Xu b,hw];exact h),Xu b,hw]
  ·rw[Ny b,V3 (by rw[V5 b];exact b),V5 b]
theorem NW{k1:Kv}{n:Int}:∀(rs:List (V×Option (List V)))(i:Nat)(pp:Int)(kvs:Kv),Yl k1 n i pp kvs rs=Va 4 k1 n i pp kvs rs
|[],_,_,_=>rfl
|(x,r)::rs,i,pp,kvs=>by
  by_cases b:begR true 4 kvs r=.non
  ·cases r with
  |none=>cases b
  |some ys=>
    have b':begR (gJ 4) (szJ 4) kvs (some ys)=.non:=b;rw[MP b];by_cases h:J2 k1 n pp ys=.non
    ·rw[if_neg (λz=>z h),U4 (by rw[Xu b'];exact h),if_neg (by decide)];exact NW rs _ _ _
    ·rw[if_pos h,V3 (by rw[Xu b'];exact h),Xu b'];rfl
  ·have b':begR (gJ 4) (szJ 4) kvs r≠.non:=b;rw[V3 (by rw[V5 b'];exact b),V5 b'];unfold Yl;rw[if_pos b];rfl
theorem NV{k1:Kv}{n:Int}:∀(xs:List V)(rs:List (Option (List V)))(i:Nat)(pp:Int)(kvs:Kv),xs.length=rs.length->Yi i kvs rs=Va 1 k1 n i pp kvs (xs.zip rs)
|[],[],_,_,_,_=>rfl
|[],_::_,_,_,_,h=>by cases h
|_::_,[],_,_,_,h=>by cases h
|x::xs,r::rs,i,pp,kvs,hl=>by
  rw[eF];by_cases b:begR false 2 kvs r=.non
  ·obtain⟨ys,y,rfl,h2,h0⟩:=VR b;have b':begR (gJ 1) (szJ 1) kvs (some ys)=.non:=b;obtain⟨x0,room,rfl⟩:=len2 h2;have hx0:x0=.str y:=h0;subst hx0;conv=>lhs;unfold Yi
   rw[if_neg (λz=>z b)];dsimp only;by_cases h:Yh room=.non
   ·rw[if_neg (λz=>z h),U4 (by rw[Xu b'];exact h),if_pos rfl];exact NV xs rs _ _ _ (by simpa using hl)
   ·rw[if_pos h,V3 (by rw[Xu b'];exact h),Xu b'];rfl
  ·have b':begR (gJ 1) (szJ 1) kvs r≠.non:=b;rw[NB b,V3 (by rw[V5 b'];exact b),V5 b'];rfl
noncomputable def goJ(j:Nat)(k1:Kv)(n:Int):List V->List (Option (List V))->Sum (Nat×V) Kv:=match j with
|1=>goP
|2=>goR k1 n
|3=>goW k1
|_=>goG k1 n
theorem FP{j:Nat}(hj:j=1\/j=2\/j=3\/j=4){k1:Kv}{n:Int}{xs:List V}{rs:List (Option (List V))}(h:xs.length=rs.length):goJ j k1 n xs rs=Va j k1 n 0 0 [] (xs.zip rs):=by
 rcases hj with rfl|rfl|rfl|rfl
 ·exact NV xs rs _ _ _ h
 ·exact NU (j:=2) (k1:=k1) (n:=n) rfl rfl (by decide) (λ_ _=>rfl) _ _ _ _
 ·exact NU (j:=3) (k1:=k1) (n:=n) rfl rfl (by decide) (λ_ _=>rfl) _ _ _ _
 ·exact NW _ _ _ _
def Up(k1:Kv)(t1:List (List V)):Prop:=∀p∈t1,valV k1 (.inr (nameOf p))=some (at_ p 1)
structure PlDict(k1:Kv)(t1:List (List V)):Prop where
 has:Up k1 t1
 no:∀z,z∉t1.map nameOf->valV k1 (.inr z)=none
def Flat(y:V):Prop:=y=.non\/(∃i,y=.int i)\/∃z,y=.str z/\z.length<=1000
structure RowOk(j:Nat)(n:Int)(t1:List (List V))(ys:List V):Prop where
 len:ys.length=szJ j
 nm:Z5 (gJ j) (at_ ys 0)=true
 why:∀k1,(j≠1->Up k1 t1)->∀pp,(j=4->pp+Yk ys<=300)->whyJ j k1 n pp ys=.non
 ma:j=4->0<=Yk ys
 flat:∀y∈ys,Flat y
structure RowsOk(j:Nat)(n:Int)(t1 t:List (List V)):Prop where
 nd:(t.map nameOf).Nodup
 row:∀ys∈t,RowOk j n t1 ys
 sum:j=4->(t.map Yk).sum<=300
theorem Fg{g:Bool}{v:V}(h:Z5 g v=true):∃z,v=.str z:=by unfold Z5 at h;split at h<;>(unfold K1.UX at h;cases v<;>first|exact⟨_,rfl⟩|(exfalso;simp at h))
theorem RowOk.name{j:Nat}{n:Int}{t1:List (List V)}{ys:List V}(h:RowOk j n t1 ys):ys.getD 0 .non=.str (nameOf ys):=by obtain⟨z,e⟩:=Fg h.nm;have e':ys.getD 0 .non=.str z:=e;unfold nameOf;rw[e']
theorem KH:∀{l:List Int},(∀x∈l,0<=x)->0<=l.sum
|[],_=>by simp
|x::l,h=>by rw[fe];have:=h x aB;have:=KH (l:=l) λy hy=>h y (av _ hy);omega
theorem T7{j:Nat}{k1:Kv}{n:Int}{t1:List (List V)}(hk:j≠1->Up k1 t1){rest:List (V×Option (List V))}:∀(t:List (List V))(xs:List V)(i:Nat)(pp:Int)(kvs:Kv),xs.length=t.length->(t.map nameOf).Nodup->(∀ys∈t,RowOk j n t1 ys)->(j=4->pp+(t.map Yk).sum<=300)->(∀ys∈t,valV kvs (.inr (nameOf ys))=none) ->∃kvs',Va j k1 n i pp kvs (xs.zip (t.map some)++rest)=Va j k1 n (i+t.length) (pp+(t.map Yk).sum) kvs' rest/\(∀z,z∉t.map nameOf->valV kvs' (.inr z)=valV kvs (.inr z))/\(j=1->Up kvs' t)/\(∀ys∈t,valV kvs' (.inr (nameOf ys))≠none)/\(j≠1->∀(m:Nat)y x,t[m]?=some y->xs[m]?=some x->valV kvs' (.inr (nameOf y))=some x)
|[],[],i,pp,kvs,_,_,_,_,_=>⟨kvs,by simp,λ_ _=>rfl,λ_ p hp=>(by cases hp),λp hp=>(by cases hp),λ_ m y x h=>by simp at h⟩
|[],_::_,_,_,_,h,_,_,_,_=>by cases h
|_::_,[],_,_,_,h,_,_,_,_=>by cases h
|y::t,x::xs,i,pp,kvs,hl,nd,hr,hs,hn=>by
  have ry:=hr y aB;have ny:=hn y aB;have b:begR (gJ j) (szJ j) kvs (some y)=.non:=by show begV _ _ _ _=_;unfold begV;rw[if_neg (λz=>z ry.len),show Z5 (gJ j) (y.getD 0 .non)=true from ry.nm,if_neg (by decide),ry.name];rw[show ZM (.str (nameOf y)) kvs=false from by show(valV kvs _).isSome=false;rw[ny];rfl,if_neg (by decide)]
  rw[aL,cu]at nd;have ht:∀ys∈t,RowOk j n t1 ys:=λq hq=>hr q (av _ hq);have hs':j=4->pp+Yk y+(t.map Yk).sum<=300:=λe=>by have:=hs e;rw[aL,fe]at this;omega
  have hy:j=4->pp+Yk y<=300:=λe=>by
   have:=hs' e;have:=KH (l:=t.map Yk) λx hx=>by obtain⟨q,hq,rfl⟩:=aq.mp hx;exact(ht q hq).ma e
   omega
  have hw:whyJ j k1 n pp y=.non:=ry.why k1 hk pp hy;have yn:∀q∈t,nameOf q≠nameOf y:=λq hq e=>nd.1 (e▸aq.mpr ⟨q,hq,rfl⟩);obtain⟨kvs',e1,e2,e3,e4,e5⟩:=T7 hk (rest:=rest) t xs (i+1) (pp+Yk y) (putK kvs (.inr (nameOf y)) (if j=1 then at_ y 1 else x)) (by simpa using hl) nd.2 ht hs' (λq hq=>by rw[Nl,if_neg (λe=>yn q hq (by injection e))];exact hn q (av _ hq));have eY:valV kvs' (.inr (nameOf y))=some (if j=1 then at_ y 1 else x):=by rw[e2 _ nd.1,Nl,if_pos rfl]
  refine⟨kvs',?_,λz hz=>?_,λe p hp=>?_,λp hp=>?_,λnj m y' x' h1 h2=>?_⟩
  ·rw[aL,eF,gT,U4 (by rw[Xu b];exact hw),e1,aL,fe,aN];congr 1<;>omega
  ·rw[aL,aA,not_or]at hz;rw[e2 z hz.2,Nl,if_neg (λe=>hz.1 (by injection e))]
  ·rcases aA.mp hp with rfl|hp
   ·rw[eY,if_pos e]
   ·exact e3 e p hp
  ·rcases aA.mp hp with rfl|hp
   ·rw[eY];exact λz=>by cases z
   ·exact e4 p hp
  ·cases m with
  |zero=>simp at h1 h2;subst h1 h2;rw[eY,if_neg nj]
  |succ m=>exact e5 nj m y' x' (by simpa using h1) (by simpa using h2)
def Yy(j:Nat)(n:Int)(t1 t:List (List V)):Prop:=t.length<=ED j/\RowsOk j n t1 t
section
variable {j:Nat}{k1:Kv}{n:Int}{t1:List (List V)}
theorem JJ(hj:j=1\/j=2\/j=3\/j=4)(hk:j≠1->Up k1 t1){t:List (List V)}(h:Yy j n t1 t){xs:List V}(hx:xs.length=t.length):∃kvs,YN (ED j) (goJ j k1 n) (some (xs,t.map some))=.inr kvs/\(j=1->PlDict kvs t)/\(∀z,z∉t.map nameOf->valV kvs (.inr z)=none)/\(j≠1->∀(m:Nat)y x,t[m]?=some y->xs[m]?=some x->valV kvs (.inr (nameOf y))=some x):=by obtain⟨hl,nd,row,sum⟩:=h;obtain⟨kvs,e,e2,e3,_,e5⟩:=T7 (k1:=k1) (n:=n) hk (rest:=[]) t xs 0 0 [] hx nd row (λe=>by have:=sum e;omega) (λ_ _=>rfl);refine⟨kvs,?_,λe=>⟨e3 e,λz hz=>e2 z hz⟩,λz hz=>e2 z hz,e5⟩;unfold YN;simp only;rw[if_neg (by omega),FP hj (by rw[hx,lm])];rw[aT]at e;rw[e];rfl
end
structure Tb where
 n:Int
 t1:List (List V)
 t2:List (List V)
 t3:List (List V)
 t4:List (List V)
noncomputable def Tb.part(T:Tb):Nat->List (List V)
|1=>T.t1|2=>T.t2|3=>T.t3|_=>T.t4
structure OkTb(T:Tb):Prop where
 n0:1<=T.n
 n1:T.n<=50
 part:∀j,j=1\/j=2\/j=3\/j=4->Yy j T.n T.t1 (T.part j)
noncomputable def prs(xs:List V)(t:List (List V)):PR:=some (xs,t.map some)
structure RwDict(k:Kv)(t:List (List V))(xs:List V):Prop where
 at_:∀(m:Nat)y x,t[m]?=some y->xs[m]?=some x->valV k (.inr (nameOf y))=some x
 no:∀z,z∉t.map nameOf->valV k (.inr z)=none
structure TbDict(T:Tb)(x2 x3 x4:List V)(k:Ks):Prop where
 p:PlDict k.1 T.t1
 r:RwDict k.2.1 T.t2 x2
 w:RwDict k.2.2.1 T.t3 x3
 g:RwDict k.2.2.2 T.t4 x4
theorem KA{T:Tb}(o:OkTb T){x1 x2 x3 x4:List V}(l1:x1.length=T.t1.length)(l2:x2.length=T.t2.length)(l3:x3.length=T.t3.length)(l4:x4.length=T.t4.length):∃k,MI (.int T.n) (prs x1 T.t1) (prs x2 T.t2) (prs x3 T.t3) (prs x4 T.t4)=.inr k/\TbDict T x2 x3 x4 k:=by obtain⟨k1,e1,d,_⟩:=JJ (j:=1) (k1:=[]) (n:=T.n) (t1:=T.t1) (.inl rfl) (λh=>absurd rfl h) (o.part 1 (.inl rfl)) l1;have hd:=d rfl;obtain⟨k2,e2,_,n2,d2⟩:=JJ (j:=2) (k1:=k1) (n:=T.n) (t1:=T.t1) (.inr (.inl rfl)) (λ_=>hd.has) (o.part 2 (.inr (.inl rfl))) l2;obtain⟨k3,e3,_,n3,d3⟩:=JJ (j:=3) (k1:=k1) (n:=T.n) (t1:=T.t1) (.inr (.inr (.inl rfl))) (λ_=>hd.has) (o.part 3 (.inr (.inr (.inl rfl)))) l3;obtain⟨k4,e4,_,n4,d4⟩:=JJ (j:=4) (k1:=k1) (n:=T.n) (t1:=T.t1) (.inr (.inr (.inr rfl))) (λ_=>hd.has) (o.part 4 (.inr (.inr (.inr rfl)))) l4;refine⟨(k1,k2,k3,k4),?_,hd,⟨d2 (by decide),n2⟩,⟨d3 (by decide),n3⟩,⟨d4 (by decide),n4⟩⟩;unfold MI;simp only[show(decide (1<=T.n)&&decide (T.n<=50))=true from by simp[o.n0,o.n1],if_true];rw[show YN 14 goP (prs x1 T.t1)=.inr k1 from e1];simp only[named];rw[show YN 80 (goR k1 T.n) (prs x2 T.t2)=.inr k2 from e2];simp only[named];rw[show YN 40 (goW k1) (prs x3 T.t3)=.inr k3 from e3];simp only[named];rw[show YN 300 (goG k1 T.n) (prs x4 T.t4)=.inr k4 from e4]
end WD
namespace TB
open PySem L2 PySem.Spec PyProof.Rows WD
def P6(C Cn:Addr)(fld:Str):Sp:=λvs H Q E=>∃t x T fs d kvs,vs=[.ref t,x]/\Tab H C t fs/\fs.lookup fld=some (.ref d)/\H d=some (.dK kvs)/\Th H x T /\(∀z v,x=.str z->valV kvs (.inr z)=some v->Q v H)/\(ZM x kvs=false->∀H' dd,H dd=none->H' dd=some (XD dd [("name",x)])->(∀b,b≠dd->H' b=H b)->E (.ref Cn) (some dd) H')
section
variable {P:Program}{w:World}{K:aa}{mg:Str->Option Value}{base:Heap}{C Cn:Addr}
theorem RS:FnScope ["self","thing"] ["self","thing"] (Zb T.m_Table_is_ride):=scO
theorem Rv(Z:TCl K C)(D:DfM K C "is_ride" "Table.is_ride" T.m_Table_is_ride ["self","thing"])(CK:Can P w K mg base 1 "is_known" ["thing","names"] Qc):CanM P w K mg base CX0 2 C "is_ride" ["self","thing"] (Pp C "ride_by_name"):=by refine D.cn RS λf cdv A outer s H vs Q E hr h=>?_;obtain⟨t,x,T',fs,d,kvs,rfl,⟨⟨dx,ht⟩,_⟩,hl,hd,th,k⟩:=h;refine⟨_,Zi (Zo (Z2 CK hr rfl (Zj (pv 1) (Zj (ZD (pv 0) rfl) Zf)))),?_⟩;exact⟨_,rfl,_,rfl,t,C,dx,fs,_,rfl,ht,Z.cl,Z.na _ (by simp[fields]),hl,x,T',d,kvs,rfl,th,hd,k⟩
theorem QX:FnScope ["self","name"] ["self","name"] (Zb T.m_Table_ride_row):=scO
theorem Qz(Z:TCl K C)(B:Err P w K mg base "NoRide" ["name"] Cn)(D:DfM K C "ride_row" "Table.ride_row" T.m_Table_ride_row ["self","name"])(CP:CanM P w K mg base CX0 2 C "is_ride" ["self","thing"] (Pp C "ride_by_name")):CanM P w K mg base (CX1 P w) 3 C "ride_row" ["self","name"] (P6 C Cn "ride_by_name"):=by
 refine D.cnX QX λf cdv A outer s H vs Q E hr h=>?_;obtain⟨t,x,T',fs,d,kvs,rfl,tb,hl,hd,th,k1,k2⟩:=h;obtain⟨dx,ht⟩:=id tb.at_;refine⟨_,Ze (ZO (Z8 (Z1 (Z4 CP Z.cl YM hr (pv 0) (Zj (pv 1) Zf)))) (Zi (Xk (E:=E) B Yt rfl hr.m rfl (Zj (pv 1) Zf))) Zy) (Zi (Zo (TK (J9 hr) (ZD (pv 0) rfl) (pv 1) (λ_ _=>rfl)))),?_⟩;refine mthV ht (tb.only _ (by decide +kernel)) ⟨_,rfl,t,x,T',fs,d,kvs,rfl,tb,hl,hd,th,_,rfl,?_⟩;cases e:ZM x kvs with
|false=>refine iteT ?_;exact⟨_,rfl,rfl,k2 e⟩
|true=>refine iteF ?_;obtain⟨z,v,rfl,hv⟩:=YA e;exact⟨_,rfl,t,C,dx,fs,_,rfl,ht,Z.cl,Z.na _ (by simp[fields]),hl,_,rfl,d,v,rfl,(by rw[<-hv];exact DGet.k (k:=cq z) hd),k1 z v rfl hv⟩
end
end TB
namespace WD
open PySem L2 PySem.Spec PyProof.Rows TB
def Jr(H:Hp)(l:Addr)(rows:List (List V)):Prop:=∃xs,H l=some (.tup xs)/\ZZ H xs (rows.map some)
theorem Jr.same{H H':Hp}{l:Addr}{rows:List (List V)}(s:Same H H')(h:Jr H l rows):Jr H' l rows:=by
 obtain⟨xs,e,r⟩:=h;refine⟨xs,s _ _ e,r.1,λi x r' a b=>?_⟩;have:=r.2 i x r' a b;cases r' with
|none=>obtain⟨T,t,n⟩:=this;exact⟨T,t.same s,n⟩
|some ys=>obtain⟨p,e,hp,q⟩:=this;exact⟨p,e,s _ _ hp,λy hy=>by obtain⟨T,t⟩:=q y hy;exact⟨T,t.same s⟩⟩
theorem Jr.len{H:Hp}{l:Addr}{rows:List (List V)}(h:Jr H l rows):∃xs,H l=some (.tup xs)/\xs.length=rows.length:=by obtain⟨xs,e,r⟩:=h;exact⟨xs,e,by have:=r.1;rwa [aZ]at this⟩
theorem Jr.go{K:aa}{H:Hp}{l:Addr}{rows:List (List V)}(h:Jr H l rows){i:Nat}(hi:i<rows.length):(Itt K l).go i H:=by obtain⟨xs,e,len⟩:=h.len;exact⟨xs,xs[i]'(by omega),SqT.of e,gE _⟩
theorem Jr.stop{K:aa}{H:Hp}{l:Addr}{rows:List (List V)}(h:Jr H l rows):(Itt K l).stop rows.length H:=by obtain⟨xs,e,len⟩:=h.len;exact⟨xs,SqT.of e,by omega⟩
theorem Jr.item{K:aa}{H:Hp}{l:Addr}{rows:List (List V)}(h:Jr H l rows){i:Nat}{r:List V}(hr:rows[i]?=some r){x:V}{H':Hp}(y:(Itt K l).yld i H x H'):H'=H/\∃a,x=.ref a/\H a=some (.tup r):=by obtain⟨xs,e,q⟩:=h;obtain⟨rfl,z⟩:=y;have hx:=z xs (SqT.of e);obtain⟨p,rfl,hp,_⟩:=q.2 i x (some r) hx (by rw[ah,hr];rfl);exact⟨rfl,p,rfl,hp⟩
theorem G8(r:Option Int):decide (Yx r=.non)=r.isNone:=by cases r<;>rfl
def Tq(C:Addr):Sp:=λvs H Q _=>∃(t:Addr)(fs:List (Str×V))(l:Addr)(ps:Pl),vs=[.ref t]/\Tab H C t fs/\fs.lookup ("places":Str)=some (.ref l)/\Jr H l (ps.map plRow)/\ps.length<=1000/\∀q,H q=none->Q (.ref q) (upd H q (.lst ((ps.filter λp=>p.2.isNone).map λp=>V.str p.1)))
section
variable {P:Program}{w:World}{K:aa}{mg:Str->Option Value}{base:Heap}{C:Addr}
theorem Nx:FnScope ["self"] ["self"] (Zb T.m_Table_homes):=scO
noncomputable def JQ:Scope:=csx [(".0",.local),("name",.local),("room",.local)]
theorem Ue:CompScope JQ (Zb T.m_Table_homes):=⟨rfl,by decide +kernel,by decide +kernel,by decide +kernel⟩
theorem XE:(["name","room"]:List Str).Nodup:=by decide +kernel
theorem Ug:CompNames ["self"] JQ ["name","room"] [none,none]:=.mk' (by decide +kernel)
theorem Kh(Z:TCl K C)(D:DfM K C "homes" "Table.homes" T.m_Table_homes ["self"]):CanM P w K mg base CX0 1 C "homes" ["self"] (Tq C):=by
 refine D.cn Nx λf cdv A outer s H vs Q E hr h=>?_;obtain⟨t,fs,l,ps,rfl,tb,hl,hp,hn,k⟩:=h;obtain⟨dx,ht⟩:=id tb.at_;have hpl:(ps.map plRow).length<=sizeLine:=Nat.le_trans (by rw[lm];exact hn:(ps.map plRow).length<=1000) (by decide);refine⟨_,(Zi (Zo (Z7 rfl Ue Ug (VD (ZD (pv 0) rfl)) (λC s H ex pn=>(Y8 (K:=K) (n:=2) rfl rfl (Zl (nmT 0 XE) (Zl (nmT 1 XE) ZL)))) (λC s H ex pn=>(Xq (Zw NJ (pv 1) Yc (ZC _)))) (λC s H ex pn=>(pv 0))))),?_⟩;refine⟨_,rfl,t,C,dx,fs,_,rfl,ht,Z.cl,Z.na _ (by simp[fields]),hl,l,rfl,⟨_,SqT.of hp.choose_spec.1⟩,?_⟩;refine Y9 (J:=Itt K l) (ps.map plRow).length hpl (λi ys τ H'=>H'=H/\ys=((ps.take i).filter λp=>p.2.isNone).map (λp=>V.str p.1)/\∃v1 v2,τ=[v1,v2]) ⟨rfl,rfl,none,none,rfl⟩ (λi ys τ H' p=>?_) (λi ys τ H' hi p=>?_) (λys τ H' p=>?_) (λi ys τ H' x H2 hi p yl=>?_) (λys τ H0 p l1 hl1=>?_)
 ·obtain⟨_,rfl,_⟩:=p;rw[lm];exact Nat.le_trans (bu _ _) (by rw[aw];omega)
 ·obtain⟨rfl,_⟩:=p;exact hp.go hi
 ·obtain⟨rfl,_⟩:=p;exact hp.stop
 ·obtain⟨rfl,rfl,v1,v2,rfl⟩:=p;have hi':i<ps.length:=by simpa using hi
  have e0:ps[i]?=some ps[i]:=gE hi';obtain⟨rfl,a,rfl,ha⟩:=hp.item (r:=plRow ps[i]) (by rw[ah,e0];rfl) yl;refine⟨a,_,rfl,SqT.of ha,rfl,_,_,rfl,_,_,rfl,rfl,_,rfl,rfl,_,rfl,?_⟩;rw[G8];refine YS (λe=>?_) (λe=>?_)
  ·refine⟨_,rfl,rfl,?_,_,_,rfl⟩;rw[Y1 _ _ e0,if_pos e,aE];rfl
  ·refine⟨rfl,?_,_,_,rfl⟩;rw[Y1 _ _ e0,if_neg (by rw[e];exact Bool.false_ne_true),aT]
 ·obtain⟨rfl,rfl,v1,v2,rfl⟩:=p;rw[lm,aF];exact k l1 hl1
end
end WD
namespace TB
open PySem L2 PySem.Spec PyProof.Rows WD
theorem Yz.same{H H':Hp}(sm:Same H H'){v:V}{r:PR}(h:Yz H v r):Yz H' v r:=by
 cases r with
|none=>obtain⟨T,th,a⟩:=h;exact⟨T,th.same sm,a⟩
|some q=>
  obtain⟨xs,rs⟩:=q;obtain⟨⟨p,rfl,hp⟩,h1,h2⟩:=h;refine⟨⟨p,rfl,?_⟩,h1,λi y r e1 e2=>?_⟩
  ·rcases hp with hp|hp
   ·exact .inl (sm _ _ hp)
   ·exact .inr (sm _ _ hp)
  ·have:=h2 i y r e1 e2;cases r with
  |none=>obtain⟨T,th,a⟩:=this;exact⟨T,th.same sm,a⟩
  |some ys=>obtain⟨p,rfl,a,b⟩:=this;exact⟨p,rfl,sm _ _ a,λy hy=>let ⟨T,th⟩:=b y hy;⟨T,th.same sm⟩⟩
def Ve(C Cb:Addr)(vT:V)(r1 r2 r3 r4:PR)(H:Hp)(Q:VK)(E:XK):Prop:=match MI vT r1 r2 r3 r4 with
|.inl (z,a,y)=>∀H1,Same H H1->Bad Cb z a y H1 E
|.inr k=>∀H' x fs n,Same H H'->H x=none->vT=.int n->TabOf H' C x fs n r1 r2 r3 r4 k->Q (.ref x) H'
theorem UY{C Cb:Addr}{H:Hp}{Q:VK}{E:XK}{vT v1 v2 v3 v4:V}{T:String}{r1 r2 r3 r4:PR}(thT:Th H vT T)(p1:Yz H v1 r1)(p2:Yz H v2 r2)(p3:Yz H v3 r3)(p4:Yz H v4 r4)(k:Ve C Cb vT r1 r2 r3 r4 H Q E):∀x dx,H x=none->H dx=none->dx≠x->P4 C Cb [.ref x,vT,v1,v2,v3,v4] (upd (upd H dx (.own x)) x (.ins C dx [])) (λv H'=>v=.non/\Q (.ref x) H') E:=λx dx hx hdx hne=>by
 have sm:Same H (upd (upd H dx (.own x)) x (.ins C dx [])):=λc u e=>by rw[Zh (λz=>by rw[z,hx]at e;cases e),Zh (λz=>by rw[z,hdx]at e;cases e)];exact e
 refine⟨x,dx,vT,T,v1,v2,v3,v4,r1,r2,r3,r4,rfl,Zd,thT.same sm,p1.same sm,p2.same sm,p3.same sm,p4.same sm,?_⟩;unfold Ve at k;generalize MI vT r1 r2 r3 r4=res at k ⊢;cases res with
|inl q=>exact λH1 s1=>k H1 (ML hx hdx s1)
|inr q=>exact λH' fs n s1 e t=>⟨rfl,k H' x fs n (ML hx hdx s1) hx e t⟩
structure TabP(H:Hp)(C t:Addr)(fs:List (Str×V))(n:Int)(r1 r2 r3 r4:PR)(k:Ks):Prop where
 tab:TabOf H C t fs n r1 r2 r3 r4 k
 rows:∀r,r=r1\/r=r2\/r=r3\/r=r4->∀xs rs,r=some (xs,rs)->ZZ H xs rs
theorem Z0.part{H:Hp}{fs:List (Str×V)}{f g:Str}{r:PR}{k:List (Key×V)}(h:Z0 H fs f g r k)(hr:∀xs rs,r=some (xs,rs)->ZZ H xs rs):∃l,fs.lookup f=some (.ref l)/\Yz H (.ref l) r:=by obtain⟨l,d,xs,rs,a1,a2,rfl,a4,a5⟩:=h;exact⟨l,a1,⟨l,rfl,.inr a4⟩,hr xs rs rfl⟩
def Ji(C Cb:Addr):Sp:=λvs H Q E=>∃(t:Addr)(v:V)(fs:List (Str×V))(n:Int)(r1 r2 r3 r4 r:PR)(k:Ks),vs=[.ref t,v]/\TabP H C t fs n r1 r2 r3 r4 k/\Yz H v r/\Ve C Cb (.int n) r1 r r3 r4 H Q E
def JT(C Cb:Addr):Sp:=λvs H Q E=>∃(t:Addr)(v:V)(fs:List (Str×V))(n:Int)(r1 r2 r3 r4 r:PR)(k:Ks),vs=[.ref t,v]/\TabP H C t fs n r1 r2 r3 r4 k/\Yz H v r/\Ve C Cb (.int n) r1 r2 r3 r H Q E
section
variable {P:Program}{w:World}{K:aa}{mg:Str->Option Value}{base:Heap}{C Cb:Addr}
theorem Ua:FnScope ["self","rides"] ["self","rides"] (Zb T.m_Table_with_rides):=scO
theorem Pc(Z:TCl K C)(M:TMk P w K mg base C Cb)(D:DfM K C "with_rides" "Table.with_rides" T.m_Table_with_rides ["self","rides"]):CanM P w K mg base (CX1 P w) 9 C "with_rides" ["self","rides"] (Ji C Cb):=by obtain⟨fm,fdm,hM,FM,bM⟩:=M.made;refine D.cnX Ua λf cdv A outer s H vs Q E hr h=>?_;obtain⟨t,v,fs,n,r1,r2,r3,r4,r,k,rfl,tp,pv',kq⟩:=h;refine⟨_,(Zi (Zo (Jo hM FM hr rfl M.mg bM .nil Yt (Za (ZD (pv 0) rfl) (Za (ZD (pv 0) rfl) (Za (pv 1) (Za (ZD (pv 0) rfl) (Za (ZD (pv 0) rfl) Zf)))))))),?_⟩;obtain⟨dx,ht⟩:=id tp.tab.tab.at_;obtain⟨l1,a1,p1⟩:=tp.tab.p.part (tp.rows _ (.inl rfl));obtain⟨l3,a3,p3⟩:=tp.tab.w.part (tp.rows _ (.inr (.inr (.inl rfl))));obtain⟨l4,a4,p4⟩:=tp.tab.g.part (tp.rows _ (.inr (.inr (.inr rfl))));exact⟨_,rfl,t,C,dx,fs,_,rfl,ht,Z.cl,Z.na _ (by simp[fields]),tp.tab.turns,_,rfl,t,C,dx,fs,_,rfl,ht,Z.cl,Z.na _ (by simp[fields]),a1,_,rfl,_,rfl,t,C,dx,fs,_,rfl,ht,Z.cl,Z.na _ (by simp[fields]),a3,_,rfl,t,C,dx,fs,_,rfl,ht,Z.cl,Z.na _ (by simp[fields]),a4,UY (.int n) p1 pv' p3 p4 kq⟩
theorem VB:FnScope ["self","rows"] ["self","rows"] (Zb T.m_Table_with_groups):=scO
theorem N5(Z:TCl K C)(M:TMk P w K mg base C Cb)(D:DfM K C "with_groups" "Table.with_groups" T.m_Table_with_groups ["self","rows"]):CanM P w K mg base (CX1 P w) 9 C "with_groups" ["self","rows"] (JT C Cb):=by obtain⟨fm,fdm,hM,FM,bM⟩:=M.made;refine D.cnX VB λf cdv A outer s H vs Q E hr h=>?_;obtain⟨t,v,fs,n,r1,r2,r3,r4,r,k,rfl,tp,pv',kq⟩:=h;refine⟨_,(Zi (Zo (Jo hM FM hr rfl M.mg bM .nil Yt (Za (ZD (pv 0) rfl) (Za (ZD (pv 0) rfl) (Za (ZD (pv 0) rfl) (Za (ZD (pv 0) rfl) (Za (pv 1) Zf)))))))),?_⟩;obtain⟨dx,ht⟩:=id tp.tab.tab.at_;obtain⟨l1,a1,p1⟩:=tp.tab.p.part (tp.rows _ (.inl rfl));obtain⟨l2,a2,p2⟩:=tp.tab.r.part (tp.rows _ (.inr (.inl rfl)));obtain⟨l3,a3,p3⟩:=tp.tab.w.part (tp.rows _ (.inr (.inr (.inl rfl))));exact⟨_,rfl,t,C,dx,fs,_,rfl,ht,Z.cl,Z.na _ (by simp[fields]),tp.tab.turns,_,rfl,t,C,dx,fs,_,rfl,ht,Z.cl,Z.na _ (by simp[fields]),a1,_,rfl,t,C,dx,fs,_,rfl,ht,Z.cl,Z.na _ (by simp[fields]),a2,_,rfl,t,C,dx,fs,_,rfl,ht,Z.cl,Z.na _ (by simp[fields]),a3,_,rfl,UY (.int n) p1 p2 p3 pv' kq⟩
end
end TB
namespace WD
open PySem L2 PySem.Spec PyProof.Rows TB
theorem Eg{H:Hp}{Q:VK}{a b:Addr}{xs ys:List V}(ha:H a=some (.tup xs))(hb:H b=some (.tup ys))(h:∀H' p,Same H H'->H' p=some (.tup (xs++ys))->Q (.ref p) H'):(xs=[]->Q (.ref b) H)/\(ys=[]->Q (.ref a) H)/\∀p,H p=none->Q (.ref p) (upd H p (.tup (xs++ys))):=⟨λe=>h H b (Same.refl H) (by rw[hb,e,List.nil_append]),λe=>h H a (Same.refl H) (by rw[ha,e,aT]),λp hp=>h _ p (sameNew (Same.refl H) hp) Zd⟩
def Hz:R2:=λx y H Q=>∃(a b:Addr)(xs ys:List V),x=.ref a/\y=.ref b/\H a=some (.tup xs)/\H b=some (.tup ys)/\xs.length+ys.length<=sizeLine/\∀H' p,Same H H'->H' p=some (.tup (xs++ys))->Q (.ref p) H'
theorem TQ{X:Cx}:OpR X (cJ .Add) Hz:=by intro pins s σ H x y v u Q I rx ry h;obtain⟨a,b,xs,ys,e1,e2,ha,hb,hz,q⟩:=h;exact DR pins s σ H x y v u Q I rx ry ⟨a,b,xs,ys,e1,e2,ha,hb,hz,Eg ha hb q⟩
end WD
namespace TB
open PySem L2 PySem.Spec PyProof.Rows WD
theorem ZZ.snoc{H:Hp}{xs:List V}{rs:List (Option (List V))}{v:V}{r:Option (List V)}(h:ZZ H xs rs)(hv:Row H v r):ZZ H (xs++[v]) (rs++[r]):=by
 obtain⟨hl,h⟩:=h;refine⟨by simp[hl],λi x q e1 e2=>?_⟩;rcases Nat.lt_or_ge i xs.length with hi|hi
 ·rw[a8 hi]at e1;rw[a8 (by omega)]at e2;exact h i x q e1 e2
 ·rw[bD hi]at e1;rw[bD (by omega),<-hl]at e2;have:i-xs.length=0:=by
   rcases Nat.eq_zero_or_pos (i-xs.length)with z|z
   ·exact z
   ·rw[fP (by simp;omega)]at e1;cases e1
  rw[this]at e1 e2;cases e1;cases e2;exact hv
theorem Row.same{H H':Hp}(s:Same H H'){v:V}{r:Option (List V)}(h:Row H v r):Row H' v r:=by
 cases r with
|none=>obtain⟨T,t,n⟩:=h;exact⟨T,t.same s,n⟩
|some ys=>obtain⟨p,e,a,t⟩:=h;exact⟨p,e,s _ _ a,λy hy=>let ⟨T,u⟩:=t y hy;⟨T,u.same s⟩⟩
theorem ZZ.same{H H':Hp}(s:Same H H'){xs:List V}{rs:List (Option (List V))}(h:ZZ H xs rs):ZZ H' xs rs:=⟨h.1,λi x r e1 e2=>(h.2 i x r e1 e2).same s⟩
theorem Z0.same{H H':Hp}(s:Same H H'){fs:List (Str×V)}{f g:Str}{r:PR}{k:List (Key×V)}(h:Z0 H fs f g r k):Z0 H' fs f g r k:=by obtain⟨l,d,xs,rs,a1,a2,a3,a4,a5⟩:=h;exact⟨l,d,xs,rs,a1,a2,a3,s _ _ a4,s _ _ a5⟩
theorem TabP.same{H H':Hp}{C t:Addr}{fs:List (Str×V)}{n:Int}{r1 r2 r3 r4:PR}{k:Ks}(s:Same H H')(h:TabP H C t fs n r1 r2 r3 r4 k):TabP H' C t fs n r1 r2 r3 r4 k:=⟨⟨⟨let ⟨dx,e⟩:=h.tab.tab.at_;⟨dx,s _ _ e⟩,h.tab.tab.only⟩,h.tab.turns,h.tab.p.same s,h.tab.r.same s,h.tab.w.same s,h.tab.g.same s⟩,λr hr xs rs e=>(h.rows r hr xs rs e).same s⟩
def SS(C Cb:Addr)(vT:V)(r1 r2 r3 r4:PR)(H:Hp)(Q:VK)(E:XK):Prop:=∀H0,Same H H0->Ve C Cb vT r1 r2 r3 r4 H0 Q E
def Uu(C Cb:Addr):Sp:=λvs H Q E=>∃(t:Addr)(v:V)(fs:List (Str×V))(n:Int)(r1 r3 r4:PR)(x2:List V)(s2:List (Option (List V)))(r:Option (List V))(k:Ks),vs=[.ref t,v]/\TabP H C t fs n r1 (some (x2,s2)) r3 r4 k/\x2.length<=900/\Row H v r/\SS C Cb (.int n) r1 (some (x2++[v],s2++[r])) r3 r4 H Q E
section
variable {P:Program}{w:World}{K:aa}{mg:Str->Option Value}{base:Heap}{C Cb:Addr}
theorem Uw:FnScope ["self","row"] ["self","row"] (Zb T.m_Table_with_ride):=scO
theorem Qy(Z:TCl K C)(CM:CanM P w K mg base (CX1 P w) 9 C "with_rides" ["self","rides"] (Ji C Cb))(D:DfM K C "with_ride" "Table.with_ride" T.m_Table_with_ride ["self","row"]):CanM P w K mg base (CX1 P w) 10 C "with_ride" ["self","row"] (Uu C Cb):=by refine D.cnX Uw λf cdv A outer s H vs Q E hr h=>?_;obtain⟨t,v,fs,n,r1,r3,r4,x2,s2,r,k,rfl,tp,hx2,hv,kq⟩:=h;refine⟨_,(Zi (Zo (Z4 CM Z.cl Yt hr.m (pv 0) (Za (Zv TQ (ZD (pv 0) rfl) (ZE (Za (pv 1) Zf))) Zf)))),?_⟩;obtain⟨dx,ht⟩:=id tp.tab.tab.at_;obtain⟨l2,d2,xs,rs,a1,a2,a3,a4,a5⟩:=id tp.tab.r;cases a3;refine mthV ht (tp.tab.tab.only _ (by decide +kernel)) ⟨_,rfl,t,C,dx,fs,_,rfl,ht,Z.cl,Z.na _ (by simp[fields]),a1,_,rfl,zl,λc1 hc1=>?_⟩;have S1:Same H (upd H c1 (.tup [v])):=sameNew (Same.refl _) hc1;have e1:upd H c1 (.tup [v]) c1=some (.tup [v]):=Zd;generalize upd H c1 (.tup [v])=H1 at S1 e1 ⊢;refine⟨l2,c1,x2,[v],rfl,rfl,S1 _ _ a4,e1,Nat.le_trans (by simp;omega:_<=2000) (by decide),λH2 q2 S2 e2=>?_⟩;have S02:=S1.trans S2;have tp2:=tp.same S02;exact⟨t,.ref q2,fs,n,r1,some (x2,s2),r3,r4,some (x2++[v],s2++[r]),k,rfl,tp2,⟨⟨q2,rfl,.inr e2⟩,(tp2.rows _ (.inr (.inl rfl)) x2 s2 rfl).snoc (hv.same S02)⟩,kq H2 S02⟩
noncomputable def asV(nm:Str)(v:V):List V->List (List V)->List V
|x::xs,y::ys=>(if nameOf y=nm then v else x)::asV nm v xs ys
|_,_=>[]
noncomputable def asR(nm:Str)(r:List V)(t:List (List V)):List (List V):=t.map λy=>if nameOf y=nm then r else y
theorem SR{nm:Str}{v:V}:∀{xs:List V}{t:List (List V)}{i:Nat}{x:V}{y:List V},xs[i]?=some x->t[i]?=some y->(asV nm v xs t)[i]?=some (if nameOf y=nm then v else x)
|[],_,_,_,_,h,_=>by simp at h
|_::_,[],_,_,_,_,h=>by simp at h
|x::xs,y::t,0,_,_,h1,h2=>by simp at h1 h2;subst h1 h2;rfl
|x::xs,y::t,i+1,_,_,h1,h2=>by show(asV nm v xs t)[i]?=_;exact SR (by simpa using h1) (by simpa using h2)
theorem Nf{nm:Str}{v:V}:∀{xs:List V}{t:List (List V)},xs.length=t.length->(asV nm v xs t).length=xs.length
|[],[],_=>rfl
|[],_::_,h=>by cases h
|_::_,[],h=>by cases h
|x::xs,y::t,h=>by show(asV nm v xs t).length+1=_;rw[Nf (by simpa using h)];rfl
theorem Wl{H:Hp}{nm:Str}{c:Addr}{ys:List V}{xs:List V}{t:List (List V)}(h:ZZ H xs (t.map some))(hc:Row H (.ref c) (some ys)):ZZ H (asV nm (.ref c) xs t) ((asR nm ys t).map some):=by
 have hl:xs.length=t.length:=by rw[h.1,lm]
 refine⟨by rw[Nf hl,lm];unfold asR;rw[lm,hl],λi x r e1 e2=>?_⟩;have hi:i<xs.length:=by rw[<-Nf hl (nm:=nm) (v:=.ref c)];exact(aj.mp e1).1
 have ht:t[i]?=some (t[i]'(by omega)):=gE _;rw[SR (gE hi) ht]at e1;unfold asR at e2;rw[ah,ah,ht]at e2;have h0:=h.2 i xs[i] (some (t[i]'(by omega))) (gE hi) (by rw[ah,ht];rfl);cases e1;have e2':r=some (if nameOf (t[i]'(by omega))=nm then ys else t[i]'(by omega)):=(ar e2).symm;subst e2';by_cases hn:nameOf (t[i]'(by omega))=nm
 ·rw[if_pos hn,if_pos hn];exact hc
 ·rw[if_neg hn,if_neg hn];exact h0
def QN(C Cb:Addr):Sp:=λvs H Q E=>∃(t:Addr)(fs:List (Str×V))(n:Int)(r1 r3 r4:PR)(x2:List V)(t2:List (List V))(c:Addr)(ys:List V)(nm:Str)(k:Ks),vs=[.ref t,.ref c]/\TabP H C t fs n r1 (prs x2 t2) r3 r4 k/\x2.length<=900/\(∀y∈t2,y.getD 0 .non=.str (nameOf y))/\H c=some (.tup ys)/\ys.getD 0 .non=.str nm/\(∀y∈ys,∃T,Th H y T)/\SS C Cb (.int n) r1 (prs (asV nm (.ref c) x2 t2) (asR nm ys t2)) r3 r4 H Q E
theorem Vf:FnScope ["self","changed"] ["self","changed"] (Zb T.m_Table_with_ride_as):=scO
noncomputable def Y4:Scope:=csx [(".0",.local),("row",.local),("changed",.free)]
theorem Jc:CompScope Y4 (Zb T.m_Table_with_ride_as):=⟨rfl,by decide +kernel,by decide +kernel,by decide +kernel⟩
theorem Je:(["row","changed"]:List Str).Nodup:=by decide +kernel
theorem Jd:CompNames ["self","changed"] Y4 ["row","changed"] [none,some 1]:=.mk' (by decide +kernel)
theorem Sv(Z:TCl K C)(CM:CanM P w K mg base (CX1 P w) 9 C "with_rides" ["self","rides"] (Ji C Cb))(D:DfM K C "with_ride_as" "Table.with_ride_as" T.m_Table_with_ride_as ["self","changed"]):CanM P w K mg base (CX1 P w) 10 C "with_ride_as" ["self","changed"] (QN C Cb):=by
 refine D.cnX Vf λf cdv A outer s H vs Q E hr h=>?_;obtain⟨t,fs,n,r1,r3,r4,x2,t2,c,ys,nm,k,rfl,tp,hx2,hnm,hc,h0,hth,kq⟩:=h;refine⟨_,(Zi (Zo (Z4 CM Z.cl Yt hr.m (pv 0) (Za (Z7 rfl Jc Jd (VD (ZD (pv 0) rfl)) (λC s H ex pn=>(nmT 0 Je)) (λC s H ex pn=>ZV) (λC s H ex pn=>(VE (Zw YR (it K (pv 0) Zc) (it K (pv 1) Zc) (ZC _)) (pv 1) (pv 0)))) Zf)))),?_⟩;obtain⟨dx,ht⟩:=id tp.tab.tab.at_;obtain⟨l2,d2,xs,rs,a1,a2,a3,a4,a5⟩:=id tp.tab.r;cases a3;have rr:=tp.rows _ (.inr (.inl rfl)) _ _ rfl;have hl:x2.length=t2.length:=by rw[rr.1,lm]
 have hpl:x2.length<=sizeLine:=Nat.le_trans hx2 (by decide);have c0:atI ys 0=some (.str nm):=by
  cases ys with
 |nil=>cases h0
 |cons y ys=>have e:y=.str nm:=h0;subst e;exact Zr (j:=0) rfl
 refine mthV ht (tp.tab.tab.only _ (by decide +kernel)) ⟨_,rfl,t,C,dx,fs,_,rfl,ht,Z.cl,Z.na _ (by simp[fields]),a1,l2,rfl,⟨_,SqT.of a4⟩,?_⟩;refine ZI (J:=Itt K l2) x2.length hpl (λi zs τ H'=>H'=H/\zs=(asV nm (.ref c) x2 t2).take i/\∃v1,τ=[v1,some (.ref c)]) ⟨rfl,rfl,none,rfl⟩ (λi zs τ H' p=>?_) (λi zs τ H' hi p=>?_) (λzs τ H' p=>?_) (λi zs τ H' x H2 hi p yl=>?_) (λzs τ H1 p l1 hl1=>?_)
 ·obtain⟨_,rfl,_⟩:=p;rw[aw];omega
 ·obtain⟨rfl,_⟩:=p;exact⟨_,x2[i],SqT.of a4,gE hi⟩
 ·obtain⟨rfl,_⟩:=p;exact⟨_,SqT.of a4,Nat.le_refl _⟩
 ·obtain⟨rfl,rfl,v1,rfl⟩:=p;obtain⟨rfl,z⟩:=yl;have hx:=z _ (SqT.of a4);rw[gE hi]at hx;cases hx;have ht2:t2[i]?=some (t2[i]'(by omega)):=gE _;have ri:=rr.2 i x2[i] (some (t2[i]'(by omega))) (gE hi) (by rw[ah,ht2];rfl);obtain⟨a,ea,ha,_⟩:=ri;have n0:atI (t2[i]'(by omega)) 0=some (.str (nameOf (t2[i]'(by omega)))):=by
   have hn:=hnm _ (aG (by omega:i<t2.length));cases e:t2[i]'(by omega)with
  |nil=>rw[e]at hn;cases hn
  |cons y r=>rw[e]at hn;have e':y=.str (nameOf (y::r)):=hn;rw[<-e'];exact Zr (j:=0) rfl
  have at_i:=SR (nm:=nm) (v:=.ref c) (gE hi) ht2;have stp:(asV nm (.ref c) x2 t2).take (i+1)=(asV nm (.ref c) x2 t2).take i++[if nameOf (t2[i]'(by omega))=nm then .ref c else x2[i]]:=by rw[aV,at_i];rfl
  rw[ea]at stp ⊢;refine iaT ha n0 (iaT hc c0 ⟨rfl,_,rfl,?_⟩);refine YS (λe=>?_) (λe=>?_)
  ·have en:nameOf (t2[i]'(by omega))=nm:=by simpa using e
   refine⟨_,rfl,rfl,?_,_,rfl⟩;rw[stp,if_pos en]
  ·have en:¬nameOf (t2[i]'(by omega))=nm:=by simpa using e
   refine⟨_,rfl,rfl,?_,_,rfl⟩;rw[stp,if_neg en]
 ·obtain⟨rfl,rfl,v1,rfl⟩:=p;rw[show(asV nm (.ref c) x2 t2).take x2.length=asV nm (.ref c) x2 t2 from aO (by rw[Nf hl];exact Nat.le_refl _)];have S1:Same H1 (upd H1 l1 (.lst (asV nm (.ref c) x2 t2))):=sameNew (Same.refl _) hl1;have e1:upd H1 l1 (.lst (asV nm (.ref c) x2 t2)) l1=some (.lst (asV nm (.ref c) x2 t2)):=Zd;generalize upd H1 l1 (.lst (asV nm (.ref c) x2 t2))=H3 at S1 e1 ⊢;have tp3:=tp.same S1;have rc:Row H3 (.ref c) (some ys):=⟨c,rfl,S1 _ _ hc,λy hy=>let ⟨T,th⟩:=hth y hy;⟨T,th.same S1⟩⟩;exact⟨t,.ref l1,fs,n,r1,prs x2 t2,r3,r4,prs (asV nm (.ref c) x2 t2) (asR nm ys t2),k,rfl,tp3,⟨⟨l1,rfl,.inl e1⟩,Wl (tp3.rows _ (.inr (.inl rfl)) _ _ rfl) rc⟩,kq H3 S1⟩
end
def Err1(Cn:Addr)(f:Str)(x:V)(H:Hp)(E:XK):Prop:=∀H' dd,H dd=none->H' dd=some (XD dd [(f,x)])->(∀b,b≠dd->H' b=H b)->E (.ref Cn) (some dd) H'
def AsQ(C Cb:Addr)(n:Int)(r1 r3 r4:PR)(x2:List V)(t2:List (List V))(nm:Str)(ys:List V)(H:Hp)(Q:VK)(E:XK):Prop:=∀H0 c,Same H H0->H0 c=some (.tup ys)->Ve C Cb (.int n) r1 (prs (asV nm (.ref c) x2 t2) (asR nm ys t2)) r3 r4 H0 Q E
structure Rides(H:Hp)(C t:Addr)(fs:List (Str×V))(n:Int)(r1 r3 r4:PR)(x2:List V)(t2:List (List V))(k:Ks):Prop where
 tp:TabP H C t fs n r1 (prs x2 t2) r3 r4 k
 len:x2.length<=900
 dict:RwDict k.2.1 t2 x2
 row:∀y∈t2,y.getD 0 .non=.str (nameOf y)/\y.length=6
theorem six{y:List V}(h:y.length=6):∃a b c d e f,y=[a,b,c,d,e,f]:=by exact len6 h
def Vv(C Cb Cn Ct:Addr):Sp:=λvs H Q E=>∃(t:Addr)(x bv:V)(Tx Ts:String)(fs:List (Str×V))(n:Int)(r1 r3 r4:PR)(x2:List V)(t2:List (List V))(k:Ks),vs=[.ref t,x,bv]/\Rides H C t fs n r1 r3 r4 x2 t2 k/\Th H x Tx/\Th H bv Ts/\(ZM x k.2.1=false->Err1 Cn "name" x H E) /\∀(m:Nat)y,t2[m]?=some y->x=.str (nameOf y)->∃lv cm,at_ y 2=.int lv/\at_ y 4=.int cm/\(K1.Zq bv 1 (n-cm)=false->Err1 Ct "found" bv H E)/\∀i,bv=.int i->K1.Zq bv 1 (n-cm)=true->AsQ C Cb n r1 r3 r4 x2 t2 (nameOf y) ((y.set 2 (.int (lv+i))).set 4 (.int (cm+i))) H Q E
section
variable {P:Program}{w:World}{K:aa}{mg:Str->Option Value}{base:Heap}{C Cb Cn Ct:Addr}
theorem XA:FnScope ["self","name","by","row"] ["self","name","by"] (Zb T.m_Table_with_later):=scO
theorem Pd(Z:TCl K C)(BT:Err P w K mg base "NoTurn" ["found"] Ct)(CI:Can P w K mg base 2 "is_within" ["thing","low","high"] K1.Xv)(CM:CanM P w K mg base (CX1 P w) 10 C "with_ride_as" ["self","changed"] (QN C Cb))(CR:CanM P w K mg base (CX1 P w) 3 C "ride_row" ["self","name"] (P6 C Cn "ride_by_name"))(D:DfM K C "with_later" "Table.with_later" T.m_Table_with_later ["self","name","by"]):CanM P w K mg base (CX1 P w) 11 C "with_later" ["self","name","by"] (Vv C Cb Cn Ct):=by
 refine D.cnX XA λf cdv A outer s H vs Q E hr h=>?_;obtain⟨t,x,bv,Tx,Ts,fs,n,r1,r3,r4,x2,t2,k,rfl,ri,tx,ts,ke,kq⟩:=h;refine⟨_,(Ze (st 3 XA.nd (Z4 CR Z.cl Yt hr.m (pv 0) (Za (pv 1) Zf))) (Ze (ZO (Z8 (Z1 (cn CI hr (Za (pv 2) (Za Zc (Za (Zv Jv (ZD (pv 0) rfl) (it K (pv 3) Zc)) Zf)))))) (Zi (Xk (E:=E) BT Yt rfl hr.m rfl (Za (pv 2) Zf))) Zy) (Zi (Zo (Z4 CM Z.cl Yt hr.m (pv 0) (Za (ZE (Za (it K (pv 3) Zc) (Za (it K (pv 3) Zc) (Za (Zv ZT (it K (pv 3) Zc) (pv 2)) (Za (it K (pv 3) Zc) (Za (Zv ZT (it K (pv 3) Zc) (pv 2)) (Za (it K (pv 3) Zc) Zf))))))) Zf)))))),?_⟩;have tp:=ri.tp;obtain⟨dx,ht⟩:=id tp.tab.tab.at_;obtain⟨l2,d2,xs,rs,a1,a2,a3,a4,a5⟩:=id tp.tab.r;cases a3;have rr:=tp.rows _ (.inr (.inl rfl)) _ _ rfl;have hl:x2.length=t2.length:=by rw[rr.1,lm]
 refine mthV ht (tp.tab.tab.only _ (by decide +kernel)) ⟨_,rfl,t,x,Tx,fs,d2,k.2.1,rfl,tp.tab.tab,a2,a5,tx,λz v ez hv=>?_,ke⟩;obtain⟨m,y,hy,en⟩:∃(m:Nat)(y:List V),t2[m]?=some y/\z=nameOf y:=by
  by_cases hz:z∈t2.map nameOf
  ·obtain⟨y,hy,e⟩:=aq.mp hz;obtain⟨m,hm⟩:=bh.mp hy;exact⟨m,y,hm,e.symm⟩
  ·rw[ri.dict.no z hz]at hv;cases hv
 have hm:m<x2.length:=by rw[hl];exact(aj.mp hy).1
 have hv':=ri.dict.at_ m y x2[m] hy (gE hm);rw[<-en,hv]at hv';cases hv';obtain⟨pa,ea,ha,hth⟩:=rr.2 m x2[m] (some y) (gE hm) (by rw[ah,hy];rfl);obtain⟨lv,cm,el,ec,kb,kg⟩:=kq m y hy (by rw[ez,en]);obtain⟨q0,q1,q2,q3,q4,q5,rfl⟩:=six (ri.row y (aK hy)).2;have el':q2=.int lv:=el;have ec':q4=.int cm:=ec;subst el' ec';rw[ea];refine⟨_,rfl,_,rfl,t,C,dx,fs,_,rfl,ht,Z.cl,Z.na _ (by simp[fields]),tp.tab.turns,ixT 4 ha rfl ⟨_,_,rfl,rfl,bv,Ts,1,n-cm,rfl,ts,_,rfl,?_⟩⟩;cases hw:K1.Zq bv 1 (n-cm)with
|false=>refine iteT ?_;exact⟨_,rfl,rfl,kb hw⟩
|true=>
  refine iteF ?_;obtain⟨i,rfl⟩:∃i,bv=.int i:=by
   cases bv with
  |int i=>exact⟨i,rfl⟩
  |_=>cases hw
  refine mthV ht (tp.tab.tab.only _ (by decide +kernel)) (ixT 0 ha rfl (ixT 1 ha rfl (ixT 2 ha rfl ⟨_,rfl,_,_,rfl,rfl,ixT 3 ha rfl (ixT 4 ha rfl ⟨_,rfl,_,_,rfl,rfl,ixT 5 ha rfl ⟨zl,λc hc=>?_⟩⟩)⟩)));have S1:Same H (upd H c (.tup [q0,q1,.int (lv+i),q3,.int (cm+i),q5])):=sameNew (Same.refl _) hc;have e1:upd H c (.tup [q0,q1,.int (lv+i),q3,.int (cm+i),q5]) c=some (.tup [q0,q1,.int (lv+i),q3,.int (cm+i),q5]):=Zd;generalize upd H c (.tup [q0,q1,.int (lv+i),q3,.int (cm+i),q5])=H1 at S1 e1 ⊢;refine⟨t,fs,n,r1,r3,r4,x2,t2,c,_,nameOf [q0,q1,.int lv,q3,.int cm,q5],k,rfl,tp.same S1,ri.len,λy hy=>(ri.row y hy).1,e1,(ri.row _ (aK hy)).1,λy' hy'=>?_,λH2 S2=>kg i rfl hw H2 c (S1.trans S2) (S2 _ _ e1)⟩;simp only[aA,aJ,or_false]at hy';rcases hy' with h|h|h|h|h|h;all_goals first|(rw[h];exact⟨_,.int _⟩)|(obtain⟨T,th⟩:=hth y' (by simp[h]);exact⟨T,th.same S1⟩)
end
noncomputable def dF:V->PyData
|.int i=>.int i
|.str z=>.str z
|.bl c=>.bool c
|_=>.none
theorem flatIs{H:Hp}{y:V}(h:Flat y):Is H y (dF y):=by
 rcases h with rfl|⟨i,rfl⟩|⟨z,rfl,_⟩
 ·exact .non
 ·exact .int i
 ·exact .str z
theorem Qx{H:Hp}:∀{ys:List V},(∀y∈ys,Flat y)->IsAll H ys (ys.map dF)
|[],_=>.nil
|y::ys,h=>.cons (flatIs (h y aB)) (Qx λx hx=>h x (av _ hx))
structure Layd(y:List V):Prop where
 flat:∀v∈y,Flat v
 lay:(PyData.tuple (y.map dF)).canLay0=true
theorem NX:∀{ys:List V},(∀y∈ys,Flat y)->PyData.depthAll (ys.map dF)=0
|[],_=>rfl
|y::ys,h=>by show max (PyData.depth (dF y)) (PyData.depthAll (ys.map dF))=0;rw[NX λx hx=>h x (av _ hx)];rcases h y aB with rfl|⟨i,rfl⟩|⟨z,rfl,_⟩<;>rfl
theorem Layd.shaped{y:List V}(h:Layd y):cM (.tuple (y.map dF))=true:=by unfold cM;rw[h.lay,Bool.true_and];refine decide_eq_true ?_;show PyData.depthAll (y.map dF)+1<=64;rw[NX h.flat];decide
theorem WX{y z:List V}(hy:y.getD 0 .non=.str (nameOf y))(hz:z.getD 0 .non=.str (nameOf z))(n:nameOf y≠nameOf z):PyData.eqv (.tuple (y.map dF)) (.tuple (z.map dF))=false:=by
 cases y with
|nil=>cases hy
|cons a y=>
  cases z with
 |nil=>cases hz
 |cons b z=>have ea:a=.str (nameOf (a::y)):=hy;have eb:b=.str (nameOf (b::z)):=hz;show(PyData.eqv (dF a) (dF b)&&PyData.eqvAll (y.map dF) (z.map dF))=false;rw[ea,eb];show((nameOf (a::y)==nameOf (b::z))&&_)=false;rw[show(nameOf (a::y)==nameOf (b::z))=false from by simpa using n];rfl
noncomputable def outV(nm:Str):List V->List (List V)->List V
|x::xs,y::ys=>if nameOf y=nm then outV nm xs ys else x::outV nm xs ys
|_,_=>[]
noncomputable def outR(nm:Str)(t:List (List V)):List (List V):=t.filter λy=>decide (nameOf y≠nm)
theorem Q9{nm:Str}:∀{xs:List V}{t:List (List V)}{i:Nat}{x:V}{y:List V},xs[i]?=some x->t[i]?=some y->outV nm (xs.take (i+1)) (t.take (i+1))=outV nm (xs.take i) (t.take i)++(if nameOf y=nm then[]else[x])
|[],_,_,_,_,h,_=>by simp at h
|_::_,[],_,_,_,_,h=>by simp at h
|x::xs,y::t,0,_,_,h1,h2=>by
  simp at h1 h2;subst h1 h2;show(if nameOf y=nm then outV nm [] []else x::outV nm [] [])=_;by_cases e:nameOf y=nm
  ·rw[if_pos e,if_pos e];rfl
  ·rw[if_neg e,if_neg e];rfl
|x::xs,y::t,i+1,x',y',h1,h2=>by
  have ih:=Q9 (nm:=nm) (xs:=xs) (t:=t) (i:=i) (x:=x') (y:=y') (by simpa using h1) (by simpa using h2);show(if nameOf y=nm then outV nm (xs.take (i+1)) (t.take (i+1))else x::outV nm (xs.take (i+1)) (t.take (i+1)))=(if nameOf y=nm then outV nm (xs.take i) (t.take i)else x::outV nm (xs.take i) (t.take i))++_;by_cases e:nameOf y=nm
  ·rw[if_pos e,if_pos e,ih]
  ·rw[if_neg e,if_neg e,ih];rfl
theorem NI{H:Hp}{nm:Str}:∀{xs:List V}{t:List (List V)},ZZ H xs (t.map some)->ZZ H (outV nm xs t) ((outR nm t).map some)
|[],[],_=>⟨rfl,λi x r h=>by simp[outV]at h⟩
|[],_::_,h=>by have:=h.1;simp at this
|_::_,[],h=>by have:=h.1;simp at this
|x::xs,y::t,h=>by
  have h0:=h.2 0 x (some y) rfl rfl;have ht:ZZ H xs (t.map some):=⟨by have:=h.1;simpa using this,λi x' r e1 e2=>h.2 (i+1) x' r (by simpa using e1) (by simpa using e2)⟩;have ih:=NI (nm:=nm) ht;by_cases e:nameOf y=nm
  ·have e1:outV nm (x::xs) (y::t)=outV nm xs t:=by show(if _ then _ else _)=_;rw[if_pos e]
   have e2:outR nm (y::t)=outR nm t:=by unfold outR;rw[List.filter_cons_of_neg (by simp[e])]
   rw[e1,e2];exact ih
  ·have e1:outV nm (x::xs) (y::t)=x::outV nm xs t:=by show(if _ then _ else _)=_;rw[if_neg e]
   have e2:outR nm (y::t)=y::outR nm t:=by unfold outR;rw[List.filter_cons_of_pos (by simp[e])]
   rw[e1,e2,aL];refine⟨by simp[ih.1],λi x' r g1 g2=>?_⟩;cases i with
  |zero=>simp at g1 g2;subst g1 g2;exact h0
  |succ i=>exact ih.2 i x' r (by simpa using g1) (by simpa using g2)
def G4(C Cb Cn:Addr):Sp:=λvs H Q E=>∃(t:Addr)(x:V)(Tx:String)(fs:List (Str×V))(n:Int)(r1 r3 r4:PR)(x2:List V)(t2:List (List V))(k:Ks),vs=[.ref t,x]/\Rides H C t fs n r1 r3 r4 x2 t2 k/\(∀y∈t2,Layd y)/\(t2.map nameOf).Nodup/\Th H x Tx/\(ZM x k.2.1=false->Err1 Cn "name" x H E)/\∀(m:Nat)y,t2[m]?=some y->x=.str (nameOf y)->SS C Cb (.int n) r1 (prs (outV (nameOf y) x2 t2) (outR (nameOf y) t2)) r3 r4 H Q E
section
variable {P:Program}{w:World}{K:aa}{mg:Str->Option Value}{base:Heap}{C Cb Cn:Addr}
theorem Xa:FnScope ["self","name","struck"] ["self","name"] (Zb T.m_Table_without_ride):=scO
noncomputable def Y3:Scope:=csx [(".0",.local),("row",.local),("struck",.free)]
theorem X9:CompScope Y3 (Zb T.m_Table_without_ride):=⟨rfl,by decide +kernel,by decide +kernel,by decide +kernel⟩
theorem Jb:(["row","struck"]:List Str).Nodup:=by decide +kernel
theorem Ja:CompNames ["self","name","struck"] Y3 ["row","struck"] [none,some 2]:=.mk' (by decide +kernel)
theorem Rt(Z:TCl K C)(CM:CanM P w K mg base (CX1 P w) 9 C "with_rides" ["self","rides"] (Ji C Cb))(CR:CanM P w K mg base (CX1 P w) 3 C "ride_row" ["self","name"] (P6 C Cn "ride_by_name"))(D:DfM K C "without_ride" "Table.without_ride" T.m_Table_without_ride ["self","name"]):CanM P w K mg base (CX1 P w) 10 C "without_ride" ["self","name"] (G4 C Cb Cn):=by
 refine D.cnX Xa λf cdv A outer s H vs Q E hr h=>?_;obtain⟨t,x,Tx,fs,n,r1,r3,r4,x2,t2,k,rfl,ri,hly,nd,tx,ke,kq⟩:=h;refine⟨_,(Ze (Z9 (i:=2) Xa.nd rfl (cQ rfl) (Z4 CR Z.cl Yt hr.m (pv 0) (Za (pv 1) Zf))) (Zi (Zo (Z4 CM Z.cl Yt hr.m (pv 0) (Za (Z7 rfl X9 Ja (VD (ZD (pv 0) rfl)) (λC s H ex pn=>(nmT 0 Jb)) (λC s H ex pn=>(Xq (Zw (R5 hr.units) (pv 0) (pv 1) (ZC _)))) (λC s H ex pn=>(pv 0))) Zf))))),?_⟩;have tp:=ri.tp;obtain⟨dx,ht⟩:=id tp.tab.tab.at_;obtain⟨l2,d2,xs,rs,a1,a2,a3,a4,a5⟩:=id tp.tab.r;cases a3;have rr:=tp.rows _ (.inr (.inl rfl)) _ _ rfl;have hl:x2.length=t2.length:=by rw[rr.1,lm]
 refine mthV ht (tp.tab.tab.only _ (by decide +kernel)) ⟨_,rfl,t,x,Tx,fs,d2,k.2.1,rfl,tp.tab.tab,a2,a5,tx,λz v ez hv=>?_,ke⟩;obtain⟨m,y,hy,en⟩:∃(m:Nat)(y:List V),t2[m]?=some y/\z=nameOf y:=by
  by_cases hz:z∈t2.map nameOf
  ·obtain⟨y,hy,e⟩:=aq.mp hz;obtain⟨m,hm⟩:=bh.mp hy;exact⟨m,y,hm,e.symm⟩
  ·rw[ri.dict.no z hz]at hv;cases hv
 have hm:m<x2.length:=by rw[hl];exact(aj.mp hy).1
 have hv':=ri.dict.at_ m y x2[m] hy (gE hm);rw[<-en,hv]at hv';cases hv';obtain⟨pa,ea,ha,hth⟩:=rr.2 m x2[m] (some y) (gE hm) (by rw[ah,hy];rfl);have ymem:=aK hy;have ly:=hly y ymem;have isy:Is H (.ref pa) (.tuple (y.map dF)):=.tup ha (Qx ly.flat);rw[ea];have hpl:x2.length<=sizeLine:=Nat.le_trans ri.len (by decide);refine mthV ht (tp.tab.tab.only _ (by decide +kernel)) ⟨_,rfl,t,C,dx,fs,_,rfl,ht,Z.cl,Z.na _ (by simp[fields]),a1,l2,rfl,⟨_,SqT.of a4⟩,?_⟩;refine Y9 (J:=Itt K l2) x2.length hpl (λi zs τ H'=>H'=H/\zs=outV (nameOf y) (x2.take i) (t2.take i)/\zs.length<=i/\∃v1,τ=[v1,some (.ref pa)]) ⟨rfl,rfl,Nat.le_refl _,none,rfl⟩ (λi zs τ H' p=>p.2.2.1) (λi zs τ H' hi p=>?_) (λzs τ H' p=>?_) (λi zs τ H' x' H2 hi p yl=>?_) (λzs τ H1 p l1 hl1=>?_)
 ·obtain⟨rfl,_⟩:=p;exact⟨_,x2[i],SqT.of a4,gE hi⟩
 ·obtain⟨rfl,_⟩:=p;exact⟨_,SqT.of a4,Nat.le_refl _⟩
 ·obtain⟨rfl,rfl,hz,v1,rfl⟩:=p;obtain⟨rfl,zz⟩:=yl;have hx:=zz _ (SqT.of a4);rw[gE hi]at hx;cases hx;have ht2:t2[i]?=some (t2[i]'(by omega)):=gE _;obtain⟨b,eb,hb,_⟩:=rr.2 i x2[i] (some (t2[i]'(by omega))) (gE hi) (by rw[ah,ht2];rfl);have lb:=hly _ (aG (by omega:i<t2.length));have stp:=Q9 (nm:=nameOf y) (gE hi) ht2;rw[eb]at stp ⊢;refine⟨_,rfl,_,rfl,_,_,.tup hb (Qx lb.flat),isy,lb.shaped,ly.shaped,_,rfl,?_⟩;by_cases e:nameOf (t2[i]'(by omega))=nameOf y
  ·have eqr:t2[i]'(by omega)=y:=by
    have h1:(t2.map nameOf)[i]?=some (nameOf y):=by rw[ah,ht2,<-e];rfl
    have h2:(t2.map nameOf)[m]?=some (nameOf y):=by rw[ah,hy];rfl
    have hi':i<(t2.map nameOf).length:=by rw[lm];omega
    have him:=(gL hi' nd).mp (h1.trans h2.symm);subst him;rw[ht2]at hy;exact ar hy
   rw[show PyData.eqv (.tuple ((t2[i]'(by omega)).map dF)) (.tuple (y.map dF))=true from by rw[eqr];exact SeqAt.eqv_refl _ ly.lay];refine iteF ?_;refine⟨rfl,?_,by omega,_,rfl⟩;rw[stp,if_pos e,aT]
  ·rw[WX (ri.row _ (aG (by omega:i<t2.length))).1 (ri.row y ymem).1 e];refine iteT ?_;refine⟨_,rfl,rfl,?_,by rw[ay];simp;omega,_,rfl⟩;rw[stp,if_neg e]
 ·obtain⟨rfl,rfl,_,v1,rfl⟩:=p;rw[aF,show t2.take x2.length=t2 from by rw[hl,aF]];have S1:Same H1 (upd H1 l1 (.lst (outV (nameOf y) x2 t2))):=sameNew (Same.refl _) hl1;have e1:upd H1 l1 (.lst (outV (nameOf y) x2 t2)) l1=some (.lst (outV (nameOf y) x2 t2)):=Zd;generalize upd H1 l1 (.lst (outV (nameOf y) x2 t2))=H3 at S1 e1 ⊢;have tp3:=tp.same S1;exact⟨t,.ref l1,fs,n,r1,prs x2 t2,r3,r4,prs (outV (nameOf y) x2 t2) (outR (nameOf y) t2),k,rfl,tp3,⟨⟨l1,rfl,.inl e1⟩,NI (tp3.rows _ (.inr (.inl rfl)) _ _ rfl)⟩,kq m y hy (by rw[ez,en]) H3 S1⟩
end
end TB
namespace L2
open PySem PySem.Spec PyProof.Rows
noncomputable def Wm(l:Addr):It:=⟨λi H=>∃xs,H l=some (.lst xs)/\i<xs.length,λi H x H'=>∃(T:Addr)(xs:List V)(y:V),H T=none/\H l=some (.lst xs)/\xs[i]?=some y/\x=.ref T/\H'=upd H T (.tup [.int i,y]),λi H=>∃xs,H l=some (.lst xs)/\i=xs.length⟩
theorem RH{P:Program}{w:World}{K:aa}{es:List Expr}{k:Nat}{pt:Pos}(l e it:Addr)(hei:e≠it)(hle:l≠e)(hli:l≠it):
  Turn P w K (.Tuple es k pt) (Wm l) [e,it] e (λi h=>(∃old,IsEnum h e it i old)/\h.IsListIter it l i) where
 mem:=by simp
 obj:=λi h st b hb=>by
  obtain⟨⟨old,he⟩,o,ho,c,d⟩:=st
  have hb':b=e\/b=it:=by simpa using hb
  rcases hb' with rfl|rfl
  ·exact⟨_,he,λv z=>by cases z⟩
  ·exact⟨o,ho,λv z=>by rw[d]at z;cases z⟩
 keep:=λi h h' st kk=>by
  obtain⟨⟨old,he⟩,o,ho,r⟩:=st
  exact⟨⟨old,kk e (by simp) _ he⟩,o,kk it (by simp) o ho,r⟩
 item:=by
  intro X hP hw hK hc i pins s σ H E I hf st hg
  subst hP hw hK
  obtain⟨xs,hx,hi⟩:=hg
  obtain⟨⟨old,he⟩,hs⟩:=st
  obtain⟨its,rv,pl,_⟩:=I.list (SqL.of hx)
  have hlen:=rv.length
  have D:=Draws.list (prog:=X.prog) (w:=X.w) (A:=X.A.in1) (I.ok.hd hc) it l hli its.toArray
  have W:=eM D e hei (by simp[hei,bA hle]) (by simp)
  refine W.item i s _ _ (by simp only[au];omega) ⟨⟨old,he⟩,hs,pl.isList⟩ λT vals h' tk hv hT ht hm kk=>?_
  obtain⟨tk',u,hu,rfl⟩:=hv
  obtain⟨y,hy⟩:∃y,xs[i]?=some y:=⟨xs[i],gE hi⟩
  obtain⟨u2,hu2,ru⟩:=rv.get hy
  have hu':its[i]?=some u:=by simpa using hu
  rw[hu']at hu2;cases hu2
  refine⟨_,rfl,?_⟩
  refine W.go es k pt i T {s with heap:=h',toks:=tk} _ _ hm λh2 st2 kk2=>?_
  have hTn:H T=none:=I.hok.fresh hT
  have hap:=W.apart i T h' hm
  have hb2:∀b,b∉[e,it]->∀o,s.heap.get? b=some o->h2.get? b=some o:=λb hb o q=>kk2 b o hb (kk b o hb q)
  have nb:∀b u,H b=some u->b∉[e,it]:=λb u q hb=>by rw[(hf b hb).1]at q;cases q
  have I1:Inv X pins σ (upd H T (.tup [.int i,y])) {s with heap:=h2,toks:=tk}:=by
   refine I.step (g':=s.gens) (d':=s.drawn) (ch:=[e,it]) (λb hb=>?_) (λb o _ _ hb q _=>hb2 b hb o q) (λb o _ _ hb q _=>⟨o.slots,hb2 b hb o q⟩)
    (λb o hb q n=>?_) (λb o hb q=>⟨o,hb2 b hb o q⟩) (λb xs q=>?_) (λb o u q=>?_) (λb ps q=>?_) (λm hm=>?_) ?_ I.bare
   ·obtain⟨g0,g1,g2,g3,g4,g5⟩:=hf b hb
    exact⟨g3,g1,g4,g5⟩
   ·rw[Zh (Nat.ne_of_lt (Nat.lt_of_lt_of_le (Heap.lt_size q) hT))];exact n
   ·rw[Zh (Zk q hTn)];exact q
   ·rw[Zh (Zk q hTn)];exact q
   ·exact⟨#[],by rw[Zh (Zk q hTn),q];simp⟩
   ·obtain⟨o,es',ep,ho,r⟩:=hm
    refine⟨o,es',ep,hb2 _ ?_ o ho,r⟩
    intro hb
    obtain⟨g0,g1,_⟩:=hf _ hb
    exact g1 rfl
   ·intro b ob q
    by_cases hb:b=T
    ·subst hb
     rw[Zd]at q
     cases q
     obtain⟨o,h1,h2',h3⟩:=ht
     exact⟨zl,[.int i tk',u],.cons ⟨_,rfl⟩ (.cons ru .nil),⟨o,kk2 _ _ hap h1,h2',h3⟩⟩
    ·rw[Zh hb]at q
     refine(I.hok b ob q).stay (λc' v hc' q'=>hb2 c' ?_ v q') (λc' q'=>by rw[Zh (Zk q' hTn)];exact q') λc' xs q'=>by rw[Zh (Zk q' hTn)];exact q'
     rcases hc' with rfl|hc'
     ·exact nb _ _ q
     ·exact nb _ _ hc'
  refine⟨.ref T,_,I1,rfl,⟨T,xs,y,hTn,hx,hy,rfl,rfl⟩,⟨st2.1,st2.2.1⟩,λb hb=>?_⟩
  rw[Zh]
  ·exact(hf b hb).1
  ·rintro rfl
   exact hap hb
 done:=by
  intro X hP hw hK hc i pins s σ H E I hf st hg
  subst hP hw hK
  obtain⟨xs,hx,hi⟩:=hg
  obtain⟨⟨old,he⟩,hs⟩:=st
  obtain⟨its,rv,pl,_⟩:=I.list (SqL.of hx)
  have hlen:=rv.length
  have D:=Draws.list (prog:=X.prog) (w:=X.w) (A:=X.A.in1) (I.ok.hd hc) it l hli its.toArray
  have W:=eM D e hei (by simp[hei,bA hle]) (by simp)
  have ei:i=its.toArray.size:=by simp only[au];omega
  subst ei
  refine W.done s _ _ ⟨⟨old,he⟩,hs,pl.isList⟩ λh' tk kk=>⟨rfl,?_⟩
  have nb:∀b u,H b=some u->b∉[e,it]:=λb u q hb=>by rw[(hf b hb).1]at q;cases q
  refine I.step (g':=s.gens) (d':=s.drawn) (ch:=[e,it]) (λb hb=>?_) (λb o _ _ hb q _=>kk b o hb q) (λb o _ _ hb q _=>⟨o.slots,kk b o hb q⟩)
   (λb o hb q n=>n) (λb o hb q=>⟨o,kk b o hb q⟩) (λb xs q=>q) (λb o u q=>q) (λb ps q=>⟨#[],by rw[q];simp⟩) (λm hm=>?_) (λb u q=>?_) I.bare
  ·obtain⟨g0,g1,g2,g3,g4,g5⟩:=hf b hb
   exact⟨g3,g1,g4,g5⟩
  ·obtain⟨o,es',ep,ho,r⟩:=hm
   refine⟨o,es',ep,kk _ o ?_ ho,r⟩
   intro hb
   obtain⟨g0,g1,_⟩:=hf _ hb
   exact g1 rfl
  ·refine(I.hok b u q).stay (λc' v hc' q'=>kk c' v ?_ q') (λ_ q'=>q') λ_ _ q'=>q'
   rcases hc' with rfl|hc'
   ·exact nb _ _ q
   ·exact nb _ _ hc'
 self:=λA i s Q E st h=>by
  obtain⟨⟨old,he⟩,_⟩:=st
  exact fE he h
section
variable {X:Cx}
noncomputable def iEnL(ta:TA):TI:=λσ H R=>ta σ H λvs H1=>∃(l:Addr)(xs:List V),vs=[.ref l]/\H1 l=some (.lst xs)/\R (Wm l) H1
theorem Q6{a:Expr}{ta:TA}{p pos pt:Pos}{es:List Expr}{k:Nat}(hg:Gl X "enumerate")(hm:X.mg "enumerate"=none)(ha:PA X [a] ta)(hb:bF "enumerate"=some (.type "enumerate"))(hs:aD [a] X.env=[(false,eval a X.env)]:=by rfl):PI X (.Tuple es k pt) (.Call (.Name "enumerate" p) [a] [] pos) (iEnL ta):=by
 intro pins s σ H R I h;refine Call_ (J1 I hg hm hb (br (thn (ha pos pins s σ H _ I h) λus s1 hZ=>?_) hs rfl));obtain⟨vs,H1,I1,r1,q1⟩:=hZ;obtain⟨l,xs,e,hx,q⟩:=q1;subst e;cases r1 with
|cons r rr=>
  cases rr;cases r;obtain⟨its,rv,pl,_⟩:=I1.list (SqL.of hx);refine call_enumerate_list pl.isList λh' he hst _ kk=>?_;have I2:Inv X pins σ H1 {s1 with heap:=h'}:=I1.kept (t':=s1.toks) kk;refine fE he ?_;have lt:l<s1.heap.objs.size:=I1.hok.lt hx;refine⟨s1.heap.objs.size+1,[s1.heap.objs.size+1,s1.heap.objs.size],_,_,H1,rfl,I2,RH l (s1.heap.objs.size+1) s1.heap.objs.size (Nat.succ_ne_self _) (Nat.ne_of_lt (Nat.lt_succ_of_lt lt)) (Nat.ne_of_lt lt),⟨⟨_,he⟩,hst⟩,λb hb=>?_,q⟩;have e:b=s1.heap.objs.size+1\/b=s1.heap.objs.size:=by simpa using hb
  rcases e with e|e<;>subst e
  ·exact I1.fpOk (Nat.le_succ _) (I1.hok.fresh (Nat.le_succ _))
  ·exact I1.fpOk (Nat.le_refl _) (I1.hok.fresh (Nat.le_refl _))
end
theorem Lk{X:Cx}{K:aa}(hK:X.K=K):OpR X (bE .In) (rIn K false):=hK▸WH
end L2
namespace TB
open PySem L2 PySem.Spec PyProof.Rows WD
noncomputable def Zx(ps:Pl):List Str:=(ps.filter λp=>p.2.isNone).map (·.1)
noncomputable def ZQ(bits:Int):Nat->List Str->List Str
|_,[]=>[]
|i,z::zs=>if bg bits (1*2 ^ i)=0 then z::ZQ bits (i+1) zs else ZQ bits (i+1) zs
theorem VP(bits:Int)(z:Str):∀(l:List Str)(j:Nat),ZQ bits j (l++[z])=ZQ bits j l++(if bg bits (1*2 ^ (j+l.length))=0 then[z]else[])
|[],j=>by show(if _ then _ else _)=_;split<;>simp_all[ZQ]
|a::l,j=>by have ih:=VP bits z l (j+1);rw[show j+1+l.length=j+(a::l).length from by simp;omega]at ih;show(if _ then a::ZQ bits (j+1) (l++[z])else ZQ bits (j+1) (l++[z]))=(if _ then a::ZQ bits (j+1) l else ZQ bits (j+1) l)++_;rw[ih];split<;>rfl
noncomputable def ZF(bits:Int)(ps:Pl):Pl:=ps.map λp=>if p.1∈ZQ bits 0 (Zx ps)then(p.1,some 0)else p
def RowN(H:Hp)(v:V)(ys:List V):Prop:=∃p,v=.ref p/\H p=some (.tup ys)
theorem Pr{H:Hp}:∀{zs:List V}{rs:List (List V)},cU (RowN H) zs rs->(∀r∈rs,∀y∈r,∃T,Th H y T)->ZZ H zs (rs.map some)
|_,_,.nil,_=>⟨rfl,λi x r h=>by simp at h⟩
|_,_,.cons ⟨p,e,h⟩ t,ht=>by
  have ih:=Pr t λr hr=>ht r (av _ hr);refine⟨by simp[ih.1],λi x r g1 g2=>?_⟩;cases i with
 |zero=>simp at g1 g2;subst g1 g2;exact⟨p,e,h,ht _ aB⟩
 |succ i=>exact ih.2 i x r (by simpa using g1) (by simpa using g2)
theorem Pu{α β:Type}{F:α->β->Prop}:∀{l1 l3:List α}{l2 l4:List β},cU F l1 l2->cU F l3 l4->cU F (l1++l3) (l2++l4)
|_,_,_,_,.nil,h=>h
|_,_,_,_,.cons a b,h=>.cons a (Pu b h)
theorem TY(z:Str)(l:List Str):inV (.str z) (l.map V.str)=decide (z∈l):=by
 unfold inV;rw[Bool.eq_iff_iff,List.any_eq_true,decide_eq_true_iff];constructor
 ·rintro ⟨y,hy,e⟩;obtain⟨s,hs,rfl⟩:=aq.mp hy;have:s=z:=by simpa[eqV]using e
  rw[<-this];exact hs
 ·intro h;exact⟨_,aq.mpr ⟨z,h,rfl⟩,by simp[eqV]⟩
def Vw(C Cb Ch:Addr):Sp:=λvs H Q E=>∃(t:Addr)(bv:V)(Tb:String)(fs:List (Str×V))(n:Int)(r2 r3 r4:PR)(x1:List V)(ps:Pl)(k:Ks),vs=[.ref t,bv]/\TabP H C t fs n (prs x1 (ps.map plRow)) r2 r3 r4 k/\ps.length<=14/\Th H bv Tb/\(K1.Zq bv 0 (1*2 ^ (Zx ps).length-1)=false->∀H0,Same H H0->Err1 Ch "found" bv H0 E) /\∀bits,bv=.int bits->K1.Zq bv 0 (1*2 ^ (Zx ps).length-1)=true->∀H0 y1,Same H H0->ZZ H0 y1 (((ZF bits ps).map plRow).map some)->Ve C Cb (.int n) (prs y1 ((ZF bits ps).map plRow)) r2 r3 r4 H0 Q E
section
variable {P:Program}{w:World}{K:aa}{mg:Str->Option Value}{base:Heap}{C Cb Ch:Addr}
theorem Yu:FnScope ["self","bits","homes","closed","places"] ["self","bits"] (Zb T.m_Table_with_homes):=scO
noncomputable def Xg:Scope:=csx [(".0",.local),("number",.local),("name",.local),("bits",.free)]
theorem JC:CompScope Xg (Zb T.m_Table_with_homes):=⟨rfl,by decide +kernel,by decide +kernel,by decide +kernel⟩
theorem YV:(["number","name","bits"]:List Str).Nodup:=by decide +kernel
theorem JD:CompNames ["self","bits","homes","closed","places"] Xg ["number","name","bits"] [none,none,some 1]:=.mk' (by decide +kernel)
noncomputable def YC:Scope:=csx [(".0",.local),("name",.local),("room",.local),("closed",.free)]
theorem JA:CompScope YC (Zb T.m_Table_with_homes):=⟨rfl,by decide +kernel,by decide +kernel,by decide +kernel⟩
theorem YU:(["name","room","closed"]:List Str).Nodup:=by decide +kernel
theorem JB:CompNames ["self","bits","homes","closed","places"] YC ["name","room","closed"] [none,none,some 3]:=.mk' (by decide +kernel)
theorem Pe(B:∀x∈Blts,mg x=none)(Z:TCl K C)(M:TMk P w K mg base C Cb)(BH:Err P w K mg base "NoHomes" ["found"] Ch)(CI:Can P w K mg base 2 "is_within" ["thing","low","high"] K1.Xv)(CH:CanM P w K mg base CX0 1 C "homes" ["self"] (Tq C))(D:DfM K C "with_homes" "Table.with_homes" T.m_Table_with_homes ["self","bits"]):CanM P w K mg base (CX1 P w) 9 C "with_homes" ["self","bits"] (Vw C Cb Ch):=by
 obtain⟨fm,fdm,hM,FM,bM⟩:=M.made;refine D.cnX Yu λf cdv A outer s H vs Q E hr h=>?_;obtain⟨t,bv,Tb,fs,n,r2,r3,r4,x1,ps,k,rfl,tp,hlen,tbv,kb,kg⟩:=h;refine⟨_,(Ze (st 2 Yu.nd (JI CH Z.cl YM hr.m (pv 0))) (Ze (ZO (Z8 (Z1 (cn CI hr (Za (pv 1) (Za Zc (Za (Zv Jv (Zv R4 Zc (ZG (r:=rLen K) YB rfl (bm B) bC (Za (pv 2) Zf))) Zc) Zf)))))) (Zi (Xk (E:=E) BH Yt rfl hr.m rfl (Za (pv 1) Zf))) Zy) (Ze (Z9 (i:=3) Yu.nd rfl (cQ rfl) (Z7 rfl JC JD (Q6 rfl (bm B) (Za (pv 2) Zf) (by decide +kernel)) (λC s H ex pn=>(Y8 (K:=K) (n:=2) rfl rfl (Zl (nmT 0 YV) (Zl (nmT 1 YV) ZL)))) (λC s H ex pn=>(Xq (Zw YR (Zv Lo (pv 2) (Zv R4 Zc (pv 0))) Zc (ZC _)))) (λC s H ex pn=>(pv 1)))) (Ze (YD (i:=4) Yu.nd rfl (bw rfl) (scope:=YC) (N:=["name","room","closed"]) (cp:=[none,none,some 3]) rfl JA JB (VD (ZD (pv 0) rfl)) (λC s H ex pn=>(Y8 (K:=K) (n:=2) rfl rfl (Zl (nmT 0 YU) (Zl (nmT 1 YU) ZL)))) (λC s H ex pn=>ZV) (λC s H ex pn=>(VE (Zw (Lk (K:=K) rfl) (pv 0) (pv 2) (by with_unfolding_all rfl)) (ZE (Za (pv 0) (Za Zc Zf))) (ZE (Za (pv 0) (Za (pv 1) Zf)))))) (Zi (Zo (Jo hM FM hr rfl M.mg bM .nil Yt (Za (ZD (pv 0) rfl) (Za (pv 4) (Za (ZD (pv 0) rfl) (Za (ZD (pv 0) rfl) (Za (ZD (pv 0) rfl) Zf)))))))))))),?_⟩;obtain⟨dx,ht⟩:=id tp.tab.tab.at_;obtain⟨l1,d1,xs,rs,a1,a2,a3,a4,a5⟩:=id tp.tab.p;cases a3;have rr:=tp.rows _ (.inl rfl) _ _ rfl;refine mthV ht (tp.tab.tab.only _ (by decide +kernel)) ⟨t,fs,l1,ps,rfl,tp.tab.tab,a1,⟨x1,a4,rr⟩,by omega,λq hq=>?_⟩;rw[show((ps.filter λp=>p.2.isNone).map λp=>V.str p.1)=(Zx ps).map V.str from by unfold Zx;rw[bI];rfl];have hhl:(Zx ps).length<=14:=by unfold Zx;rw[lm];exact Nat.le_trans (bu _ _) hlen
 have S1:Same H (upd H q (.lst ((Zx ps).map V.str))):=sameNew (Same.refl _) hq;have e1:upd H q (.lst ((Zx ps).map V.str)) q=some (.lst ((Zx ps).map V.str)):=Zd;generalize upd H q (.lst ((Zx ps).map V.str))=H1 at S1 e1 ⊢;have cp:∀m:Nat,m<=14->CPow 1 (m:Int):=λm hm=>⟨by omega,by omega,by decide⟩;refine⟨_,rfl,_,rfl,q,_,rfl,.inl (SqL.of e1),_,_,rfl,rfl,cp _ (by rw[lm];exact hhl),_,_,rfl,rfl,bv,Tb,0,_,rfl,tbv.same S1,_,rfl,?_⟩;rw[lm,Int.toNat_natCast];cases hw:K1.Zq bv 0 (1*2 ^ (Zx ps).length-1)with
|false=>refine iteT ?_;exact⟨_,rfl,rfl,kb hw H1 S1⟩
|true=>
  refine iteF ?_;obtain⟨bits,rfl⟩:∃i,bv=.int i:=by
   cases bv with
  |int i=>exact⟨i,rfl⟩
  |_=>cases hw
  refine⟨_,rfl,q,_,rfl,e1,?_⟩;refine Y9 (J:=Wm q) (Zx ps).length (Nat.le_trans hhl (by decide)) (λi zs τ H'=>Same H1 H'/\zs=(ZQ bits 0 ((Zx ps).take i)).map V.str/\zs.length<=i/\∃v1 v2,τ=[v1,v2,some (.int bits)]) ⟨Same.refl _,rfl,Nat.le_refl _,none,none,rfl⟩ (λi zs τ H' p=>p.2.2.1) (λi zs τ H' hi p=>⟨_,p.1 _ _ e1,by rw[lm];exact hi⟩) (λzs τ H' p=>⟨_,p.1 _ _ e1,by rw[lm]⟩) (λi zs τ H' x' H2 hi p yl=>?_) (λzs τ H2 p l5 hl5=>?_)
  ·obtain⟨sm,rfl,hz,v1,v2,rfl⟩:=p;obtain⟨Tt,ys,y,hT,hy,gy,rfl,rfl⟩:=yl;rw[sm _ _ e1]at hy;cases hy;rw[ah,gE hi]at gy;cases gy;have sm2:=sameNew (o:=.tup [.int i,.str (Zx ps)[i]]) sm hT;have stp:ZQ bits 0 ((Zx ps).take (i+1))=ZQ bits 0 ((Zx ps).take i)++(if bg bits (1*2 ^ i)=0 then[(Zx ps)[i]]else[]):=by
    have:(Zx ps).take (i+1)=(Zx ps).take i++[(Zx ps)[i]]:=by rw[aV,gE hi];rfl
    rw[this,VP,Nat.zero_add,aw,show min i (Zx ps).length=i from by omega]
   refine⟨Tt,_,rfl,SqT.of Zd,rfl,_,_,rfl,_,_,rfl,rfl,_,rfl,_,rfl,_,_,rfl,rfl,cp i (by omega),_,_,rfl,rfl,rfl,_,rfl,?_⟩;rw[Int.toNat_natCast];refine YS (λe=>?_) (λe=>?_)
   ·have e0:bg bits (1*2 ^ i)=0:=by simpa using e
    refine⟨_,rfl,sm2,?_,by rw[ay];exact Nat.add_le_add hz (Nat.le_refl _),_,_,rfl⟩;rw[stp,if_pos e0,aE];rfl
   ·have e0:¬bg bits (1*2 ^ i)=0:=by simpa using e
    refine⟨sm2,?_,by omega,_,_,rfl⟩;rw[stp,if_neg e0,aT]
  obtain⟨sm,rfl,_,v1,v2,rfl⟩:=p;rw[aF];generalize hcl:ZQ bits 0 (Zx ps)=cl;have Sb:=S1.trans sm;have S3:Same H (upd H2 l5 (.lst (cl.map V.str))):=sameNew Sb hl5;have e5:upd H2 l5 (.lst (cl.map V.str)) l5=some (.lst (cl.map V.str)):=Zd;generalize upd H2 l5 (.lst (cl.map V.str))=H5 at S3 e5 ⊢;clear e1 S1 sm hl5 Sb;have tr:Jr H5 l1 (ps.map plRow):=Jr.same S3 ⟨x1,a4,rr⟩;refine⟨_,rfl,t,C,dx,fs,_,rfl,S3 _ _ ht,Z.cl,Z.na _ (by simp[fields]),a1,l1,rfl,⟨_,SqT.of tr.choose_spec.1⟩,?_⟩;refine ZI (J:=Itt K l1) (ps.map plRow).length (Nat.le_trans (by rw[lm];exact hlen:(ps.map plRow).length<=14) (by decide)) (λi zs τ H'=>Same H5 H'/\cU (RowN H') zs (((ZF bits ps).take i).map plRow)/\∃v1 v2,τ=[v1,v2,some (.ref l5)]) ⟨Same.refl _,.nil,none,none,rfl⟩ (λi zs τ H' p=>?_) (λi zs τ H' hi p=>(tr.same p.1).go hi) (λzs τ H' p=>(tr.same p.1).stop) (λi zs τ H' x' H6 hi p yl=>?_) (λzs τ H6 p l7 hl7=>?_)
  ·have:=p.2.1.length;rw[this,lm,aw];omega
  ·obtain⟨sm,pr,v1,v2,rfl⟩:=p;have hi':i<ps.length:=by simpa using hi
   have e0:ps[i]?=some ps[i]:=gE hi';obtain⟨rfl,a,rfl,ha⟩:=(tr.same sm).item (r:=plRow ps[i]) (by rw[ah,e0];rfl) yl;have stp:(ZF bits ps).take (i+1)=(ZF bits ps).take i++[if ps[i].1∈cl then(ps[i].1,some 0)else ps[i]]:=by rw[aV];unfold ZF;rw[ah,e0,hcl];rfl
   refine⟨a,_,rfl,SqT.of ha,rfl,_,_,rfl,_,_,rfl,rfl,_,rfl,_,rfl,l5,_,rfl,.inl (SqL.of (sm _ _ e5)),rfl,by simp[Uj],_,rfl,?_⟩;rw[if_neg (by decide),TY];have fin:∀(r:Option Int)(c:Addr),(if ps[i].1∈cl then(ps[i].1,some 0)else ps[i])=(ps[i].1,r)->H6 c=none->Same H5 (upd H6 c (.tup [.str ps[i].1,Yx r]))/\cU (RowN (upd H6 c (.tup [.str ps[i].1,Yx r]))) (zs++[.ref c]) (((ZF bits ps).take (i+1)).map plRow):=λr c e hc=>by refine⟨sameNew sm hc,?_⟩;rw[stp,aE,e];exact Pu (Paired.mapP pr λ_ _⟨p,e,h⟩=>⟨p,e,sameNew (Same.refl _) hc _ _ h⟩) (.cons ⟨c,rfl,Zd⟩ .nil)
   refine YS (λe=>?_) (λe=>?_)
   ·have hm:ps[i].1∈cl:=by simpa using e
    refine⟨_,rfl,zl,λc hc=>?_⟩;obtain⟨f1,f2⟩:=fin (some 0) c (by rw[if_pos hm]) hc;exact⟨f1,f2,_,_,rfl⟩
   ·have hm:¬ps[i].1∈cl:=by simpa using e
    refine⟨_,rfl,_,rfl,zl,λc hc=>?_⟩;obtain⟨f1,f2⟩:=fin ps[i].2 c (by rw[if_neg hm]) hc;exact⟨f1,f2,_,_,rfl⟩
  obtain⟨sm,pr,v1,v2,rfl⟩:=p;rw[show(ZF bits ps).take (ps.map plRow).length=ZF bits ps from aO (by unfold ZF;rw[lm,lm];exact Nat.le_refl _)]at pr;have S7:Same H (upd H6 l7 (.lst zs)):=sameNew (S3.trans sm) hl7;have e7:upd H6 l7 (.lst zs) l7=some (.lst zs):=Zd;have pr7:cU (RowN (upd H6 l7 (.lst zs))) zs ((ZF bits ps).map plRow):=Paired.mapP pr λ_ _⟨p,e,h⟩=>⟨p,e,sameNew (Same.refl _) hl7 _ _ h⟩;generalize upd H6 l7 (.lst zs)=H7 at S7 e7 pr7 ⊢;have hsh:∀p∈ps,p.1.length<=1000:=λp hp=>by
   obtain⟨i,hi⟩:=bh.mp hp;have hx:i<x1.length:=by rw[rr.1,lm,lm];exact(aj.mp hi).1
   obtain⟨_,_,_,th⟩:=rr.2 i x1[i] (some (plRow p)) (gE hx) (by rw[ah,ah,hi];rfl);obtain⟨T,t⟩:=th (.str p.1) aB;cases t with
  |str _ h=>exact h
  have rN:=Pr pr7 (λr hr y hy=>by
   obtain⟨p',hp',rfl⟩:=aq.mp hr;unfold ZF at hp';obtain⟨p,hp,rfl⟩:=aq.mp hp';have hs:=hsh p hp;have:∃r:Option Int,(if p.1∈ZQ bits 0 (Zx ps)then(p.1,some 0)else p)=(p.1,r):=by
    split
    ·exact⟨_,rfl⟩
    ·exact⟨_,rfl⟩
   obtain⟨r,er⟩:=this;rw[er]at hy;simp only[plRow,aA,aJ,or_false]at hy;rcases hy with rfl|rfl
   ·exact⟨_,.str _ hs⟩
   ·cases r with
   |none=>exact⟨_,.non⟩
   |some i=>exact⟨_,.int i⟩)
  have p1':Yz H7 (.ref l7) (prs zs ((ZF bits ps).map plRow)):=⟨⟨l7,rfl,.inl e7⟩,rN⟩;have tp7:=tp.same S7;obtain⟨dx',ht'⟩:=id tp7.tab.tab.at_;obtain⟨m2,b2,p2⟩:=tp7.tab.r.part (tp7.rows _ (.inr (.inl rfl)));obtain⟨m3,b3,p3⟩:=tp7.tab.w.part (tp7.rows _ (.inr (.inr (.inl rfl))));obtain⟨m4,b4,p4⟩:=tp7.tab.g.part (tp7.rows _ (.inr (.inr (.inr rfl))));exact⟨_,rfl,t,C,dx',fs,_,rfl,ht',Z.cl,Z.na _ (by simp[fields]),tp7.tab.turns,_,rfl,_,rfl,t,C,dx',fs,_,rfl,ht',Z.cl,Z.na _ (by simp[fields]),b2,_,rfl,t,C,dx',fs,_,rfl,ht',Z.cl,Z.na _ (by simp[fields]),b3,_,rfl,t,C,dx',fs,_,rfl,ht',Z.cl,Z.na _ (by simp[fields]),b4,UY (.int n) p1' p2 p3 p4 (kg bits rfl hw H7 zs S7 rN)⟩
end
theorem Ep(b n:Nat):b &&& 2 ^ n=0↔b / 2 ^ n % 2=0:=by
 have ht:b.testBit n=decide (b / 2 ^ n % 2=1):=Nat.testBit_eq_decide_div_mod_eq;constructor
 ·intro h;have:=congrArg (λx=>Nat.testBit x n) h;simp only[Nat.testBit_and,Nat.testBit_two_pow_self,Bool.and_true,Nat.zero_testBit]at this;rw[ht,decide_eq_false_iff_not]at this;omega
 ·intro h;refine Nat.eq_of_testBit_eq λi=>?_;rw[Nat.testBit_and,Nat.zero_testBit,Nat.testBit_two_pow];by_cases e:n=i
  ·subst e;rw[ht,decide_eq_false (by omega)];rfl
  ·rw[decide_eq_false e,Bool.and_false]
theorem Wj{bits:Int}(h:0<=bits)(n:Nat):(bg bits (1*2 ^ n)=0)↔(bits / (1*2 ^ n) % 2=0):=by
 obtain⟨b,rfl⟩:∃b:Nat,bits=b:=⟨bits.toNat,by omega⟩;have e2:(1*2 ^ n:Int)=((2 ^ n:Nat):Int):=by simp
 rw[e2];generalize hm:2 ^ n=m;have e1:bg (b:Int) (m:Int)=((b &&& m:Nat):Int):=by unfold bg;rw[decide_eq_true (by omega:(0:Int)<=b),decide_eq_true (by omega:(0:Int)<=m)];simp
 rw[e1];have e3:((b:Int) / (m:Int) % 2=0)↔(b / m % 2=0):=by rw[<-Int.natCast_ediv];omega
 have e4:(((b &&& m:Nat):Int)=0)↔(b &&& m=0):=by omega
 rw[e3,e4,<-hm];exact Ep b n
end TB
namespace WD
open PySem L2 PySem.Spec PyProof.Rows TB
def GS(z:Str):Prop:=z.length<=12/\∀c∈z.cps.toList,c<0x110000
noncomputable instance (z:Str):Decidable (GS z):=by unfold GS;infer_instance
inductive Atm:V->Prop
|non:Atm .non
|int {i:Int} (h:i.natAbs<=1000):Atm (.int i)
|str {z:Str} (h:GS z):Atm (.str z)
theorem Atm.is{H:Hp}{v:V}(h:Atm v):Is H v (dF v):=by
 cases h with
|non=>exact .non
|int h=>exact .int _
|str h=>exact .str _
theorem XG{H:Hp}:∀{ys:List V},(∀y∈ys,Atm y)->IsAll H ys (ys.map dF)
|[],_=>.nil
|y::ys,h=>.cons (h y aB).is (XG λz hz=>h z (av _ hz))
def RowG(ys:List V):Prop:=ys.length<=6/\∀y∈ys,Atm y
noncomputable def rowD(ys:List V):PyData:=.tuple (ys.map dF)
structure Sm(d:PyData)(k m:Nat):Prop where
 sh:d.showable=true
 lv:d.leavesShort 13=true
 dp:d.depth<=k
 wt:d.weight<=m
theorem lgk{i:Nat}(h:i<=1000):i.log2<=11:=by
 by_cases e:i=0
 ·subst e;decide
 ·exact Nat.lt_succ_iff.mp ((Nat.log2_lt e).mpr (by omega))
theorem shown_int{i:Int}(h:i.natAbs<=1000):((PyData.int i).shown).length<=13:=by
 have key:∀n:Nat,n<=1000->((PyData.int n).shown).length<=13/\((PyData.int (-(n:Int))).shown).length<=13:=by intro n hn;have:=(by decide +kernel:∀k∈aY 1001,((PyData.int (k:Nat)).shown).length<=13/\((PyData.int (-((k:Nat):Int))).shown).length<=13);exact this n (b_.mpr (by omega))
 rcases Int.natAbs_eq i with e|e
 ·rw[e];exact(key _ h).1
 ·rw[e];exact(key _ h).2
theorem Atm.sm{v:V}(h:Atm v):Sm (dF v) 0 12:=by
 cases h with
|non=>exact⟨rfl,rfl,Nat.le_refl _,Nat.zero_le _⟩
|int h=>
  have:=lgk h;refine⟨?_,?_,Nat.le_refl _,?_⟩
  ·simp only[dF,PyData.showable,decide_eq_true_eq];omega
  ·simp only[dF,PyData.leavesShort,decide_eq_true_eq];exact shown_int h
  ·simp only[dF,PyData.weight];split<;>omega
|str h=>refine⟨by simp only[dF,PyData.showable],?_,Nat.le_refl _,h.1⟩;simp only[dF,PyData.leavesShort,bZ,decide_eq_true_eq];exact λc hc=>Nat.lt_of_lt_of_le (h.2 c hc) (by decide)
structure SmAll(ds:List PyData)(k m:Nat):Prop where
 sh:PyData.showableAll ds=true
 lv:PyData.leavesShortAll 13 ds=true
 dp:PyData.depthAll ds<=k
 wt:PyData.weightAll ds<=ds.length*(m+1)
theorem SmAll.of{k m:Nat}:∀{ds:List PyData},(∀d∈ds,Sm d k m)->SmAll ds k m
|[],_=>⟨rfl,rfl,Nat.zero_le _,Nat.zero_le _⟩
|d::ds,h=>by
  have h1:=h d aB;have h2:=SmAll.of (ds:=ds) λx hx=>h x (av _ hx);refine⟨?_,?_,?_,?_⟩
  ·simp only[PyData.showableAll,h1.sh,h2.sh,Bool.and_self]
  ·simp only[PyData.leavesShortAll,h1.lv,h2.lv,Bool.and_self]
  ·simp only[PyData.depthAll];have:=h1.dp;have:=h2.dp;omega
  ·simp only[PyData.weightAll,aN,Nat.succ_mul];have:=h1.wt;have:=h2.wt;omega
theorem SmAll.tup{ds:List PyData}{k m n:Nat}(h:SmAll ds k m)(hl:ds.length<=n):Sm (.tuple ds) (k+1) (n*(m+1)):=by
 refine⟨?_,?_,?_,?_⟩
 ·simp only[PyData.showable,h.sh]
 ·simp only[PyData.leavesShort,h.lv]
 ·simp only[PyData.depth];have:=h.dp;omega
 ·simp only[PyData.weight];exact Nat.le_trans h.wt (Nat.mul_le_mul_right _ hl)
theorem Sm.mono{d:PyData}{k m k' m':Nat}(h:Sm d k m)(hk:k<=k')(hm:m<=m'):Sm d k' m':=⟨h.sh,h.lv,Nat.le_trans h.dp hk,Nat.le_trans h.wt hm⟩
theorem K5{ys:List V}(h:RowG ys):Sm (rowD ys) 1 78:=(SmAll.of (ds:=ys.map dF) (k:=0) (m:=12) λd hd=>by obtain⟨y,hy,rfl⟩:=aq.mp hd;exact(h.2 y hy).sm).tup (n:=6) (by rw[lm];exact h.1)
theorem Atm.lay{v:V}(h:Atm v):(dF v).canLay0=true:=by
 cases h with
|non=>rfl
|int h=>rfl
|str h=>show(Array.all _ _)=true;rw[Array.all_eq_true'];intro c hc;exact decide_eq_true (h.2 c (Array.mem_toList_iff.mpr hc))
theorem Qu:∀{ds:List PyData},(∀d∈ds,d.canLay0=true)->PyData.canLayAll0 ds=true
|[],_=>rfl
|d::ds,h=>by show(d.canLay0&&PyData.canLayAll0 ds)=true;rw[h d aB,Qu λe he=>h e (av _ he)];rfl
theorem Qn{ys:List V}(h:RowG ys):(rowD ys).canLay0=true:=Qu (ds:=ys.map dF) λd hd=>by obtain⟨y,hy,rfl⟩:=aq.mp hd;exact(h.2 y hy).lay
structure Shw(d:PyData):Prop where
 sh:d.showable=true
 dp:d.depth<=64
 len:d.shown.length<=sizeLine
end WD
namespace L2
open PySem PySem.Spec PyProof.Rows
theorem Md{P:Program}{w:World}{X:Cx}:Passes (CX1 P w) X E0:=λ_ _ _ _ _ _ _ h=>by obtain⟨x,c,dd,B,H',_,_,_,_,_,_,_,hE⟩:=h;exact hE.elim
end L2
namespace WD
open PySem L2 PySem.Spec PyProof.Rows TB
def isJ(j:Nat):Prop:=j=1\/j=2\/j=3\/j=4
theorem NY{H:Hp}{y:V}(h:Flat y):∃T,Th H y T:=by
 rcases h with rfl|⟨i,rfl⟩|⟨z,rfl,hz⟩
 ·exact⟨_,.non⟩
 ·exact⟨_,.int i⟩
 ·exact⟨_,.str z hz⟩
structure TbAt(b:Addr)(H:Hp)(p:Addr)(T:Tb)(l1 l2 l3 l4:Addr):Prop where
 ne:p≠b
 at_:H p=some (.lst [.int T.n,.ref l1,.ref l2,.ref l3,.ref l4])
 pl:RowsAt b H l1 T.t1
 rd:RowsAt b H l2 T.t2
 wy:RowsAt b H l3 T.t3
 gr:RowsAt b H l4 T.t4
theorem TbAt.same{b:Addr}{H H':Hp}{p:Addr}{T:Tb}{l1 l2 l3 l4:Addr}(s:Zg b H H')(h:TbAt b H p T l1 l2 l3 l4):TbAt b H' p T l1 l2 l3 l4:=⟨h.ne,s _ _ h.at_ h.ne,h.pl.same s,h.rd.same s,h.wy.same s,h.gr.same s⟩
theorem RowsAt.part{b:Addr}{H:Hp}{l:Addr}{rows:List (List V)}(h:RowsAt b H l rows)(hf:∀ys∈rows,∀y∈ys,Flat y):∃xs:List V,xs.length=rows.length/\H l=some (.lst xs)/\(∀x∈xs,∃a,x=.ref a/\a≠b)/\ZZ H xs (rows.map some):=by
 obtain⟨n,as,e,hl,r⟩:=h;refine⟨as.map V.ref,by rw[lm,hl],e,λx hx=>?_,by simp[hl],λi x r' e1 e2=>?_⟩
 ·obtain⟨a,ha,rfl⟩:=aq.mp hx;obtain⟨i,hi⟩:=bh.mp ha;have h1:i<rows.length:=by rw[<-hl];exact(aj.mp hi).1
  exact⟨a,rfl,(r i a _ hi (gE h1)).1⟩
 ·rw[ah]at e1 e2;obtain⟨a,ha,rfl⟩:=a9.mp e1;obtain⟨q,hq,rfl⟩:=a9.mp e2;exact⟨a,rfl,(r i a q ha hq).2,λy hy=>NY (hf q (aK hq) y hy)⟩
theorem OkTb.flat{T:Tb}(o:OkTb T){j:Nat}(hj:isJ j):∀ys∈T.part j,∀y∈ys,Flat y:=λys h=>((o.part j hj).2.row ys h).flat
def Tel(H:Hp)(C t:Addr)(T:Tb):Prop:=∃fs x1 x2 x3 x4 k,TabP H C t fs T.n (prs x1 T.t1) (prs x2 T.t2) (prs x3 T.t3) (prs x4 T.t4) k/\TbDict T x2 x3 x4 k
theorem Tel.same{H H':Hp}{C t:Addr}{T:Tb}(s:Same H H')(h:Tel H C t T):Tel H' C t T:=by obtain⟨fs,x1,x2,x3,x4,k,tp,d⟩:=h;exact⟨fs,x1,x2,x3,x4,k,tp.same s,d⟩
theorem UZ{C Cb:Addr}{H:Hp}{Q:VK}{E:XK}{T:Tb}(o:OkTb T){x1 x2 x3 x4:List V}(r1:ZZ H x1 (T.t1.map some))(r2:ZZ H x2 (T.t2.map some))(r3:ZZ H x3 (T.t3.map some))(r4:ZZ H x4 (T.t4.map some))(k:∀H' x,Same H H'->H x=none->Tel H' C x T->Q (.ref x) H'):Ve C Cb (.int T.n) (prs x1 T.t1) (prs x2 T.t2) (prs x3 T.t3) (prs x4 T.t4) H Q E:=by
 obtain⟨kk,e,d⟩:=KA o (by rw[r1.1,lm]) (by rw[r2.1,lm]) (by rw[r3.1,lm]) (by rw[r4.1,lm]);unfold Ve;rw[e];refine λH' x fs n s hx en tb=>k H' x s hx ⟨fs,x1,x2,x3,x4,kk,⟨?_,λr hr xs rs er=>?_⟩,d⟩
 ·injection en with en;rw[en];exact tb
 ·rcases hr with rfl|rfl|rfl|rfl
  ·cases er;exact r1.same s
  ·cases er;exact r2.same s
  ·cases er;exact r3.same s
  ·cases er;exact r4.same s
def QR(C:Addr):Sp:=λvs H Q _=>∃(b p l1 l2 l3 l4:Addr)(T:Tb),vs=[.ref p]/\TbAt b H p T l1 l2 l3 l4/\OkTb T/\∀H' t,Same H H'->Tel H' C t T->Q (.ref t) H'
section
variable {P:Program}{w:World}{K:aa}{mg:Str->Option Value}{base:Heap}{C Cb:Addr}
theorem Qe:FnScope [q_w] [q_w] (Zb T.f__law_table):=scO
theorem SE(B:∀x∈Blts,mg x=none)(M:TMk P w K mg base C Cb)(D:Df K mg "_law_table" T.f__law_table [q_w]):Can P w K mg base 9 "_law_table" [q_w] (QR C):=by obtain⟨fm,fdm,hM,FM,bM⟩:=M.made;refine D.cn Qe λf cdv A outer s H vs Q E hr h=>?_;obtain⟨b,p,l1,l2,l3,l4,T,rfl,tb,ok,k⟩:=h;refine⟨_,(Zi (Zo (Jo hM FM hr rfl M.mg bM .nil Md (Za (il K (pv 0) Zc) (Za (Y2 GV rfl (bm B) GW (Za (il K (pv 0) Zc) Zf)) (Za (Y2 JE rfl (bm B) VQ (Za (il K (pv 0) Zc) Zf)) (Za (Y2 GV rfl (bm B) GW (Za (il K (pv 0) Zc) Zf)) (Za (Y2 JE rfl (bm B) VQ (Za (il K (pv 0) Zc) Zf)) Zf)))))))),?_⟩;obtain⟨x1,_,h1,_,r1⟩:=tb.pl.part (ok.flat (.inl rfl));obtain⟨x2,_,h2,_,r2⟩:=tb.rd.part (ok.flat (.inr (.inl rfl)));obtain⟨x3,_,h3,_,r3⟩:=tb.wy.part (ok.flat (.inr (.inr (.inl rfl))));obtain⟨x4,_,h4,_,r4⟩:=tb.gr.part (ok.flat (.inr (.inr (.inr rfl))));refine ixL 0 tb.at_ rfl (ixL 1 tb.at_ rfl ⟨l1,x1,rfl,.inl (SqL.of h1),λc1 hc1=>?_⟩);have S1:Same H (upd H c1 (.lst x1)):=sameNew (Same.refl _) hc1;have e1:upd H c1 (.lst x1) c1=some (.lst x1):=Zd;generalize upd H c1 (.lst x1)=H1 at S1 e1 ⊢;refine ixL 2 (S1 _ _ tb.at_) rfl ⟨l2,x2,rfl,.inl ⟨SqL.of (S1 _ _ h2),λc2 hc2=>?_⟩⟩;have S2:Same H1 (upd H1 c2 (.tup x2)):=sameNew (Same.refl _) hc2;have e2:upd H1 c2 (.tup x2) c2=some (.tup x2):=Zd;generalize upd H1 c2 (.tup x2)=H2 at S2 e2 ⊢;have S02:=S1.trans S2;refine ixL 3 (S02 _ _ tb.at_) rfl ⟨l3,x3,rfl,.inl (SqL.of (S02 _ _ h3)),λc3 hc3=>?_⟩;have S3:Same H2 (upd H2 c3 (.lst x3)):=sameNew (Same.refl _) hc3;have e3:upd H2 c3 (.lst x3) c3=some (.lst x3):=Zd;generalize upd H2 c3 (.lst x3)=H3 at S3 e3 ⊢;have S03:=S02.trans S3;refine ixL 4 (S03 _ _ tb.at_) rfl ⟨l4,x4,rfl,.inl ⟨SqL.of (S03 _ _ h4),λc4 hc4=>?_⟩⟩;have S4:Same H3 (upd H3 c4 (.tup x4)):=sameNew (Same.refl _) hc4;have e4:upd H3 c4 (.tup x4) c4=some (.tup x4):=Zd;generalize upd H3 c4 (.tup x4)=H4 at S4 e4 ⊢;have S04:=S03.trans S4;have q1:Yz H4 (.ref c1) (prs x1 T.t1):=⟨⟨c1,rfl,.inl (S4 _ _ (S3 _ _ (S2 _ _ e1)))⟩,r1.same S04⟩;have q2:Yz H4 (.ref c2) (prs x2 T.t2):=⟨⟨c2,rfl,.inr (S4 _ _ (S3 _ _ e2))⟩,r2.same S04⟩;have q3:Yz H4 (.ref c3) (prs x3 T.t3):=⟨⟨c3,rfl,.inl (S4 _ _ e3)⟩,r3.same S04⟩;have q4:Yz H4 (.ref c4) (prs x4 T.t4):=⟨⟨c4,rfl,.inr e4⟩,r4.same S04⟩;exact UY (.int T.n) q1 q2 q3 q4 (UZ ok (r1.same S04) (r2.same S04) (r3.same S04) (r4.same S04) λH' x s _ tl=>k H' x (S04.trans s) tl)
end
theorem NA{k1:Kv}{n:Int}{s l g a m:V}(h:Jm k1 n s l g a m=.non):YF k1 s g=.non/\∃i,l=.int i/\K1.Zq (.int i) 0 (n-1)=true/\K1.Zq a (i+1) n=true/\K1.Zq m 0 1000=true:=by
 unfold Jm at h;by_cases e:YF k1 s g=.non
 ·rw[if_neg (λz=>z e)]at h;refine⟨e,?_⟩;cases l with
 |int i=>dsimp only at h;refine⟨i,rfl,?_⟩;cases h1:K1.Zq (.int i) 0 (n-1)<;>cases h2:K1.Zq a (i+1) n<;>cases h3:K1.Zq m 0 1000<;>simp_all
 |_=>cases h
 ·rw[if_pos e]at h;exact absurd h e
theorem P2{k1:Kv}{s g l m:V}(h:wayV k1 s g l m=.non):YF k1 s g=.non/\K1.Zq l 1 50=true/\K1.Zq m 0 1000=true:=by
 unfold wayV at h;by_cases e:YF k1 s g=.non
 ·rw[if_neg (λz=>z e)]at h;refine⟨e,?_⟩;cases h1:K1.Zq l 1 50<;>cases h2:K1.Zq m 0 1000<;>simp_all
 ·rw[if_pos e]at h;exact absurd h e
theorem PD{k1:Kv}{n pp:Int}{p t m:V}(h:YO k1 n pp p t m=.non):ZM p k1=true/\K1.Zq t 0 n=true:=by unfold YO at h;cases h1:ZM p k1<;>cases h2:K1.Zq t 0 n<;>simp_all
theorem VF{k1:Kv}{s g:V}(h:YF k1 s g=.non):ZM s k1=true/\ZM g k1=true/\U3 s k1=false:=by unfold YF at h;cases h1:ZM s k1<;>cases h2:ZM g k1<;>cases h3:U3 s k1<;>simp_all
theorem UA{g:Bool}{z:Str}(h:Z5 g (.str z)=true):z.length<=1000:=by
 have h12:K1.lenB 12 (codes z)=true\/K1.lenB 8 (codes z)=true:=by
  cases g
  ·right;have h':K1.XO 8 (K1.codes K1.tNAME) (codes z)=true:=h;unfold K1.XO K1.YI at h';exact(Bool.and_eq_true_iff.mp (Bool.and_eq_true_iff.mp h').1).1
  ·left;have h':K1.XO 12 (K1.codes K1.tGROUP) (codes z)=true:=h;unfold K1.XO K1.YI at h';exact(Bool.and_eq_true_iff.mp (Bool.and_eq_true_iff.mp h').1).1
 unfold K1.lenB at h12;rw[ZU]at h12;simp only[Bool.and_eq_true,decide_eq_true_eq]at h12;omega
theorem Rn{ps:Pl}{s g:Str}(h:Ends ps s g){k1:Kv}(hk:Up k1 (ps.map plRow)):YF k1 (.str s) (.str g)=.non:=by obtain⟨⟨i,hi⟩,⟨r,hr⟩,ne⟩:=h;have e1:valV k1 (.inr s)=some (.int i):=hk _ (aq.mpr ⟨_,hi,rfl⟩);have e2:valV k1 (.inr g)=some (Yx r):=hk _ (aq.mpr ⟨_,hr,rfl⟩);unfold YF ZM U3;simp only[e1,e2,Option.isSome_some,Bool.not_true,Bool.or_false,Bool.false_eq_true,if_false];rw[if_neg (by simp),if_neg (by intro z;injection z with z;exact ne z.symm)]
theorem YL(i:Int):Flat (.int i):=.inr (.inl ⟨i,rfl⟩)
theorem YT{z:Str}(h:z.length<=1000):Flat (.str z):=.inr (.inr ⟨z,rfl,h⟩)
section
variable {n:Int}{ps:Pl}
theorem Lb{p:Str×Option Int}{t1:List (List V)}(hn:Z5 false (.str p.1)=true)(hr:∀i,p.2=some i->0<=i/\i<=1000):RowOk 1 n t1 (plRow p):=by
 refine⟨rfl,hn,λk1 _ pp _=>?_,λz=>(by cases z),λy hy=>?_⟩
 ·show Yh (Yx p.2)=.non;unfold Yh;rw[if_pos];cases e:p.2 with
 |none=>rfl
 |some i=>have:=hr i e;simp[Yx,K1.Zq,this.1,this.2]
 ·simp only[plRow,aA,aJ,or_false]at hy;rcases hy with rfl|rfl
  ·exact YT (UA hn)
  ·cases p.2 with
  |none=>exact .inl rfl
  |some i=>exact YL i
theorem Ey(gp:∀p∈ps,p.1.length<=1000){r:Rd}(g:GoodRd n ps r)(hn:Z5 false (.str r.nm)=true):RowOk 2 n (ps.map plRow) (rdRow r):=by
 refine⟨rfl,hn,λk1 hk pp _=>?_,λz=>(by cases z),λy hy=>?_⟩
 ·show Jm k1 n (.str r.st) (.int r.lv) (.str r.gl) (.int r.cm) (.int r.se)=.non;unfold Jm;rw[Rn g.ends (hk (by decide)),if_neg (λz=>z rfl)];dsimp only;rw[Ym g.lv0 g.lv1,Ym g.cm0 g.cm1,Ym g.se0 g.se1];rfl
 ·obtain⟨⟨i,hi⟩,⟨x,hx⟩,_⟩:=g.ends;simp only[rdRow,aA,aJ,or_false]at hy;rcases hy with rfl|rfl|rfl|rfl|rfl|rfl
  ·exact YT (UA hn)
  ·exact YT (gp _ hi)
  ·exact YL _
  ·exact YT (gp _ hx)
  ·exact YL _
  ·exact YL _
theorem Es(gp:∀p∈ps,p.1.length<=1000){r:Wy}(g:GoodWy ps r)(hn:Z5 false (.str r.nm)=true):RowOk 3 n (ps.map plRow) (wyRow r):=by
 refine⟨rfl,hn,λk1 hk pp _=>?_,λz=>(by cases z),λy hy=>?_⟩
 ·show wayV k1 (.str r.st) (.str r.gl) (.int r.lo) (.int r.wi)=.non;unfold wayV;rw[Rn g.ends (hk (by decide)),if_neg (λz=>z rfl),Ym g.lo0 g.lo1,Ym g.wi0 g.wi1];rfl
 ·obtain⟨⟨i,hi⟩,⟨x,hx⟩,_⟩:=g.ends;simp only[wyRow,aA,aJ,or_false]at hy;rcases hy with rfl|rfl|rfl|rfl|rfl
  ·exact YT (UA hn)
  ·exact YT (gp _ hi)
  ·exact YT (gp _ hx)
  ·exact YL _
  ·exact YL _
theorem EI{t1:List (List V)}{r:Gr}{v:V}(hp:∃p∈t1,nameOf p=r.pl)(pl:r.pl.length<=1000)(t0:0<=r.tu)(t1':r.tu<=n)(m0:0<=r.ma)(m1:r.ma<=300)(hn:Z5 true (.str r.nm)=true):RowOk 4 n t1 (grRow r):=by
 refine⟨rfl,hn,λk1 hk pp hpp=>?_,λ_=>m0,λy hy=>?_⟩
 ·show YO k1 n pp (.str r.pl) (.int r.tu) (.int r.ma)=.non;obtain⟨p,hp,e⟩:=hp;have e1:=hk (by decide) p hp;rw[e]at e1;unfold YO;rw[show ZM (.str r.pl) k1=true from by show(valV k1 (.inr r.pl)).isSome=true;rw[e1];rfl,Ym t0 t1'];dsimp only;rw[Ym m0 m1];have:=hpp rfl;have em:Yk (grRow r)=r.ma:=rfl;rw[em]at this;simp only[Bool.not_true,Bool.false_eq_true,if_false];rw[if_neg (by omega)]
 ·simp only[grRow,aA,aJ,or_false]at hy;rcases hy with rfl|rfl|rfl|rfl
  ·exact YT (UA hn)
  ·exact YT pl
  ·exact YL _
  ·exact YL _
end
theorem V2{n:Int}{ps:Pl}{gs:List Gr}{bs:List Str}(sh:∀p∈ps,p.1.length<=1000)(nd:bs.Nodup)(nm:∀t∈bs,Nm t)(lb:bs.length<=12)(len:gs.length=bs.length)(g:∀(i:Nat)b r,bs[i]?=some b->gs[i]?=some r->GoodGr n ps b r):Yy 4 n (ps.map plRow) (gs.map grRow)/\((gs.map grRow).map Yk).sum<=60/\∀z∈(gs.map grRow).map nameOf,∃b∈bs,∃s∈sufs,z=b++s:=by
 have grAt:∀r∈gs,∃b,b∈bs/\GoodGr n ps b r:=λr hr=>by
  obtain⟨i,hi⟩:=bh.mp hr;have:i<bs.length:=by rw[<-len];exact(aj.mp hi).1
  exact⟨bs[i],aG this,g i _ r (gE this) hi⟩
 have e4:(gs.map grRow).map nameOf=gs.map (·.nm):=by rw[bI];rfl
 have sle:∀rs:List Gr,(∀r∈rs,r.ma<=5)->((rs.map grRow).map Yk).sum<=5*rs.length:=λrs h=>by
  induction rs with
 |nil=>simp
 |cons r rs ih=>have h1:=h r aB;have h2:=ih λq hq=>h q (av _ hq);have em:Yk (grRow r)=r.ma:=rfl;rw[aL,aL,fe,em,aN];omega
 have sm:((gs.map grRow).map Yk).sum<=60:=by
  have:=sle gs λr hr=>let ⟨b,_,q⟩:=grAt r hr;q.ma1
  omega
 refine⟨⟨by rw[lm];show gs.length<=300;omega,?_,λys hy=>?_,λ_=>by omega⟩,sm,λz hz=>?_⟩
 ·rw[e4];have:∀(i:Nat)r b,gs[i]?=some r->bs[i]?=some b->(codes r.nm).takeWhile (λc=>decide (c∈LET))=codes b:=λi r b h1 h2=>by obtain⟨s,hs,e⟩:=(g i b r h2 h1).nm;rw[e];exact Pm (nm b (aK h2)) hs
  rw[List.nodup_iff_pairwise_ne,List.pairwise_iff_getElem];intro i j hi hj hij e;simp only[aZ]at hi hj;simp only[fw]at e;have b1:=this i _ _ (gE hi) (gE (by rw[<-len];exact hi));have b2:=this j _ _ (gE hj) (gE (by rw[<-len];exact hj));rw[e]at b1;have:=PN (b1.symm.trans b2);exact absurd ((fz nd).mp this) (Nat.ne_of_lt hij)
 ·obtain⟨r,hr,rfl⟩:=aq.mp hy;obtain⟨b,hb,q⟩:=grAt r hr;obtain⟨s,hs,e⟩:=q.nm;obtain⟨x,hx⟩:=q.pl;exact EI (v:=.non) ⟨_,aq.mpr ⟨_,hx,rfl⟩,rfl⟩ (sh _ hx) q.tu0 q.tu1 q.ma0 (by have:=q.ma1;omega) (by rw[e];exact FQ (nm b hb) hs)
 ·rw[e4]at hz;obtain⟨r,hr,rfl⟩:=aq.mp hz;obtain⟨b,hb,q⟩:=grAt r hr;obtain⟨s,hs,e⟩:=q.nm;exact⟨b,hb,s,hs,e⟩
structure LInv(T:Tb)(ps:Pl)(s:Str):Prop where
 ok:OkTb T
 t1:T.t1=ps.map plRow
 pl:GoodPl ps
 len:T.t2.length<=79
 nm:Nm s
 s:s∉T.t2.map nameOf
noncomputable def tbOf(W:Wd):Tb:=⟨W.n,W.ps.map plRow,W.rs.map rdRow,W.ws.map wyRow,W.gs.map grRow⟩
theorem WorldAt.tb{b:Addr}{H:Hp}{p:Addr}{W:Wd}{l1 l2 l3 l4:Addr}(h:WorldAt b H p W l1 l2 l3 l4):TbAt b H p (tbOf W) l1 l2 l3 l4:=⟨h.ne,h.at_,h.pl,h.rd,h.wy,h.gr⟩
theorem Nm.short{t:Str}(h:Nm t):t.length<=1000:=by have:=h.2.1;rw[ZU]at this;omega
theorem drawn{W:Wd}{bs:List Str}{s0 s1 s2 s3:Str}(g:GoodW W bs)(st:Strange W bs s0 s1 s2 s3):LInv (tbOf W) W.ps s1:=by
 have sh:∀p∈W.ps,p.1.length<=1000:=λp hp=>(g.pl.nm p hp).short;have c1:=g.pl.hi;have c2:=st.r.len;have c3:=st.w.len;rw[lm]at c2 c3;have e2:(W.rs.map rdRow).map nameOf=W.rs.map (·.nm):=by rw[bI];rfl
 have e3:(W.ws.map wyRow).map nameOf=W.ws.map (·.nm):=by rw[bI];rfl
 have e1:(W.ps.map plRow).map nameOf=W.ps.map (·.1):=by rw[bI];rfl
 refine⟨⟨g.n0,g.n1,λj hj=>?_⟩,rfl,g.pl,by show(W.rs.map rdRow).length<=79;rw[lm];omega,st.r.snm,by show _∉(W.rs.map rdRow).map nameOf;rw[e2];exact st.r.s⟩;rcases hj with rfl|rfl|rfl|rfl
 ·refine⟨by show(W.ps.map plRow).length<=14;rw[lm];omega,by show((W.ps.map plRow).map nameOf).Nodup;rw[e1];exact g.pl.nd,λys hy=>?_,λz=>by cases z⟩;obtain⟨p,hp,rfl⟩:=aq.mp hy;exact Lb (NK (g.pl.nm p hp)) (g.pl.room p hp)
 ·refine⟨by show(W.rs.map rdRow).length<=80;rw[lm];omega,by show((W.rs.map rdRow).map nameOf).Nodup;rw[e2];exact st.r.nd,λys hy=>?_,λz=>by cases z⟩;obtain⟨r,hr,rfl⟩:=aq.mp hy;exact Ey sh (g.rd r hr) (NK (st.r.nm _ (aq.mpr ⟨r,hr,rfl⟩)))
 ·refine⟨by show(W.ws.map wyRow).length<=40;rw[lm];omega,by show((W.ws.map wyRow).map nameOf).Nodup;rw[e3];exact st.w.nd,λys hy=>?_,λz=>by cases z⟩;obtain⟨r,hr,rfl⟩:=aq.mp hy;exact Es sh (g.wy r hr) (NK (st.w.nm _ (aq.mpr ⟨r,hr,rfl⟩)))
 ·exact(V2 sh st.g.nd st.g.nm st.g.len g.len g.gr).1
theorem Lp{T:Tb}(o:OkTb T){t:List (List V)}(h:Yy 2 T.n T.t1 t):OkTb {T with t2:=t}:=⟨o.n0,o.n1,λj hj=>by
 rcases hj with rfl|rfl|rfl|rfl
 ·exact o.part 1 (.inl rfl)
 ·exact h
 ·exact o.part 3 (.inr (.inr (.inl rfl)))
 ·exact o.part 4 (.inr (.inr (.inr rfl)))⟩
theorem HA{T:Tb}(o:OkTb T){t:List (List V)}(h:Yy 4 T.n T.t1 t):OkTb {T with t4:=t}:=⟨o.n0,o.n1,λj hj=>by
 rcases hj with rfl|rfl|rfl|rfl
 ·exact o.part 1 (.inl rfl)
 ·exact o.part 2 (.inr (.inl rfl))
 ·exact o.part 3 (.inr (.inr (.inl rfl)))
 ·exact h⟩
theorem WG{n:Int}{t1 t:List (List V)}{y:List V}(h:Yy 2 n t1 t)(r:RowOk 2 n t1 y)(hn:nameOf y∉t.map nameOf)(hl:t.length+1<=80):Yy 2 n t1 (t++[y]):=by
 obtain⟨a,nd,row,_⟩:=h;refine⟨by simp;exact hl,?_,λq hq=>?_,λz=>by cases z⟩
 ·rw[aE,aL,d6,eU];exact⟨nd,by simp,λx hx y' hy e=>by rw[aQ]at hy;exact hn (by rw[<-hy,<-e];exact hx)⟩
 ·rcases aP.mp hq with h|h
  ·exact row q h
  ·rw[aQ]at h;subst h;exact r
theorem Ws{t:List (List V)}{k:Nat}{y z:List V}(hy:t[k]?=some y)(hn:nameOf z=nameOf y):(t.set k z).map nameOf=t.map nameOf:=by
 rw[List.map_set,hn];have hk:=(aj.mp hy);refine gM λi=>?_;by_cases e:k=i
 ·subst e;rw[dI (by rw[lm];exact hk.1),ah,hy];rfl
 ·rw[dN e]
theorem Li{n:Int}{t1 t:List (List V)}{y z:List V}{k:Nat}(h:Yy 2 n t1 t)(hy:t[k]?=some y)(r:RowOk 2 n t1 z)(hn:nameOf z=nameOf y):Yy 2 n t1 (t.set k z):=by
 obtain⟨a,nd,row,_⟩:=h;refine⟨by rw[fL];exact a,by rw[Ws hy hn];exact nd,λq hq=>?_,λz=>by cases z⟩;rcases List.mem_or_eq_of_mem_set hq with h|h
 ·exact row q h
 ·subst h;exact r
theorem Q8{n:Int}{t1 t t':List (List V)}(h:Yy 2 n t1 t)(s:t'.Sublist t):Yy 2 n t1 t':=by obtain⟨a,nd,row,_⟩:=h;exact⟨Nat.le_trans s.length_le a,(s.map nameOf).nodup nd,λq hq=>row q (s.subset hq),λz=>by cases z⟩
theorem NM{t:List (List V)}(nd:(t.map nameOf).Nodup){i k:Nat}{x y:List V}(hi:t[i]?=some x)(hk:t[k]?=some y)(e:nameOf x=nameOf y):i=k:=by
 have hi':i<(t.map nameOf).length:=by rw[lm];exact(aj.mp hi).1
 refine(gL hi' nd).mp ?_;rw[ah,ah,hi,hk,cC,cC,e]
theorem FY{t:List (List V)}(nd:(t.map nameOf).Nodup){k:Nat}{y z:List V}(hk:t[k]?=some y):asR (nameOf y) z t=t.set k z:=by
 refine gM λi=>?_;unfold asR;rw[ah];by_cases e:k=i
 ·subst e;rw[dI (aj.mp hk).1,hk,cC,if_pos rfl]
 ·rw[dN e];cases hi:t[i]? with
 |none=>rfl
 |some x=>rw[cC,if_neg (λq=>e (NM nd hi hk q).symm)]
theorem VY{T:Tb}(o:OkTb T):∃k1,PlDict k1 T.t1:=by obtain⟨k1,_,d,_⟩:=JJ (j:=1) (k1:=[]) (n:=T.n) (t1:=T.t1) (.inl rfl) (λh=>absurd rfl h) (o.part 1 (.inl rfl)) (xs:=T.t1.map λ_=>V.non) (by rw[lm];rfl);exact⟨k1,d rfl⟩
theorem Nv:(∀c∈K1.codes K1.tNAME,c<0x110000)/\∀c∈K1.codes K1.tGROUP,c<0x110000:=by decide +kernel
theorem DY{g:Bool}{z:Str}(h:Z5 g (.str z)=true):GS z:=by
 cases g
 ·have h':K1.XO 8 (K1.codes K1.tNAME) (codes z)=true:=h;unfold K1.XO K1.YI K1.lenB at h';simp only[Bool.and_eq_true,decide_eq_true_eq,bZ]at h';exact⟨by rw[<-ZU];omega,λc hc=>Nv.1 c (h'.1.2 c hc)⟩
 ·have h':K1.XO 12 (K1.codes K1.tGROUP) (codes z)=true:=h;unfold K1.XO K1.YI K1.lenB at h';simp only[Bool.and_eq_true,decide_eq_true_eq,bZ]at h';exact⟨by rw[<-ZU];omega,λc hc=>Nv.2 c (h'.1.2 c hc)⟩
theorem within_int{v:V}{lo hi:Int}(h:K1.Zq v lo hi=true):∃i,v=.int i/\lo<=i/\i<=hi:=by
 cases v with
|int i=>have h':(decide (lo<=i)&&decide (i<=hi))=true:=h;simp only[Bool.and_eq_true,decide_eq_true_eq]at h';exact⟨i,rfl,h'.1,h'.2⟩
|_=>cases h
theorem Uq{v:V}{lo hi:Int}(h:K1.Zq v lo hi=true)(h0:0<=lo)(h1:hi<=1000):Atm v:=by obtain⟨i,rfl,a,b⟩:=within_int h;exact .int (by omega)
theorem MQ{k1:Kv}{n pp:Int}{p t m:V}(h:YO k1 n pp p t m=.non):ZM p k1=true/\K1.Zq t 0 n=true/\∃i,m=.int i/\0<=i/\i<=300:=by
 obtain⟨h1,h2⟩:=PD h;refine⟨h1,h2,?_⟩;unfold YO at h;rw[h1,h2]at h;cases m with
|int i=>
  cases hw:K1.Zq (.int i) 0 300 with
 |true=>exact within_int hw
 |false=>dsimp only at h;rw[hw]at h;cases h
|_=>cases h
theorem NO{k1:Kv}{t1:List (List V)}(hk:PlDict k1 t1){x:V}(h:ZM x k1=true):∃p∈t1,x=.str (nameOf p):=by
 obtain⟨z,v,rfl,hv⟩:=YA h;by_cases hz:z∈t1.map nameOf
 ·obtain⟨p,hp,e⟩:=aq.mp hz;exact⟨p,hp,by rw[e]⟩
 ·rw[hk.no z hz]at hv;cases hv
section
variable {T:Tb}(o:OkTb T)
include o
theorem Js{j:Nat}(hj:isJ j){ys:List V}(h:ys∈T.part j):RowOk j T.n T.t1 ys:=(o.part j hj).2.row ys h
theorem XN{j:Nat}(hj:isJ j){ys:List V}(h:ys∈T.part j):at_ ys 0=.str (nameOf ys)/\GS (nameOf ys):=by have r:=Js o hj h;refine⟨r.name,?_⟩;have:=r.nm;rw[show at_ ys 0=.str (nameOf ys)from r.name]at this;exact DY this
theorem VZ{k1:Kv}(hk:PlDict k1 T.t1){x:V}(h:ZM x k1=true):Atm x:=by obtain⟨p,hp,rfl⟩:=NO hk h;exact .str (XN o (j:=1) (.inl rfl) hp).2
theorem UR{ys:List V}(h:ys∈T.t1):∃p:Str×Option Int,ys=plRow p/\GS p.1/\∀i,p.2=some i->0<=i/\i<=1000:=by
 have r:=Js o (j:=1) (.inl rfl) h;obtain⟨e0,g⟩:=XN o (j:=1) (.inl rfl) h;have hw:Yh (at_ ys 1)=.non:=r.why [] (λz=>absurd rfl z) 0 (λz=>by cases z);obtain⟨a,c,rfl⟩:=len2 r.len;have ea:a=.str (nameOf [a,c]):=e0;have hw:Yh c=.non:=hw;unfold Yh at hw;by_cases e:c=.non
 ·exact⟨(nameOf [a,c],none),by rw[e];rw[e]at ea;rw[<-ea.symm];rfl,g,λi q=>by cases q⟩
 ·have hb:K1.Zq c 0 1000=true:=by
   cases hb:K1.Zq c 0 1000 with
  |true=>rfl
  |false=>rw[hb,decide_eq_false e,Bool.or_false,if_neg (by decide)]at hw;cases hw
  obtain⟨i,rfl,h0,h1⟩:=within_int hb;exact⟨(nameOf [a,.int i],some i),by rw[<-ea.symm];rfl,g,λj q=>by cases q;exact⟨h0,h1⟩⟩
theorem G9{ys:List V}(h:ys∈T.t2){k1:Kv}(hk:Up k1 T.t1):∃z s lv g cm se,ys=[.str z,s,.int lv,g,.int cm,.int se]/\nameOf ys=z/\YF k1 s g=.non/\0<=lv/\lv<=T.n-1/\lv+1<=cm/\cm<=T.n/\0<=se/\se<=1000:=by have r:=Js o (j:=2) (.inr (.inl rfl)) h;have hw:VC k1 T.n ys=.non:=r.why k1 (λ_=>hk) 0 (λz=>by cases z);obtain⟨a,b,c,d,e,f,rfl⟩:=six r.len;have ea:a=.str (nameOf [a,b,c,d,e,f]):=r.name;have hw:Jm k1 T.n b c d e f=.non:=hw;obtain⟨he,i,rfl,h1,h2,h3⟩:=NA hw;obtain⟨i',q,a1,a2⟩:=within_int h1;cases q;obtain⟨cm,rfl,b1,b2⟩:=within_int h2;obtain⟨se,rfl,c1,c2⟩:=within_int h3;exact⟨_,b,i,d,cm,se,congrArg (λq=>q::[b,.int i,d,.int cm,.int se]) ea,rfl,he,a1,a2,b1,b2,c1,c2⟩
theorem U5{k1:Kv}(hk:PlDict k1 T.t1){s g:V}(h:YF k1 s g=.non):Atm s/\Atm g:=⟨VZ o hk (VF h).1,VZ o hk (VF h).2.1⟩
theorem Q1{j:Nat}(hj:isJ j){ys:List V}(h:ys∈T.part j):RowG ys:=by
 obtain⟨k1,hk⟩:=VY o;have n1:=o.n1;have r:=Js o hj h;obtain⟨e0,g⟩:=XN o hj h;have at0:Atm (at_ ys 0):=by rw[e0];exact .str g
 have hw:=r.why k1 (λ_=>hk.has);rcases hj with rfl|rfl|rfl|rfl
 ·obtain⟨p,rfl,g,rm⟩:=UR o h;refine⟨by show 2<=6;decide,λy hy=>?_⟩;simp only[plRow,aA,aJ,or_false]at hy;rcases hy with rfl|rfl
  ·exact .str g
  ·cases e:p.2 with
  |none=>exact .non
  |some i=>have:=rm i e;exact .int (by omega)
 ·obtain⟨z,s,lv,g',cm,se,rfl,_,he,a1,a2,b1,b2,c1,c2⟩:=G9 o h hk.has;obtain⟨q1,q2⟩:=U5 o hk he;refine⟨by show 6<=6;decide,λy hy=>?_⟩;simp only[aA,aJ,or_false]at hy;rcases hy with rfl|rfl|rfl|rfl|rfl|rfl
  ·exact at0
  ·exact q1
  ·exact .int (by omega)
  ·exact q2
  ·exact .int (by omega)
  ·exact .int (by omega)
 ·obtain⟨a,b,c,d,e,rfl⟩:=len5 r.len;have hw':wayV k1 b c d e=.non:=hw 0 (λz=>by cases z);obtain⟨he,h1,h2⟩:=P2 hw';obtain⟨q1,q2⟩:=U5 o hk he;refine⟨by show 5<=6;decide,λy hy=>?_⟩;simp only[aA,aJ,or_false]at hy;rcases hy with rfl|rfl|rfl|rfl|rfl
  ·exact at0
  ·exact q1
  ·exact q2
  ·exact Uq h1 (by decide) (by decide)
  ·exact Uq h2 (by decide) (by decide)
 ·obtain⟨a,b,c,d,rfl⟩:=len4 r.len;obtain⟨h1,h2,i,rfl,h0,h3⟩:=MQ (hw (300-Yk [a,b,c,d]) (λ_=>by omega):YO k1 T.n _ b c d=.non);refine⟨by show 4<=6;decide,λy hy=>?_⟩;simp only[aA,aJ,or_false]at hy;rcases hy with rfl|rfl|rfl|rfl
  ·exact at0
  ·exact VZ o hk h1
  ·exact Uq h2 (by decide) (by omega)
  ·exact .int (by omega)
theorem DV{ys:List V}(h:ys∈T.t2):Layd ys:=⟨(Js o (j:=2) (.inr (.inl rfl)) h).flat,Qn (Q1 o (j:=2) (.inr (.inl rfl)) h)⟩
end
section
variable {bits:Int}{ps:Pl}
theorem Dl:(ZF bits ps).map (·.1)=ps.map (·.1):=by unfold ZF;rw[bI];refine gk λp _=>?_;show(if _ then _ else _:Str×Option Int).1=_;split<;>rfl
theorem Dm{q:Str×Option Int}(h:q∈ZF bits ps):∃p∈ps,q.1=p.1/\(q.2=p.2\/q.2=some 0):=by
 unfold ZF at h;obtain⟨p,hp,rfl⟩:=aq.mp h;refine⟨p,hp,?_⟩;split
 ·exact⟨rfl,.inr rfl⟩
 ·exact⟨rfl,.inl rfl⟩
theorem EL{p:Str×Option Int}(h:p∈ps):∃r,(p.1,r)∈ZF bits ps/\(p.2≠none->r≠none):=by
 by_cases e:p.1∈ZQ bits 0 (Zx ps)
 ·exact⟨some 0,aq.mpr ⟨p,h,by rw[if_pos e]⟩,λ_ z=>by cases z⟩
 ·exact⟨p.2,aq.mpr ⟨p,h,by rw[if_neg e]⟩,λz=>z⟩
theorem NP{k1 k1':Kv}(hk:PlDict k1 (ps.map plRow))(hk':Up k1' ((ZF bits ps).map plRow)){x:V}(h:ZM x k1=true):ZM x k1'=true/\(U3 x k1=false->U3 x k1'=false):=by
 obtain⟨q,hq,rfl⟩:=NO hk h;obtain⟨p,hp,rfl⟩:=aq.mp hq;obtain⟨r,hr,hn⟩:=EL (bits:=bits) hp;have e1:valV k1 (.inr p.1)=some (Yx p.2):=hk.has _ (aq.mpr ⟨p,hp,rfl⟩);have e2:valV k1' (.inr p.1)=some (Yx r):=hk' _ (aq.mpr ⟨_,hr,rfl⟩);refine⟨by show(valV k1' (.inr p.1)).isSome=true;rw[e2];rfl,λhh=>?_⟩;have hh':decide (valV k1 (.inr p.1)=some .non)=false:=hh;show decide (valV k1' (.inr p.1)=some .non)=false;rw[e2];rw[e1]at hh';have np:p.2≠none:=λz=>by rw[z]at hh';exact absurd hh' (by decide)
 have nr:=hn np;cases r with
|none=>exact absurd rfl nr
|some i=>rfl
theorem T9{k1 k1':Kv}(hk:PlDict k1 (ps.map plRow))(hk':Up k1' ((ZF bits ps).map plRow)){s g:V}(h:YF k1 s g=.non):YF k1' s g=.non:=by obtain⟨a,b,c⟩:=VF h;obtain⟨a',c'⟩:=NP hk hk' a;obtain⟨b',_⟩:=NP hk hk' b;unfold YF at h ⊢;rw[a,b,c]at h;rw[a',b',c' c];exact h
theorem E2{j:Nat}{n:Int}(hj:isJ j)(h1:j≠1){k1:Kv}(hk:PlDict k1 (ps.map plRow)){ys:List V}(h:RowOk j n (ps.map plRow) ys):RowOk j n ((ZF bits ps).map plRow) ys:=by
 refine⟨h.len,h.nm,λk1' hk' pp hp=>?_,h.ma,h.flat⟩;have hw:=h.why k1 (λ_=>hk.has) pp hp;have hp':=hk' h1;rcases hj with rfl|rfl|rfl|rfl
 ·exact absurd rfl h1
 ·have hw:Jm k1 n (at_ ys 1) (at_ ys 2) (at_ ys 3) (at_ ys 4) (at_ ys 5)=.non:=hw;show Jm k1' n (at_ ys 1) (at_ ys 2) (at_ ys 3) (at_ ys 4) (at_ ys 5)=.non;have he:=(NA hw).1;unfold Jm at hw ⊢;rw[he]at hw;rw[T9 hk hp' he];exact hw
 ·have hw:wayV k1 (at_ ys 1) (at_ ys 2) (at_ ys 3) (at_ ys 4)=.non:=hw;show wayV k1' (at_ ys 1) (at_ ys 2) (at_ ys 3) (at_ ys 4)=.non;have he:=(P2 hw).1;unfold wayV at hw ⊢;rw[he]at hw;rw[T9 hk hp' he];exact hw
 ·have hw:YO k1 n pp (at_ ys 1) (at_ ys 2) (at_ ys 3)=.non:=hw;show YO k1' n pp (at_ ys 1) (at_ ys 2) (at_ ys 3)=.non;have he:=(PD hw).1;unfold YO at hw ⊢;rw[he]at hw;rw[(NP hk hp' he).1];exact hw
theorem Ee(g:GoodPl ps):GoodPl (ZF bits ps):=by
 have el:(ZF bits ps).length=ps.length:=by unfold ZF;rw[lm]
 refine⟨by rw[el];exact g.lo,by rw[el];exact g.hi,by rw[Dl];exact g.nd,λq hq=>?_,λq hq i e=>?_,?_,?_⟩
 ·obtain⟨p,hp,e,_⟩:=Dm hq;rw[e];exact g.nm p hp
 ·obtain⟨p,hp,_,e2⟩:=Dm hq;rcases e2 with e2|e2
  ·exact g.room p hp i (by rw[<-e2];exact e)
  ·rw[e2]at e;cases e;exact⟨by decide,by decide⟩
 ·obtain⟨p,hp,i,e⟩:=g.one;obtain⟨r,hr,hn⟩:=EL (bits:=bits) hp;cases r with
 |none=>exact absurd rfl (hn (by rw[e];intro z;cases z))
 |some j=>exact⟨_,hr,j,rfl⟩
 ·obtain⟨a,i,e⟩:=g.frs;by_cases q:a∈ZQ bits 0 (Zx ps)
  ·exact⟨a,0,by unfold ZF;rw[ah,e];exact congrArg some (if_pos q)⟩
  ·exact⟨a,i,by unfold ZF;rw[ah,e];exact congrArg some (if_neg q)⟩
end
theorem LInv.homes{T:Tb}{ps:Pl}{s:Str}(h:LInv T ps s)(bits:Int):LInv {T with t1:=(ZF bits ps).map plRow} (ZF bits ps) s:=by
 obtain⟨k1,hk⟩:=VY h.ok;have g:=Ee (bits:=bits) h.pl;rw[h.t1]at hk;have up:∀j,isJ j->j≠1->Yy j T.n T.t1 (T.part j)->Yy j T.n ((ZF bits ps).map plRow) (T.part j):=λj hj n1⟨a,b,c,d⟩=>⟨a,b,λys hy=>E2 hj n1 hk (by rw[<-h.t1];exact c ys hy),d⟩;refine⟨⟨h.ok.n0,h.ok.n1,λj hj=>?_⟩,rfl,g,h.len,h.nm,h.s⟩;rcases hj with rfl|rfl|rfl|rfl
 ·have hi:=g.hi;refine⟨by show((ZF bits ps).map plRow).length<=14;rw[lm];omega,?_,λys hy=>?_,λz=>by cases z⟩
  ·show(((ZF bits ps).map plRow).map nameOf).Nodup;rw[bI];exact g.nd
  ·obtain⟨p,hp,rfl⟩:=aq.mp hy;exact Lb (NK (g.nm p hp)) (g.room p hp)
 ·exact up 2 (.inr (.inl rfl)) (by decide) (h.ok.part 2 (.inr (.inl rfl)))
 ·exact up 3 (.inr (.inr (.inl rfl))) (by decide) (h.ok.part 3 (.inr (.inr (.inl rfl))))
 ·exact up 4 (.inr (.inr (.inr rfl))) (by decide) (h.ok.part 4 (.inr (.inr (.inr rfl))))
section
variable {b:Addr}{H H':Hp}
theorem Zz.tup{H:Hp}{b p:Addr}{xs:List V}(h:Zz H b)(hp:H p=some (.tup xs)):p≠b:=by obtain⟨x,y,z,e⟩:=h;exact ne_of hp e (by intro z;cases z)
theorem Zz.ins{p C dx:Addr}{fs:List (Str×V)}(h:Zz H b)(hp:H p=some (.ins C dx fs)):p≠b:=by obtain⟨x,y,z,e⟩:=h;exact ne_of hp e (by intro z;cases z)
theorem Zz.dK{p:Addr}{k:Kv}(h:Zz H b)(hp:H p=some (.dK k)):p≠b:=by obtain⟨x,y,z,e⟩:=h;exact ne_of hp e (by intro z;cases z)
theorem UU(hb:Zz H b)(s:Zg b H H'){fs:List (Str×V)}{f g:Str}{r:PR}{k:Kv}(h:Z0 H fs f g r k):Z0 H' fs f g r k:=by obtain⟨l,d,xs,rs,a1,a2,a3,a4,a5⟩:=h;exact⟨l,d,xs,rs,a1,a2,a3,s _ _ a4 (hb.tup a4),s _ _ a5 (hb.dK a5)⟩
theorem UO(hb:Zz H b)(s:Zg b H H'){xs:List V}{t:List (List V)}(hf:∀ys∈t,∀y∈ys,Flat y)(h:ZZ H xs (t.map some)):ZZ H' xs (t.map some):=⟨h.1,λi x r e1 e2=>by have h0:=h.2 i x r e1 e2;rw[ah]at e2;obtain⟨q,hq,rfl⟩:=a9.mp e2;obtain⟨p,e,hp,_⟩:=h0;exact⟨p,e,s _ _ hp (hb.tup hp),λy hy=>NY (hf q (aK hq) y hy)⟩⟩
theorem Tel.box{C t:Addr}{T:Tb}(hb:Zz H b)(o:OkTb T)(s:Zg b H H')(h:Tel H C t T):Tel H' C t T:=by
 obtain⟨fs,x1,x2,x3,x4,k,tp,d⟩:=h;refine⟨fs,x1,x2,x3,x4,k,⟨⟨⟨let ⟨dx,e⟩:=tp.tab.tab.at_;⟨dx,s _ _ e (hb.ins e)⟩,tp.tab.tab.only⟩,tp.tab.turns,UU hb s tp.tab.p,UU hb s tp.tab.r,UU hb s tp.tab.w,UU hb s tp.tab.g⟩,λr hr xs rs er=>?_⟩,d⟩;have rr:=tp.rows r hr xs rs er;rcases hr with rfl|rfl|rfl|rfl
 ·cases er;exact UO hb s (o.flat (.inl rfl)) rr
 ·cases er;exact UO hb s (o.flat (.inr (.inl rfl))) rr
 ·cases er;exact UO hb s (o.flat (.inr (.inr (.inl rfl)))) rr
 ·cases er;exact UO hb s (o.flat (.inr (.inr (.inr rfl)))) rr
end
structure Cs where
 C:Addr
 Cb:Addr
def OutM(c:Cs)(H:Hp)(T:Tb)(Q:VK):Prop:=∀H' x,Same H H'->Tel H' c.C x T->Q (.ref x) H'
theorem Wx{T:Tb}(o:OkTb T):∀y∈T.t2,y.getD 0 .non=.str (nameOf y)/\y.length=6:=λy hy=>⟨(Js o (j:=2) (.inr (.inl rfl)) hy).name,(Js o (j:=2) (.inr (.inl rfl)) hy).len⟩
theorem Nz{H:Hp}{C t:Addr}{T:Tb}(o:OkTb T){fs:List (Str×V)}{x1 x2 x3 x4:List V}{k:Ks}(tp:TabP H C t fs T.n (prs x1 T.t1) (prs x2 T.t2) (prs x3 T.t3) (prs x4 T.t4) k)(d:TbDict T x2 x3 x4 k):Rides H C t fs T.n (prs x1 T.t1) (prs x3 T.t3) (prs x4 T.t4) x2 T.t2 k:=by have:=(tp.rows _ (.inr (.inl rfl)) _ _ rfl).1;rw[lm]at this;have l2:=(o.part 2 (.inr (.inl rfl))).1;have l2:T.t2.length<=80:=l2;exact⟨tp,by omega,d.r,Wx o⟩
theorem QH{T:Tb}{x2:List V}{k:Kv}(hl:x2.length=T.t2.length)(d:RwDict k T.t2 x2){m:Nat}{y:List V}(h:T.t2[m]?=some y):ZM (.str (nameOf y)) k=true:=by
 have hm:m<x2.length:=by rw[hl];exact(aj.mp h).1
 show(valV k (.inr (nameOf y))).isSome=true;rw[d.at_ m y x2[m] h (gE hm)];rfl
section
variable {c:Cs}{H:Hp}{Q:VK}{E:XK}{T:Tb}{x1 x2 x3 x4:List V}{t:Addr}{fs:List (Str×V)}{k:Ks}
theorem LA(tp:TabP H c.C t fs T.n (prs x1 T.t1) (prs x2 T.t2) (prs x3 T.t3) (prs x4 T.t4) k){t':List (List V)}(o:OkTb {T with t2:=t'}){H1:Hp}(s:Same H H1){y2:List V}(r:ZZ H1 y2 (t'.map some))(q:OutM c H {T with t2:=t'} Q):Ve c.C c.Cb (.int T.n) (prs x1 T.t1) (prs y2 t') (prs x3 T.t3) (prs x4 T.t4) H1 Q E:=by have tp1:=tp.same s;exact UZ o (tp1.rows _ (.inl rfl) _ _ rfl) r (tp1.rows _ (.inr (.inr (.inl rfl))) _ _ rfl) (tp1.rows _ (.inr (.inr (.inr rfl))) _ _ rfl) λH' x s' _ tl=>q H' x (s.trans s') tl
theorem HM(tp:TabP H c.C t fs T.n (prs x1 T.t1) (prs x2 T.t2) (prs x3 T.t3) (prs x4 T.t4) k){t':List (List V)}(o:OkTb {T with t4:=t'}){y4:List V}(r:ZZ H y4 (t'.map some))(q:OutM c H {T with t4:=t'} Q):Ve c.C c.Cb (.int T.n) (prs x1 T.t1) (prs x2 T.t2) (prs x3 T.t3) (prs y4 t') H Q E:=UZ o (tp.rows _ (.inl rfl) _ _ rfl) (tp.rows _ (.inr (.inl rfl)) _ _ rfl) (tp.rows _ (.inr (.inr (.inl rfl))) _ _ rfl) r λH' x s' _ tl=>q H' x s' tl
theorem HN(tp:TabP H c.C t fs T.n (prs x1 T.t1) (prs x2 T.t2) (prs x3 T.t3) (prs x4 T.t4) k){t':List (List V)}(o:OkTb {T with t1:=t'}){H1:Hp}(s:Same H H1){y1:List V}(r:ZZ H1 y1 (t'.map some))(q:OutM c H {T with t1:=t'} Q):Ve c.C c.Cb (.int T.n) (prs y1 t') (prs x2 T.t2) (prs x3 T.t3) (prs x4 T.t4) H1 Q E:=by have tp1:=tp.same s;exact UZ o r (tp1.rows _ (.inr (.inl rfl)) _ _ rfl) (tp1.rows _ (.inr (.inr (.inl rfl))) _ _ rfl) (tp1.rows _ (.inr (.inr (.inr rfl))) _ _ rfl) λH' x s' _ tl=>q H' x (s.trans s') tl
theorem lens(tp:TabP H c.C t fs T.n (prs x1 T.t1) (prs x2 T.t2) (prs x3 T.t3) (prs x4 T.t4) k):x1.length=T.t1.length/\x2.length=T.t2.length/\x3.length=T.t3.length/\x4.length=T.t4.length:=by have a:=(tp.rows _ (.inl rfl) _ _ rfl).1;have b:=(tp.rows _ (.inr (.inl rfl)) _ _ rfl).1;have c:=(tp.rows _ (.inr (.inr (.inl rfl))) _ _ rfl).1;have d:=(tp.rows _ (.inr (.inr (.inr rfl))) _ _ rfl).1;rw[lm]at a b c d;exact⟨a,b,c,d⟩
theorem Eo{Q:VK}{E:XK}{t:Addr}{fs:List (Str×V)}{x1 x2 x3 x4:List V}{kk:Ks}{H0:Hp}(tp:TabP H0 c.C t fs T.n (prs x1 T.t1) (prs x2 T.t2) (prs x3 T.t3) (prs x4 T.t4) kk)(nd:(T.t2.map nameOf).Nodup){k:Nat}{y z:List V}(hk:T.t2[k]?=some y)(hz:∀x∈z,Flat x)(ok:OkTb {T with t2:=T.t2.set k z})(q:OutM c H0 {T with t2:=T.t2.set k z} Q):AsQ c.C c.Cb T.n (prs x1 T.t1) (prs x3 T.t3) (prs x4 T.t4) x2 T.t2 (nameOf y) z H0 Q E:=λH1 p s1 hp=>by have rr:=Wl (nm:=nameOf y) ((tp.same s1).rows _ (.inr (.inl rfl)) _ _ rfl) (c:=p) (ys:=z) ⟨p,rfl,hp,λx hx=>NY (hz x hx)⟩;rw[FY nd hk]at rr ⊢;exact LA tp ok s1 rr q
end
structure RideF(n:Int)(t1:List (List V))(z:Str)(s g:V)(lv cm:Int):Prop where
 nm:Z5 false (.str z)=true
 ends:∀k1,Up k1 t1->YF k1 s g=.non
 fs:Flat s
 fg:Flat g
 lv0:0<=lv
 cm0:lv+1<=cm
 cm1:cm<=n
theorem DH{n:Int}{t1:List (List V)}{z:Str}{s g:V}{lv cm se:Int}(h:RideF n t1 z s g lv cm)(h0:0<=se)(h1:se<=1000):RowOk 2 n t1 [.str z,s,.int lv,g,.int cm,.int se]:=by
 refine⟨rfl,h.nm,λk1 hk pp _=>?_,λz=>(by cases z),λy hy=>?_⟩
 ·show Jm k1 n s (.int lv) g (.int cm) (.int se)=.non;have a:=h.lv0;have b:=h.cm0;have c:=h.cm1;unfold Jm;rw[h.ends k1 (hk (by decide)),if_neg (λz=>z rfl)];dsimp only;rw[Ym a (by omega),Ym b c,Ym h0 h1];rfl
 ·simp only[aA,aJ,or_false]at hy;rcases hy with rfl|rfl|rfl|rfl|rfl|rfl
  ·exact YT (UA h.nm)
  ·exact h.fs
  ·exact YL _
  ·exact h.fg
  ·exact YL _
  ·exact YL _
theorem Tw{T:Tb}(o:OkTb T){y:List V}(h:y∈T.t2):∃z s lv g cm se,y=[.str z,s,.int lv,g,.int cm,.int se]/\nameOf y=z/\RideF T.n T.t1 z s g lv cm/\0<=se/\se<=1000:=by obtain⟨k1,hk⟩:=VY o;obtain⟨z,s,lv,g,cm,se,rfl,_,_,a,_,b,c,d,e⟩:=G9 o h hk.has;have r:=Js o (j:=2) (.inr (.inl rfl)) h;refine⟨z,s,lv,g,cm,se,rfl,rfl,⟨r.nm,λk2 hk2=>?_,r.flat s (by simp),r.flat g (by simp),a,b,c⟩,d,e⟩;have hw:Jm k2 T.n s (.int lv) g (.int cm) (.int se)=.non:=r.why k2 (λ_=>hk2) 0 (λz=>by cases z);exact(NA hw).1
def Z6(b:Addr)(H:Hp)(xs:List V)(rows:List (List V)):Prop:=xs.length=rows.length/\∀(i:Nat)x r,xs[i]?=some x->rows[i]?=some r->∃a,x=.ref a/\a≠b/\H a=some (.tup r)
section
variable {b:Addr}{H:Hp}{xs ys:List V}{rows rows':List (List V)}
theorem RowsAt.its{l:Addr}(h:RowsAt b H l rows):∃xs,H l=some (.lst xs)/\Z6 b H xs rows:=by obtain⟨n,as,e,hl,r⟩:=h;refine⟨_,e,by rw[lm,hl],λi x q h1 h2=>?_⟩;rw[ah]at h1;obtain⟨a,ha,rfl⟩:=a9.mp h1;exact⟨a,rfl,r i a q ha h2⟩
theorem Z6.lst{l:Addr}(h:Z6 b H xs rows)(n:l≠b)(e:H l=some (.lst xs)):RowsAt b H l rows:=by
 obtain⟨hl,r⟩:=h;have it:∀(i:Nat)x,xs[i]?=some x->∃a,x=.ref a:=λi x hx=>by
  have hi:i<rows.length:=by rw[<-hl];exact(aj.mp hx).1
  obtain⟨a,ha,_⟩:=r i x _ hx (gE hi);exact⟨a,ha⟩
 let g:V->Addr:=λv=>match v with
 |.ref a=>a
 |_=>b
 have ex:xs=(xs.map g).map V.ref:=by
  refine gM λi=>?_;rw[bI,ah];cases hx:xs[i]? with
 |none=>rfl
 |some x=>obtain⟨a,rfl⟩:=it i x hx;rfl
 refine⟨n,xs.map g,by rw[<-ex];exact e,by rw[lm,hl],λi a q h1 h2=>?_⟩;rw[ah]at h1;obtain⟨x,hx,rfl⟩:=a9.mp h1;obtain⟨a,rfl,h3⟩:=r i x q hx h2;exact h3
theorem Z6.same{H':Hp}(s:Zg b H H')(h:Z6 b H xs rows):Z6 b H' xs rows:=⟨h.1,λi x r h1 h2=>let ⟨a,e,n,q⟩:=h.2 i x r h1 h2;⟨a,e,n,s _ _ q n⟩⟩
theorem Z6.one{a:Addr}{r:List V}(n:a≠b)(e:H a=some (.tup r)):Z6 b H [.ref a] [r]:=⟨rfl,λi x q h1 h2=>by
 cases i with
|zero=>simp at h1 h2;subst h1 h2;exact⟨a,rfl,n,e⟩
|succ i=>simp at h1⟩
theorem Z6.app(h:Z6 b H xs rows)(g:Z6 b H ys rows'):Z6 b H (xs++ys) (rows++rows'):=⟨by rw[ay,ay,h.1,g.1],λi x r h1 h2=>by
 rcases Nat.lt_or_ge i xs.length with hi|hi
 ·rw[a8 hi]at h1;rw[a8 (by rw[<-h.1];exact hi)]at h2;exact h.2 i x r h1 h2
 ·rw[bD hi]at h1;rw[bD (by rw[<-h.1];exact hi),<-h.1]at h2;exact g.2 _ x r h1 h2⟩
theorem Z6.take(h:Z6 b H xs rows)(k:Nat):Z6 b H (xs.take k) (rows.take k):=⟨by rw[aw,aw,h.1],λi x r h1 h2=>by
 have hi:i<k:=by have:=(aj.mp h1).1;rw[aw]at this;omega
 rw[fh hi]at h1 h2;exact h.2 i x r h1 h2⟩
theorem Z6.at_(h:Z6 b H xs rows){i:Int}(h0:0<=i)(h1:i<(rows.length:Int)):∃a r,atI xs i=some (.ref a)/\a≠b/\H a=some (.tup r)/\rows[i.toNat]?=some r:=by
 have hi:i.toNat<rows.length:=by omega
 have hx:i.toNat<xs.length:=by rw[h.1];exact hi
 obtain⟨a,e,n,q⟩:=h.2 i.toNat _ _ (gE hx) (gE hi);refine⟨a,_,?_,n,q,gE hi⟩;have:atI xs (i.toNat:Int)=some xs[i.toNat]:=Zr (gE hx);rw[show((i.toNat:Nat):Int)=i from by omega,e]at this;exact this
theorem Z6.part(h:Z6 b H xs rows)(hf:∀ys∈rows,∀y∈ys,Flat y):ZZ H xs (rows.map some):=⟨by rw[lm,h.1],λi x r e1 e2=>by rw[ah]at e2;obtain⟨q,hq,rfl⟩:=a9.mp e2;obtain⟨a,rfl,_,ha⟩:=h.2 i x q e1 hq;exact⟨a,rfl,ha,λy hy=>NY (hf q (aK hq) y hy)⟩⟩
end
end WD
namespace L2
open PySem PySem.Spec PyProof.Rows
structure BaseM(K:aa)(C:Addr)(m:Str)(f:Addr):Prop where
 ga:ej K (.ref C) "__getattribute__"=some (some (.builtin "type.__getattribute__"))
 rd:∃mc,PySem.W.readsIn K C mc=true/\PySem.W.findCls K (.ref C) mc m=some (.val (.ref f))
 kp:aU K (.ref f)=true
theorem M9{X:Cx}{CX:CXT}{k:Nat}{f C:Addr}{fd:bN}{ps:List Str}{ds:List Value}{dvs:List V}{sp:Sp}{E:XK}{m:Str}{pos apos:Pos}{e o:Expr}{es:List Expr}{t:TA}{pl:Sem Bool}(he:PE X o (tC (.ref C)))(hm:BaseM X.K C m f)(F:FnOk X.prog X.w X.K X.mg X.base CX k f fd ps sp)(hr:Room k X.A)(hb:Binds X.K fd ps ds)(hd:Vals dvs ds)(hx:Passes CX X E)(ha:PA X (e::es) t)
  (hst:aD (e::es) X.env=(false,eval e X.env)::aD es X.env:=by rfl) (hpl:(cw pos (aD es X.env)).any (·.1)=false:=by rfl)
  (ht:eval (.Call (.Attribute o m apos) (e::es) [] pos) X.env=(do
   let ov <-eval o X.env
   gI apos.atName
   let (f,first) <-eR [ov] (e_ ov m pl)
   gF pos f first (cw pos (aD (e::es) X.env)) (d8 pos (dh [] X.env))):=by rfl):
  PE X (.Call (.Attribute o m apos) (e::es) [] pos) (Pn sp dvs E t):=by
 intro pins s σ H Q I h
 obtain⟨mc,h1,h2⟩:=hm.rd
 refine dH (pl:=pl) (he pins s σ H (λv H1=>v=.ref C/\H1=H) I ⟨rfl,rfl⟩ |> λq=>thn q λu s1 hZ=>?_) ht;obtain⟨x,H1,I1,rx,ex,eH⟩:=hZ
 subst ex
 subst eH
 obtain rfl:u=Value.ref C:=rx
 refine PySem.W.method_cls I1.kIn hm.ga (PySem.W.cls_value I1.kIn h1 h2 rfl ?_)
 refine dA (first:=[]) (h₀:=X.base) I.ok.mod.kin hm.kp (thn (ha pos pins _ σ H1 _ (I1.tok _) h) λus s2⟨vs,H2,I2,r,q2⟩=>⟨I2.kIn,?_⟩) hst hpl
 exact Qm F hr hb hd hx I2 r q2
end L2
namespace SX
open PySem L2 PySem.Spec PyProof.Rows TB WD
noncomputable def sA(ys:List V)(j:Nat):Str:=match at_ ys j with|.str z=>z|_=>""
noncomputable def iA(ys:List V)(j:Nat):Int:=match at_ ys j with|.int i=>i|_=>0
structure Sx where
 key:List Key
 tail:PyData
 head:PyData
 room:V
 price:Int
noncomputable def outS(y:List V)(i:Int):Sx:=⟨[.inr "out",.inr (nameOf y),.inl i],.str (nameOf y),.tuple [.str (sA y 1),.int i],.non,0⟩
noncomputable def XJ(y:List V):Sx:=⟨[.inr "ride",.inr (nameOf y)],.tuple [.str (sA y 1),.int (iA y 2)],.tuple [.str (sA y 3),.int (iA y 4)],.int (iA y 5),iA y 4-iA y 2⟩
noncomputable def UK(y:List V)(i:Int):Sx:=⟨[.inr "walk",.inr (nameOf y),.inl i],.tuple [.str (sA y 1),.int i],.tuple [.str (sA y 2),.int (i+iA y 3)],.int (iA y 4),iA y 3⟩
noncomputable def Uh(y:List V)(i:Int):Sx:=⟨[.inr "wait",.inr (nameOf y),.inl i],.tuple [.str (nameOf y),.int i],.tuple [.str (nameOf y),.int (i+1)],at_ y 1,1⟩
def Xn(T:Tb)(vs:List V)(j:Nat)(S:Sx):Prop:=(∃y∈T.t4,∃i,vs=[.str "out",.str (nameOf y),.int i]/\iA y 2<=i/\i<=T.n/\j=0/\S=outS y i) \/(∃y∈T.t2,vs=[.str "ride",.str (nameOf y)]/\j=1/\S=XJ y) \/(∃y∈T.t3,∃i,vs=[.str "walk",.str (nameOf y),.int i]/\0<=i/\i<=T.n-iA y 3/\j=2/\S=UK y i) \/∃y∈T.t1,∃i,vs=[.str "wait",.str (nameOf y),.int i]/\at_ y 1≠.non/\0<=i/\i<=T.n-1/\j=3/\S=Uh y i
theorem Xn.key{T:Tb}{vs:List V}{j:Nat}{S:Sx}(h:Xn T vs j S):vs=S.key.map kV/\j<4:=by rcases h with⟨y,_,i,e,_,_,rfl,rfl⟩|⟨y,_,e,rfl,rfl⟩|⟨y,_,i,e,_,_,rfl,rfl⟩|⟨y,_,i,e,_,_,_,rfl,rfl⟩<;>exact⟨e,by decide⟩
theorem HD{T:Tb}(o:OkTb T){j:Nat}(hj:isJ j):((T.part j).map nameOf).Nodup:=(o.part j hj).2.nd
theorem Kt:("out":Str)≠"walk"/\("out":Str)≠"wait"/\("walk":Str)≠"wait"/\("out":Str)≠"ride"/\("walk":Str)≠"ride"/\("wait":Str)≠"ride":=by decide +kernel
noncomputable def flds(vk vt vh vr vp:V):List (Str×V):=[("its_key",vk),("its_tail",vt),("its_head",vh),("its_room",vr),("its_price",vp)]
def Jf(H:Hp)(Cs:Nat->Addr)(x:Addr)(j:Nat)(S:Sx):Prop:=∃dx k vt vh,H x=some (.ins (Cs j) dx (flds (.ref k) vt vh S.room (.int S.price)))/\H k=some (.tup (S.key.map kV))/\Is H vt S.tail/\Is H vh S.head
theorem Jf.same{H H':Hp}{Cs:Nat->Addr}{x:Addr}{j:Nat}{S:Sx}(s:Same H H')(h:Jf H Cs x j S):Jf H' Cs x j S:=by obtain⟨dx,k,vt,vh,h1,h2,h3,h4⟩:=h;exact⟨dx,k,vt,vh,s _ _ h1,s _ _ h2,h3.same s,h4.same s⟩
noncomputable def fnames:List Str:=["its_key","its_tail","its_head","its_room","its_price"]
structure SCl(K:aa)(C:Addr):Prop where
 cl:Cls K C
 na:∀f∈fnames,Ys K C f
def Tj(K:aa):Sp:=λvs H Q _=>∃(x C dx:Addr)(vk vt vh vr vp:V),vs=[.ref x,vk,vt,vh,vr,vp]/\SCl K C/\H x=some (.ins C dx [])/\Q .non (upd H x (.ins C dx (flds vk vt vh vr vp)))
structure CanB(P:Program)(w:World)(K:aa)(mg:Str->Option Value)(base:Heap)(Cb:Addr):Prop where
 at_:∃f fd,FnOk P w K mg base CX0 1 f fd ["self","key","tail","head","room","price"] (Tj K)/\BaseM K Cb "__init__" f/\Binds K fd ["self","key","tail","head","room","price"] []
 mg:mg "Step"=some (.ref Cb)
structure SMk(P:Program)(w:World)(K:aa)(mg:Str->Option Value)(base:Heap)(x:Str)(C:Addr)(ps:List Str)(sp:Sp):Prop where
 made:∃f fd,Mk K C f/\FnOk P w K mg base CX0 2 f fd ps sp/\Binds K fd ps []
 mg:mg x=some (.ref C)
def spMk(K:aa)(Cs:Nat->Addr)(j:Nat)(rd:List V->List V->Sx->Prop):Sp:=λvs H Q _=>∃(x dx r:Addr)(y:List V)(us:List V)(S:Sx),vs=.ref x::.ref r::us/\SCl K (Cs j)/\H x=some (.ins (Cs j) dx [])/\H r=some (.tup y)/\rd y us S /\∀H',Zg x H H'->Jf H' Cs x j S->Q .non H'
def K8(y us:List V)(S:Sx):Prop:=∃a b c d i,y=[.str a,.str b,c,d]/\us=[.int i]/\S=outS y i
def RW(y us:List V)(S:Sx):Prop:=∃a b c d e f,y=[.str a,.str b,.int c,.str d,.int e,.int f]/\us=[]/\S=XJ y
def RU(y us:List V)(S:Sx):Prop:=∃a b c d e i,y=[.str a,.str b,.str c,.int d,.int e]/\us=[.int i]/\S=UK y i
def RV(y us:List V)(S:Sx):Prop:=∃a b i,y=[.str a,b]/\us=[.int i]/\S=Uh y i
theorem nof{K:aa}{C:Addr}(Z:SCl K C){f:Str}(h:f∈fnames):Ys K C f:=Z.na f h
mutual
theorem Mj{H:Hp}{x:Addr}{o:HO}(hx:∀xs,H x≠some (.lst xs)/\H x≠some (.tup xs)):∀{v:V}{d:PyData},Is H v d->Is (upd H x o) v d
|_,_,.non=>.non
|_,_,.bl b=>.bl b
|_,_,.int i=>.int i
|_,_,.str z=>.str z
|_,_,.lst e r=>.lst (by rw[Zh (λz=>(hx _).1 (z▸e))];exact e) (Ml hx r)
|_,_,.tup e r=>.tup (by rw[Zh (λz=>(hx _).2 (z▸e))];exact e) (Ml hx r)
theorem Ml{H:Hp}{x:Addr}{o:HO}(hx:∀xs,H x≠some (.lst xs)/\H x≠some (.tup xs)):∀{v:List V}{d:List PyData},IsAll H v d->IsAll (upd H x o) v d
|_,_,.nil=>.nil
|_,_,.cons h r=>.cons (Mj hx h) (Ml hx r)
end
theorem MV{H:Hp}{Cs:Nat->Addr}{x dx k:Addr}{j:Nat}{S:Sx}{vt vh:V}{fs:List (Str×V)}(hx:H x=some (.ins (Cs j) dx fs))(hk:H k=some (.tup (S.key.map kV)))(ht:Is H vt S.tail)(hh:Is H vh S.head):Jf (upd H x (.ins (Cs j) dx (flds (.ref k) vt vh S.room (.int S.price)))) Cs x j S:=by have kp:∀{v:V}{d:PyData},Is H v d->Is (upd H x (.ins (Cs j) dx (flds (.ref k) vt vh S.room (.int S.price)))) v d:=λh=>Mj (λxs=>⟨(λz=>by rw[hx]at z;cases z),(λz=>by rw[hx]at z;cases z)⟩) h;exact⟨dx,k,vt,vh,Zd,by rw[Zh (ne_of hk hx (by intro z;cases z))];exact hk,kp ht,kp hh⟩
theorem pfl{f:Str}{v:V}{fs:List (Str×V)}{n:Nat}(h:fs.length<n):(putF f v fs).length<n+1:=by have:=Ye f v fs;omega
theorem small{n:Nat}(h:n<10):n<1000:=by omega
section
variable {P:Program}{w:World}{K:aa}{mg:Str->Option Value}{base:Heap}{Cb:Addr}{Cs:Nat->Addr}
theorem G6:FnScope ["self","key","tail","head","room","price"] ["self","key","tail","head","room","price"] (Zb T.m_Step___init__):=scO
theorem Lq{f:Addr}{fd:bN}(F:Fun K "__init__" "Step.__init__" T.m_Step___init__ f fd):FnOk P w K mg base CX0 1 f fd ["self","key","tail","head","room","price"] (Tj K):=by
 refine F.ok G6 (λvs H Q E h=>?_) (λcdv A outer s H vs Q E hr h=>?_)
 ·obtain⟨x,C,dx,vk,vt,vh,vr,vp,rfl,_⟩:=h;rfl
 ·obtain⟨x,C,dx,vk,vt,vh,vr,vp,rfl,Z,hx,k⟩:=h;refine⟨_,(Ze (Y7 (pv 0) (pv 1) rfl) (Ze (Y7 (pv 0) (pv 2) rfl) (Ze (Y7 (pv 0) (pv 3) rfl) (Ze (Y7 (pv 0) (pv 4) rfl) (Zi (Y7 (pv 0) (pv 5) rfl)))))),?_⟩;refine⟨_,rfl,_,rfl,x,C,dx,_,rfl,hx,Z.cl,nof Z (by decide +kernel),by decide,?_⟩;refine⟨_,rfl,_,rfl,x,C,dx,_,rfl,Zd,Z.cl,nof Z (by decide +kernel),small (n:=_) (pfl (Nat.zero_lt_succ 8)),?_⟩;refine⟨_,rfl,_,rfl,x,C,dx,_,rfl,Zd,Z.cl,nof Z (by decide +kernel),small (n:=_) (pfl (pfl (Nat.zero_lt_succ 7))),?_⟩;refine⟨_,rfl,_,rfl,x,C,dx,_,rfl,Zd,Z.cl,nof Z (by decide +kernel),small (n:=_) (pfl (pfl (pfl (Nat.zero_lt_succ 6)))),?_⟩;refine⟨_,rfl,_,rfl,x,C,dx,_,rfl,Zd,Z.cl,nof Z (by decide +kernel),small (n:=_) (pfl (pfl (pfl (pfl (Nat.zero_lt_succ 5))))),?_⟩;simp only[Dt];exact k
theorem Ux:FnScope ["self","row","turn"] ["self","row","turn"] (Zb T.m_SetOut___init__):=scO
theorem Fe{f:Addr}{fd:bN}(CB:CanB P w K mg base Cb)(F:Fun K "__init__" "SetOut.__init__" T.m_SetOut___init__ f fd):FnOk P w K mg base CX0 2 f fd ["self","row","turn"] (spMk K Cs 0 K8):=by
 obtain⟨f1,fd1,F1,b1,bd1⟩:=CB.at_;refine F.ok Ux (λvs H Q E h=>?_) (λcdv A outer s H vs Q E hr h=>?_)
 ·obtain⟨x,dx,r,y,us,S,rfl,_,_,_,⟨a,b,c,d,i,_,rfl,_⟩,_⟩:=h;rfl
 ·obtain⟨x,dx,r,y,us,S,rfl,Z,hx,hy,⟨a,b,c,d,i,rfl,rfl,rfl⟩,k⟩:=h;refine' ⟨_,(@Zi _ _ _ ?h6),?rd⟩;case' h6=>refine' (Yp (M9 (ZR (v:=.ref Cb) rfl CB.mg rfl) b1 F1 hr.m bd1 .nil YM (@Za _ _ _ _ _ (pv 0) (@Za _ _ _ _ _ ?h5 (@Za _ _ _ _ _ ?h3 (@pa3 _ _ _ _ _ _ _ ?h2 Yc Zc (by rfl)) (by rfl)) (by rfl)) (by rfl))))
  case' h5=>refine' (@ZE _ _ _ _ _ (@pa3 _ _ _ _ _ _ _ Zu ?h4 (pv 2) (by rfl)))
  case' h4=>refine' (@it _ _ _ _ _ _ K (pv 1) Zc (by rfl) (by exact λ_ _=>rfl))
  case' h3=>refine' (@it _ _ _ _ _ _ K (pv 1) Zc (by rfl) (by exact λ_ _=>rfl))
  case' h2=>refine' (@ZE _ _ _ _ _ (@pa2 _ _ _ _ _ ?h1 (pv 2) (by rfl)))
  case' h1=>refine' (@it _ _ _ _ _ _ K (pv 1) Zc (by rfl) (by exact λ_ _=>rfl))
  have at0:atI [V.str a,.str b,c,d] 0=some (.str a):=Zr (j:=0) rfl;have at1:atI [V.str a,.str b,c,d] 1=some (.str b):=Zr (j:=1) rfl;refine⟨_,rfl,_,rfl,r,_,0,_,rfl,rfl,SqT.of hy,at0,_,rfl,zl,λq1 h1=>?_⟩;dsimp only[tNil];refine nl2 h1 λH1 S1 e1=>?_;refine⟨_,rfl,r,_,0,_,rfl,rfl,SqT.of (S1 _ _ hy),at0,iaT (S1 _ _ hy) at1 ⟨_,rfl,zl,λq2 h2=>?_⟩⟩;dsimp only[tNil];refine nl2 h2 λH2 S2 e2=>?_;have S12:=S1.trans S2;refine⟨x,Cs 0,dx,_,_,_,_,_,rfl,Z,S12 _ _ hx,k _ ?_ ?_⟩
  ·exact λc o e hc=>by rw[Zh hc];exact S12 _ _ e
  ·exact MV (S:=outS [.str a,.str b,c,d] i) (S12 _ _ hx) (S2 _ _ e1) (.str _) (.tup e2 (.cons (.str _) (.cons (.int _) .nil)))
theorem Xh:FnScope ["self","row","leave","come"] ["self","row"] (Zb T.m_Ride___init__):=scO
theorem DU{f:Addr}{fd:bN}(CB:CanB P w K mg base Cb)(F:Fun K "__init__" "Ride.__init__" T.m_Ride___init__ f fd):FnOk P w K mg base CX0 2 f fd ["self","row"] (spMk K Cs 1 RW):=by
 obtain⟨f1,fd1,F1,b1,bd1⟩:=CB.at_;refine F.ok Xh (λvs H Q E h=>?_) (λcdv A outer s H vs Q E hr h=>?_)
 ·obtain⟨x,dx,r,y,us,S,rfl,_,_,_,⟨_,_,_,_,_,_,_,rfl,_⟩,_⟩:=h;rfl
 ·obtain⟨x,dx,r,y,us,S,rfl,Z,hx,hy,⟨a,b,c,d,e,g,rfl,rfl,rfl⟩,k⟩:=h;refine' ⟨_,(@Ze _ _ _ _ _ ?h10 (@Ze _ _ _ _ _ ?h11 (@Zi _ _ _ ?h12))),?rd⟩;case' h12=>refine' (Yp (M9 (ZR (v:=.ref Cb) rfl CB.mg rfl) b1 F1 hr.m bd1 .nil YM (@Za _ _ _ _ _ (pv 0) (@Za _ _ _ _ _ ?h9 (@Za _ _ _ _ _ ?h7 (@pa3 _ _ _ _ _ _ _ ?h5 ?h3 (Zv Jv (pv 3) (pv 2)) (by rfl)) (by rfl)) (by rfl)) (by rfl))))
  case' h11=>refine' (@st _ _ _ _ 3 _ _ Xh.nd ?h2 (by rfl) (by exact bw rfl) (by rfl) (by exact .inl rfl))
  case' h10=>refine' (@st _ _ _ _ 2 _ _ Xh.nd ?h1 (by rfl) (by exact bw rfl) (by rfl) (by exact .inl rfl))
  case' h9=>refine' (@ZE _ _ _ _ _ (@pa2 _ _ _ _ _ Zu ?h8 (by rfl)))
  case' h8=>refine' (@it _ _ _ _ _ _ K (pv 1) Zc (by rfl) (by exact λ_ _=>rfl))
  case' h7=>refine' (@ZE _ _ _ _ _ (@pa2 _ _ _ _ _ ?h6 (pv 2) (by rfl)))
  case' h6=>refine' (@it _ _ _ _ _ _ K (pv 1) Zc (by rfl) (by exact λ_ _=>rfl))
  case' h5=>refine' (@ZE _ _ _ _ _ (@pa2 _ _ _ _ _ ?h4 (pv 3) (by rfl)))
  case' h4=>refine' (@it _ _ _ _ _ _ K (pv 1) Zc (by rfl) (by exact λ_ _=>rfl))
  case' h3=>refine' (@it _ _ _ _ _ _ K (pv 1) Zc (by rfl) (by exact λ_ _=>rfl))
  case' h2=>refine' (@it _ _ _ _ _ _ K (pv 1) Zc (by rfl) (by exact λ_ _=>rfl))
  case' h1=>refine' (@it _ _ _ _ _ _ K (pv 1) Zc (by rfl) (by exact λ_ _=>rfl))
  have at0:atI [V.str a,.str b,.int c,.str d,.int e,.int g] 0=some (.str a):=Zr (j:=0) rfl;have at1:atI [V.str a,.str b,.int c,.str d,.int e,.int g] 1=some (.str b):=Zr (j:=1) rfl;have at2:atI [V.str a,.str b,.int c,.str d,.int e,.int g] 2=some (.int c):=Zr (j:=2) rfl;have at3:atI [V.str a,.str b,.int c,.str d,.int e,.int g] 3=some (.str d):=Zr (j:=3) rfl;have at4:atI [V.str a,.str b,.int c,.str d,.int e,.int g] 4=some (.int e):=Zr (j:=4) rfl;have at5:atI [V.str a,.str b,.int c,.str d,.int e,.int g] 5=some (.int g):=Zr (j:=5) rfl;refine iaT hy at2 ?_;refine iaT hy at4 ?_;refine⟨_,rfl,_,rfl,r,_,0,_,rfl,rfl,SqT.of hy,at0,zl,λq1 h1=>?_⟩;dsimp only[tNil];refine nl2 h1 λH1 S1 e1=>?_;refine iaT (S1 _ _ hy) at1 ⟨_,rfl,zl,λq2 h2=>?_⟩;dsimp only[tNil];refine nl2 h2 λH2 S2 e2=>?_;have S12:=S1.trans S2;refine iaT (S12 _ _ hy) at3 ⟨_,rfl,zl,λq3 h3=>?_⟩;dsimp only[tNil];refine nl2 h3 λH3 S3 e3=>?_;have S13:=S12.trans S3;refine iaT (S13 _ _ hy) at5 ⟨_,rfl,_,rfl,_,_,rfl,rfl,?_⟩;refine⟨x,Cs 1,dx,_,_,_,_,_,rfl,Z,S13 _ _ hx,k _ ?_ ?_⟩
  ·exact λc o e hc=>by rw[Zh hc];exact S13 _ _ e
  ·exact MV (S:=XJ [.str a,.str b,.int c,.str d,.int e,.int g]) (S13 _ _ hx) (S3 _ _ (S2 _ _ e1)) (.tup (S3 _ _ e2) (.cons (.str _) (.cons (.int _) .nil))) (.tup e3 (.cons (.str _) (.cons (.int _) .nil)))
theorem JG:FnScope ["self","row","turn","long"] ["self","row","turn"] (Zb T.m_Walk___init__):=scO
theorem DS{f:Addr}{fd:bN}(CB:CanB P w K mg base Cb)(F:Fun K "__init__" "Walk.__init__" T.m_Walk___init__ f fd):FnOk P w K mg base CX0 2 f fd ["self","row","turn"] (spMk K Cs 2 RU):=by
 obtain⟨f1,fd1,F1,b1,bd1⟩:=CB.at_;refine F.ok JG (λvs H Q E h=>?_) (λcdv A outer s H vs Q E hr h=>?_)
 ·obtain⟨x,dx,r,y,us,S,rfl,_,_,_,⟨_,_,_,_,_,_,_,rfl,_⟩,_⟩:=h;rfl
 ·obtain⟨x,dx,r,y,us,S,rfl,Z,hx,hy,⟨a,b,c,d,e,i,rfl,rfl,rfl⟩,k⟩:=h;refine' ⟨_,(@Ze _ _ _ _ _ ?h9 (@Zi _ _ _ ?h10)),?rd⟩;case' h10=>refine' (Yp (M9 (ZR (v:=.ref Cb) rfl CB.mg rfl) b1 F1 hr.m bd1 .nil YM (@Za _ _ _ _ _ (pv 0) (@Za _ _ _ _ _ ?h8 (@Za _ _ _ _ _ ?h6 (@pa3 _ _ _ _ _ _ _ ?h4 ?h2 (pv 3) (by rfl)) (by rfl)) (by rfl)) (by rfl))))
  case' h9=>refine' (@st _ _ _ _ 3 _ _ JG.nd ?h1 (by rfl) (by exact bw rfl) (by rfl) (by exact .inl rfl))
  case' h8=>refine' (@ZE _ _ _ _ _ (@pa3 _ _ _ _ _ _ _ Zu ?h7 (pv 2) (by rfl)))
  case' h7=>refine' (@it _ _ _ _ _ _ K (pv 1) Zc (by rfl) (by exact λ_ _=>rfl))
  case' h6=>refine' (@ZE _ _ _ _ _ (@pa2 _ _ _ _ _ ?h5 (pv 2) (by rfl)))
  case' h5=>refine' (@it _ _ _ _ _ _ K (pv 1) Zc (by rfl) (by exact λ_ _=>rfl))
  case' h4=>refine' (@ZE _ _ _ _ _ (@pa2 _ _ _ _ _ ?h3 (Zv ZT (pv 2) (pv 3)) (by rfl)))
  case' h3=>refine' (@it _ _ _ _ _ _ K (pv 1) Zc (by rfl) (by exact λ_ _=>rfl))
  case' h2=>refine' (@it _ _ _ _ _ _ K (pv 1) Zc (by rfl) (by exact λ_ _=>rfl))
  case' h1=>refine' (@it _ _ _ _ _ _ K (pv 1) Zc (by rfl) (by exact λ_ _=>rfl))
  have at0:atI [V.str a,.str b,.str c,.int d,.int e] 0=some (.str a):=Zr (j:=0) rfl;have at1:atI [V.str a,.str b,.str c,.int d,.int e] 1=some (.str b):=Zr (j:=1) rfl;have at2:atI [V.str a,.str b,.str c,.int d,.int e] 2=some (.str c):=Zr (j:=2) rfl;have at3:atI [V.str a,.str b,.str c,.int d,.int e] 3=some (.int d):=Zr (j:=3) rfl;have at4:atI [V.str a,.str b,.str c,.int d,.int e] 4=some (.int e):=Zr (j:=4) rfl;refine iaT hy at3 ?_;refine⟨_,rfl,_,rfl,r,_,0,_,rfl,rfl,SqT.of hy,at0,_,rfl,zl,λq1 h1=>?_⟩;dsimp only[tNil];refine nl2 h1 λH1 S1 e1=>?_;refine iaT (S1 _ _ hy) at1 ⟨_,rfl,zl,λq2 h2=>?_⟩;dsimp only[tNil];refine nl2 h2 λH2 S2 e2=>?_;have S12:=S1.trans S2;refine iaT (S12 _ _ hy) at2 ⟨_,rfl,_,rfl,_,_,rfl,rfl,zl,λq3 h3=>?_⟩;dsimp only[tNil];refine nl2 h3 λH3 S3 e3=>?_;have S13:=S12.trans S3;refine iaT (S13 _ _ hy) at4 ⟨_,rfl,?_⟩;refine⟨x,Cs 2,dx,_,_,_,_,_,rfl,Z,S13 _ _ hx,k _ ?_ ?_⟩
  ·exact λc o e hc=>by rw[Zh hc];exact S13 _ _ e
  ·exact MV (S:=UK [.str a,.str b,.str c,.int d,.int e] i) (S13 _ _ hx) (S3 _ _ (S2 _ _ e1)) (.tup (S3 _ _ e2) (.cons (.str _) (.cons (.int _) .nil))) (.tup e3 (.cons (.str _) (.cons (.int _) .nil)))
theorem G5:FnScope ["self","row","turn"] ["self","row","turn"] (Zb T.m_Wait___init__):=scO
theorem DT{f:Addr}{fd:bN}(CB:CanB P w K mg base Cb)(F:Fun K "__init__" "Wait.__init__" T.m_Wait___init__ f fd):FnOk P w K mg base CX0 2 f fd ["self","row","turn"] (spMk K Cs 3 RV):=by
 obtain⟨f1,fd1,F1,b1,bd1⟩:=CB.at_;refine F.ok G5 (λvs H Q E h=>?_) (λcdv A outer s H vs Q E hr h=>?_)
 ·obtain⟨x,dx,r,y,us,S,rfl,_,_,_,⟨_,_,_,_,rfl,_⟩,_⟩:=h;rfl
 ·obtain⟨x,dx,r,y,us,S,rfl,Z,hx,hy,⟨a,b,i,rfl,rfl,rfl⟩,k⟩:=h;refine' ⟨_,(@Zi _ _ _ ?h8),?rd⟩;case' h8=>refine' (Yp (M9 (ZR (v:=.ref Cb) rfl CB.mg rfl) b1 F1 hr.m bd1 .nil YM (@Za _ _ _ _ _ (pv 0) (@Za _ _ _ _ _ ?h7 (@Za _ _ _ _ _ ?h5 (@pa3 _ _ _ _ _ _ _ ?h3 ?h1 Zc (by rfl)) (by rfl)) (by rfl)) (by rfl))))
  case' h7=>refine' (@ZE _ _ _ _ _ (@pa3 _ _ _ _ _ _ _ Zu ?h6 (pv 2) (by rfl)))
  case' h6=>refine' (@it _ _ _ _ _ _ K (pv 1) Zc (by rfl) (by exact λ_ _=>rfl))
  case' h5=>refine' (@ZE _ _ _ _ _ (@pa2 _ _ _ _ _ ?h4 (pv 2) (by rfl)))
  case' h4=>refine' (@it _ _ _ _ _ _ K (pv 1) Zc (by rfl) (by exact λ_ _=>rfl))
  case' h3=>refine' (@ZE _ _ _ _ _ (@pa2 _ _ _ _ _ ?h2 (Zv ZT (pv 2) Zc) (by rfl)))
  case' h2=>refine' (@it _ _ _ _ _ _ K (pv 1) Zc (by rfl) (by exact λ_ _=>rfl))
  case' h1=>refine' (@it _ _ _ _ _ _ K (pv 1) Zc (by rfl) (by exact λ_ _=>rfl))
  have at0:atI [V.str a,b] 0=some (.str a):=Zr (j:=0) rfl;have at1:atI [V.str a,b] 1=some b:=Zr (j:=1) rfl;refine⟨_,rfl,_,rfl,r,_,0,_,rfl,rfl,SqT.of hy,at0,_,rfl,zl,λq1 h1=>?_⟩;dsimp only[tNil];refine nl2 h1 λH1 S1 e1=>?_;refine⟨_,rfl,r,_,0,_,rfl,rfl,SqT.of (S1 _ _ hy),at0,_,rfl,zl,λq2 h2=>?_⟩;dsimp only[tNil];refine nl2 h2 λH2 S2 e2=>?_;have S12:=S1.trans S2;refine⟨_,rfl,r,_,0,_,rfl,rfl,SqT.of (S12 _ _ hy),at0,_,rfl,_,_,rfl,rfl,zl,λq3 h3=>?_⟩;dsimp only[tNil];refine nl2 h3 λH3 S3 e3=>?_;have S13:=S12.trans S3;refine iaT (S13 _ _ hy) at1 ?_;refine⟨x,Cs 3,dx,_,_,_,_,_,rfl,Z,S13 _ _ hx,k _ ?_ ?_⟩
  ·exact λc o e hc=>by rw[Zh hc];exact S13 _ _ e
  ·exact MV (S:=Uh [.str a,b] i) (S13 _ _ hx) (S3 _ _ (S2 _ _ e1)) (.tup (S3 _ _ e2) (.cons (.str _) (.cons (.int _) .nil))) (.tup e3 (.cons (.str _) (.cons (.int _) .nil)))
end
def Prt(H:Hp)(fs:List (Str×V))(f:Str)(t:List (List V))(l:Addr)(xs:List V):Prop:=fs.lookup f=some (.ref l)/\H l=some (.tup xs)/\xs.length=t.length/\∀(i:Nat)(y:List V),t[i]?=some y->∃a:Addr,xs[i]?=some (V.ref a)/\H a=some (.tup y)
theorem Qo{H:Hp}{fs:List (Str×V)}{f g:Str}{t:List (List V)}{xs:List V}{k:List (Key×V)}(h:Z0 H fs f g (prs xs t) k)(r:ZZ H xs (t.map some)):∃l,Prt H fs f t l xs:=by
 obtain⟨l,d,ys,rs,a1,a2,a3,a4,a5⟩:=h;cases a3;have hl:xs.length=t.length:=by rw[r.1,lm]
 refine⟨l,a1,a4,hl,λi y hi=>?_⟩;have hlt:i<t.length:=(aj.mp hi).1;have e1:xs[i]?=some xs[i]:=gE (by omega);obtain⟨a,ea,ha,_⟩:=r.2 i _ _ e1 (show(t.map some)[i]?=some (some y) by rw[ah,hi];rfl);exact⟨a,by rw[e1,ea],ha⟩
structure Prts(H:Hp)(C t:Addr)(T:Tb)(fs:List (Str×V)):Prop where
 tab:Tab H C t fs
 turns:fs.lookup ("turns":Str)=some (.int T.n)
 p:∃l xs,Prt H fs "places" T.t1 l xs
 r:∃l xs,Prt H fs "rides" T.t2 l xs
 w:∃l xs,Prt H fs "ways" T.t3 l xs
 g:∃l xs,Prt H fs "groups" T.t4 l xs
theorem UN{H:Hp}{C t:Addr}{T:Tb}(h:Tel H C t T):∃fs,Prts H C t T fs:=by
 obtain⟨fs,x1,x2,x3,x4,k,tp,d⟩:=h;refine⟨fs,tp.tab.tab,tp.tab.turns,?_,?_,?_,?_⟩
 ·obtain⟨l,a⟩:=Qo tp.tab.p (tp.rows _ (.inl rfl) _ _ rfl);exact⟨l,_,a⟩
 ·obtain⟨l,a⟩:=Qo tp.tab.r (tp.rows _ (.inr (.inl rfl)) _ _ rfl);exact⟨l,_,a⟩
 ·obtain⟨l,a⟩:=Qo tp.tab.w (tp.rows _ (.inr (.inr (.inl rfl))) _ _ rfl);exact⟨l,_,a⟩
 ·obtain⟨l,a⟩:=Qo tp.tab.g (tp.rows _ (.inr (.inr (.inr rfl))) _ _ rfl);exact⟨l,_,a⟩
noncomputable def StL(H:Hp)(Cs:Nat->Addr)(T:Tb):List V->List Sx->Prop:=cU λv S=>∃x j,v=.ref x/\Jf H Cs x j S/\Xn T (S.key.map kV) j S
theorem StL.same{H H':Hp}{Cs:Nat->Addr}{T:Tb}{vs:List V}{L:List Sx}(s:Same H H')(h:StL H Cs T vs L):StL H' Cs T vs L:=Paired.mapP h λ_ _⟨x,j,e,q,i⟩=>⟨x,j,e,q.same s,i⟩
def Xo(C:Addr)(Cs:Nat->Addr)(f:Tb->List Sx):Sp:=λvs H Q _=>∃(t:Addr)(T:Tb),vs=[.ref t]/\Tel H C t T/\OkTb T /\∀H' p xs,Same H H'->H p=none->H' p=some (.lst xs)->StL H' Cs T xs (f T)->Q (.ref p) H'
theorem N7{z:Str}(h:Atm (.str z)):GS z:=by cases h with|str h=>exact h
section
variable {T:Tb}(o:OkTb T)
include o
theorem RX{y:List V}(h:y∈T.t2):∃(a b d:Str)(c e f:Int),y=[.str a,.str b,.int c,.str d,.int e,.int f]/\GS a/\GS b/\GS d/\0<=c/\c+1<=e/\e<=T.n/\0<=f/\f<=1000:=by obtain⟨k1,hk⟩:=VY o;obtain⟨e0,gs⟩:=XN o (j:=2) (.inr (.inl rfl)) h;obtain⟨z,s,lv,g',cm,se,rfl,en,he,a1,a2,b1,b2,c1,c2⟩:=G9 o h hk.has;obtain⟨q1,q2⟩:=U5 o hk he;obtain⟨k1',k2',_⟩:=VF he;obtain⟨x,v,rfl,_⟩:=YA k1';obtain⟨x',v',rfl,_⟩:=YA k2';rw[en]at gs;exact⟨z,x,x',lv,cm,se,rfl,gs,N7 q1,N7 q2,a1,b1,b2,c1,c2⟩
theorem Tz{y:List V}(h:y∈T.t3):∃(a b c:Str)(d e:Int),y=[.str a,.str b,.str c,.int d,.int e]/\GS a/\GS b/\GS c/\1<=d/\d<=50/\0<=e/\e<=1000:=by obtain⟨k1,hk⟩:=VY o;obtain⟨e0,gs⟩:=XN o (j:=3) (.inr (.inr (.inl rfl))) h;have r:=Js o (j:=3) (.inr (.inr (.inl rfl))) h;have hw:=r.why k1 (λ_=>hk.has);obtain⟨a,b,c,d,e,rfl⟩:=len5 r.len;obtain⟨he,h1,h2⟩:=P2 (hw 0 (λz=>by cases z):wayV k1 b c d e=.non);obtain⟨q1,q2⟩:=U5 o hk he;obtain⟨k1',k2',_⟩:=VF he;obtain⟨x,v,rfl,_⟩:=YA k1';obtain⟨x',v',rfl,_⟩:=YA k2';obtain⟨i,rfl,i0,i1⟩:=within_int h1;obtain⟨j,rfl,j0,j1⟩:=within_int h2;have ea:a=.str (nameOf [a,.str x,.str x',.int i,.int j]):=e0;exact⟨_,x,x',i,j,congrArg (λq=>[q,.str x,.str x',.int i,.int j]) ea,gs,N7 q1,N7 q2,i0,i1,j0,j1⟩
theorem MY{y:List V}(h:y∈T.t4):∃(a b:Str)(c d:Int),y=[.str a,.str b,.int c,.int d]/\GS a/\GS b/\0<=c/\c<=T.n/\0<=d/\d<=300:=by obtain⟨k1,hk⟩:=VY o;obtain⟨e0,gs⟩:=XN o (j:=4) (.inr (.inr (.inr rfl))) h;have r:=Js o (j:=4) (.inr (.inr (.inr rfl))) h;have hw:=r.why k1 (λ_=>hk.has);obtain⟨a,b,c,d,rfl⟩:=len4 r.len;obtain⟨h1,h2,i,rfl,i0,i1⟩:=MQ (hw (300-Yk [a,b,c,d]) (λ_=>by omega):YO k1 T.n _ b c d=.non);have q1:=VZ o hk h1;obtain⟨x,v,rfl,_⟩:=YA h1;obtain⟨t,rfl,t0,t1⟩:=within_int h2;have ea:a=.str (nameOf [a,.str x,.int t,.int i]):=e0;exact⟨_,x,t,i,congrArg (λq=>[q,.str x,.int t,.int i]) ea,gs,N7 q1,t0,t1,i0,i1⟩
end
theorem VT{H H':Hp}{x dx C:Addr}(hx:H x=none)(hd:H dx=none)(s:Zg x (upd (upd H dx (.own x)) x (.ins C dx [])) H'):Same H H':=λc o e=>by have n1:c≠x:=Zk e hx;have n2:c≠dx:=Zk e hd;exact s c o (by rw[Zh n1,Zh n2];exact e) n1
theorem UM{H:Hp}{x dx C a:Addr}{ys:List V}(hx:H x=none)(hd:H dx=none)(e:H a=some (.tup ys)):upd (upd H dx (.own x)) x (.ins C dx []) a=some (.tup ys):=by rw[Zh (Zk e hx),Zh (Zk e hd)];exact e
noncomputable def ZX(T:Tb)(y:List V):List Sx:=(aY (T.n+1-iA y 2).toNat).map λ(m:Nat)=>outS y (iA y 2+m)
noncomputable def ZK(T:Tb)(y:List V):List Sx:=(aY (T.n+1-iA y 3).toNat).map λ(m:Nat)=>UK y (0+m)
noncomputable def ZJ(T:Tb)(y:List V):List Sx:=if at_ y 1=.non then[]else(aY T.n.toNat).map λ(m:Nat)=>Uh y (0+m)
noncomputable def allS(T:Tb):List Sx:=T.t4.flatMap (ZX T)++T.t2.map XJ++T.t3.flatMap (ZK T)++T.t1.flatMap (ZJ T)
noncomputable def J7(S:Sx):PyData:=.tuple [S.tail,S.head,dF S.room,.int S.price]
noncomputable def puts(l:List (Sx×V))(acc:List (List Key×V)):List (List Key×V):=l.foldl (λkvs p=>putK kvs p.1.key p.2) acc
def Dc(H:Hp)(p:Addr)(L:List Sx):Prop:=∃kvs:List (List Key×V),H p=some (.dT kvs)/\kvs.length<=L.length/\(∃vs,cU (λv S=>Is H v (J7 S)) vs L/\kvs=puts (L.zip vs) [])/\True
theorem Dc.same{H H':Hp}{p:Addr}{L:List Sx}(s:Same H H')(h:Dc H p L):Dc H' p L:=by obtain⟨kvs,e,l,⟨vs,a,b⟩,_⟩:=h;exact⟨kvs,s _ _ e,l,⟨vs,Paired.mapP a λ_ _ i=>i.same s,b⟩,trivial⟩
theorem Dc.put{H:Hp}{p a:Addr}{kvs:List (List Key×V)}{L:List Sx}{S:Sx}(e:H p=some (.dT kvs))(l:kvs.length<=L.length)(h1:∃vs,cU (λv S=>Is H v (J7 S)) vs L/\kvs=puts (L.zip vs) [])(h2:True)(hv:Is H (.ref a) (J7 S)):Dc (upd H p (.dT (putK kvs S.key (.ref a)))) p (L++[S]):=by
 have hn:∀xs,H p≠some (.lst xs)/\H p≠some (.tup xs):=λxs=>⟨(λz=>by rw[e]at z;cases z),(λz=>by rw[e]at z;cases z)⟩;obtain⟨vs,r,ek⟩:=h1;refine⟨_,Zd,?_,⟨vs++[.ref a],fN (Paired.mapP r λ_ _ i=>Mj hn i) (Mj hn hv),?_⟩,trivial⟩
 ·have:=YK kvs S.key (.ref a);rw[ay];show _<=L.length+1;omega
 ·rw[List.zip_append (by rw[cv r])];unfold puts;rw[List.foldl_append,ek];rfl
theorem _root_.WD.RowsAt.keepB{b:Addr}{H H':Hp}{l p:Addr}{rows:List (List V)}(h:RowsAt b H l rows)(hp:H p=none)(s:Zg p H H'):RowsAt b H' l rows:=by obtain⟨n,as,e,hl,r⟩:=h;exact⟨n,as,s _ _ e (Zk e hp),hl,λi a q h1 h2=>⟨(r i a q h1 h2).1,s _ _ (r i a q h1 h2).2 (Zk (r i a q h1 h2).2 hp)⟩⟩
theorem XH{f:List V->List Sx}{t:List (List V)}{i:Nat}(hi:i<t.length):(t.take (i+1)).flatMap f=(t.take i).flatMap f++f t[i]:=by rw[aV,gE hi,List.flatMap_append];simp
theorem map_take{f:List V->Sx}{t:List (List V)}{i:Nat}(hi:i<t.length):(t.take (i+1)).map f=(t.take i).map f++[f t[i]]:=by rw[aV,gE hi,aE];rfl
theorem Xi{f:Nat->Sx}{n i:Nat}(hi:i<n):(((aY n).map f).take (i+1))=((aY n).map f).take i++[f i]:=by rw[aV,ah,List.getElem?_range hi];rfl
theorem XS{f:List V->List Sx}{m:Nat}:∀{t:List (List V)},(∀y∈t,(f y).length<=m)->(t.flatMap f).length<=t.length*m
|[],_=>by simp
|y::t,h=>by
  rw[List.flatMap_cons,ay,aN];have h1:=h y (by simp);have h2:=XS (f:=f) (m:=m) (t:=t) λz hz=>h z (by simp[hz]);have:(t.length+1)*m=t.length*m+m:=by rw[Nat.add_mul,Nat.one_mul]
  omega
theorem JS{T:Tb}(o:OkTb T){S:Sx}(h:S∈allS T):∃j,Xn T (S.key.map kV) j S:=by
 unfold allS at h;simp only[aP,cY,aq]at h;rcases h with((⟨y,hy,h⟩|⟨y,hy,rfl⟩)|⟨y,hy,h⟩)|⟨y,hy,h⟩
 ·unfold ZX at h;obtain⟨m,hm,rfl⟩:=aq.mp h;rw[b_]at hm;exact⟨0,.inl ⟨y,hy,_,rfl,by omega,by omega,rfl,rfl⟩⟩
 ·exact⟨1,.inr (.inl ⟨y,hy,rfl,rfl,rfl⟩)⟩
 ·unfold ZK at h;obtain⟨m,hm,rfl⟩:=aq.mp h;rw[b_]at hm;exact⟨2,.inr (.inr (.inl ⟨y,hy,_,rfl,by omega,by omega,rfl,rfl⟩))⟩
 ·unfold ZJ at h;split at h
  ·cases h
  rename_i hne;obtain⟨m,hm,rfl⟩:=aq.mp h;rw[b_]at hm;exact⟨3,.inr (.inr (.inr ⟨y,hy,_,rfl,hne,by omega,by omega,rfl,rfl⟩))⟩
theorem NH{T:Tb}(o:OkTb T){y:List V}(h:y∈T.t4):(ZX T y).length<=51:=by obtain⟨a,b,c,d,rfl,_,_,h0,_⟩:=MY o h;have:=o.n1;unfold ZX;rw[lm,bS];show(T.n+1-c).toNat<=51;omega
theorem GY{T:Tb}(o:OkTb T){y:List V}(h:y∈T.t3):(ZK T y).length<=51:=by obtain⟨a,b,c,d,e,rfl,_,_,_,h0,_⟩:=Tz o h;have:=o.n1;unfold ZK;rw[lm,bS];show(T.n+1-d).toNat<=51;omega
theorem GZ{T:Tb}(o:OkTb T){y:List V}:(ZJ T y).length<=51:=by
 have:=o.n1;unfold ZJ;split
 ·exact Nat.zero_le _
 rw[lm,bS];omega
theorem NF{T:Tb}(o:OkTb T):T.t1.length<=14/\T.t2.length<=80/\T.t3.length<=40/\T.t4.length<=300:=⟨(o.part 1 (.inl rfl)).1,(o.part 2 (.inr (.inl rfl))).1,(o.part 3 (.inr (.inr (.inl rfl)))).1,(o.part 4 (.inr (.inr (.inr rfl)))).1⟩
theorem VU{T:Tb}(o:OkTb T):(T.t4.flatMap (ZX T)).length<=15300/\(T.t2.map XJ).length<=80/\(T.t3.flatMap (ZK T)).length<=2040/\(T.t1.flatMap (ZJ T)).length<=714:=by obtain⟨h1,h2,h3,h4⟩:=NF o;have a:=XS (f:=ZX T) (m:=51) (t:=T.t4) λy hy=>NH o hy;have b:=XS (f:=ZK T) (m:=51) (t:=T.t3) λy hy=>GY o hy;have c:=XS (f:=ZJ T) (m:=51) (t:=T.t1) λy hy=>GZ o;refine⟨by omega,by rw[lm];exact h2,by omega,by omega⟩
theorem JF{f:List V->List Sx}{t:List (List V)}(i:Nat):((t.take i).flatMap f).length<=(t.flatMap f).length:=by
 conv=>rhs;rw[<-List.take_append_drop i t,List.flatMap_append,ay]
 exact Nat.le_add_right _ _
def NL(d:PyData):Prop:=(∃a,d=.str a)\/∃a i,d=.tuple [.str a,.int i]
theorem EC{T:Tb}{ks:List V}{j:Nat}{S:Sx}(h:Xn T ks j S):NL S.tail/\NL S.head:=by
 rcases h with⟨y,_,i,e,_,_,rfl,rfl⟩|⟨y,_,e,rfl,rfl⟩|⟨y,_,i,e,_,_,rfl,rfl⟩|⟨y,_,i,e,_,_,_,rfl,rfl⟩
 ·exact⟨.inl ⟨_,rfl⟩,.inr ⟨_,_,rfl⟩⟩
 ·exact⟨.inr ⟨_,_,rfl⟩,.inr ⟨_,_,rfl⟩⟩
 ·exact⟨.inr ⟨_,_,rfl⟩,.inr ⟨_,_,rfl⟩⟩
 ·exact⟨.inr ⟨_,_,rfl⟩,.inr ⟨_,_,rfl⟩⟩
theorem EG{H H':Hp}{v:V}{d:PyData}(n:NL d)(ht:∀c xs,H c=some (.tup xs)->H' c=some (.tup xs))(h:Is H v d):Is H' v d:=by
 rcases n with⟨a,rfl⟩|⟨a,i,rfl⟩
 ·cases h with
 |str=>exact .str _
 ·cases h with
 |tup e r=>
   cases r with
  |cons h1 r=>
   cases r with
  |cons h2 r=>
   cases r;cases h1;cases h2;exact .tup (ht _ _ e) (.cons (.str _) (.cons (.int _) .nil))
theorem Jf.keepL{H H':Hp}{Cs:Nat->Addr}{T:Tb}{x p:Addr}{j:Nat}{S:Sx}{ys:List V}(hp:H p=some (.lst ys))(s:Zg p H H')(i:Xn T (S.key.map kV) j S)(h:Jf H Cs x j S):Jf H' Cs x j S:=by obtain⟨dx,k,vt,vh,h1,h2,h3,h4⟩:=h;have ht:∀c xs,H c=some (.tup xs)->H' c=some (.tup xs):=λc xs e=>s _ _ e (ne_of e hp (λz=>nomatch z));exact⟨dx,k,vt,vh,s _ _ h1 (ne_of h1 hp (λz=>nomatch z)),ht _ _ h2,EG (EC i).1 ht h3,EG (EC i).2 ht h4⟩
theorem StL.keepL{H H':Hp}{Cs:Nat->Addr}{T:Tb}{p:Addr}{vs:List V}{L:List Sx}{ys:List V}(hp:H p=some (.lst ys))(s:Zg p H H')(h:StL H Cs T vs L):StL H' Cs T vs L:=Paired.mapP h λ_ _⟨x,j,e,q,i⟩=>⟨x,j,e,q.keepL hp s i,i⟩
theorem StL.app{H:Hp}{Cs:Nat->Addr}{T:Tb}:∀{vs us:List V}{L M:List Sx},StL H Cs T vs L->StL H Cs T us M->StL H Cs T (vs++us) (L++M)
|_,_,_,_,.nil,b=>b
|_,_,_,_,.cons h t,b=>.cons h (StL.app t b)
theorem StL.snoc{H:Hp}{Cs:Nat->Addr}{T:Tb}{vs:List V}{L:List Sx}{x:Addr}{j:Nat}{S:Sx}(h:StL H Cs T vs L)(q:Jf H Cs x j S)(i:Xn T (S.key.map kV) j S):StL H Cs T (vs++[.ref x]) (L++[S]):=h.app (.cons ⟨x,j,rfl,q,i⟩ .nil)
theorem StL.len{H:Hp}{Cs:Nat->Addr}{T:Tb}{vs:List V}{L:List Sx}(h:StL H Cs T vs L):vs.length=L.length:=cv h
section
variable {P:Program}{w:World}{K:aa}{mg:Str->Option Value}{base:Heap}{C:Addr}{Cs:Nat->Addr}
theorem XI:FnScope ["table","steps","row"] ["table"] (Zb T.f_set_outs_of):=scO
noncomputable def JN:Scope:=csx [(".0",.local),("turn",.local),("SetOut",.globalImplicit),("row",.free)]
theorem Ub:CompScope JN (Zb T.f_set_outs_of):=⟨rfl,by decide +kernel,by decide +kernel,by decide +kernel⟩
theorem Ud:(["turn","row"]:List Str).Nodup:=by decide +kernel
theorem Uc:CompNames ["table","steps","row"] JN ["turn","row"] [none,some 2]:=.mk' (by decide +kernel)
theorem L8(B:∀x∈Blts,mg x=none)(Z:TCl K C)(ZS:∀j,j<4->SCl K (Cs j))(M:SMk P w K mg base "SetOut" (Cs 0) ["self","row","turn"] (spMk K Cs 0 K8))(D:Df K mg "set_outs_of" T.f_set_outs_of ["table"]):Can P w K mg base 4 "set_outs_of" ["table"] (Xo C Cs λT=>T.t4.flatMap (ZX T)):=by
 obtain⟨fm,fdm,hM,FM,bM⟩:=M.made;refine D.cn XI λf cdv A outer s H vs Q E hr h=>?_;obtain⟨t,T,rfl,tel,ok,k⟩:=h;obtain⟨fs,pr⟩:=UN tel;obtain⟨l,xs,f1,f2,f3,f4⟩:=pr.g;obtain⟨dx,ht⟩:=pr.tab.at_;refine⟨_,(Ze (st 1 XI.nd (ZA Zf)) (Ze (YJ bq rfl (VD (ZD (pv 0) rfl)) (VV (i:=2) XI.nd rfl (cQ rfl)) (Zi (Yp (ND cg eO eN Mg (pv 1) (Za (Z7 rfl Ub Uc (Pt rfl (bm B) (Za (it K (pv 2) Zc) (Za (Zv ZT (ZD (pv 0) rfl) Zc) Zf))) (λC s H ex pn=>(nmT 0 Ud)) (λC s H ex pn=>ZV) (λC s H ex pn=>(Jo hM FM hr.m rfl M.mg bM .nil YM (Za (pv 1) (Za (pv 0) Zf))))) Zf))))) (Zi (Zo (pv 1))))),?_⟩;refine⟨zl,λp hp=>?_⟩;have e0:upd H p (.lst []) p=some (.lst []):=Zd;have S0:Zg p H (upd H p (.lst [])):=(Zg.refl p H).new' hp;generalize upd H p (.lst [])=H0 at e0 S0 ⊢;have ht':∀{H':Hp},Zg p H H'->H' t=some (.ins C dx fs):=λs=>s _ _ ht (Zk ht hp);have hl':∀{H':Hp},Zg p H H'->H' l=some (.tup xs):=λs=>s _ _ f2 (Zk f2 hp);refine⟨_,rfl,t,C,dx,fs,_,rfl,ht' S0,Z.cl,Z.na _ (by simp[fields]),f1,l,rfl,⟨_,SqT.of (hl' S0)⟩,?_⟩;refine Xz (J:=Itt K l) T.t4.length (λi σ H'=>Zg p H H'/\∃ys o,H' p=some (.lst ys)/\StL H' Cs T ys ((T.t4.take i).flatMap (ZX T))/\σ=[some (.ref t),some (.ref p),o]) ⟨S0,_,_,e0,.nil,rfl⟩ (λi σ H' hi q=>?_) (λσ H' q=>?_) (λi σ H' x H2 hi q yl=>?_) (λσ H1 q=>?_)
 ·exact⟨xs,xs[i]'(by omega),SqT.of (hl' q.1),gE _⟩
 ·exact⟨xs,SqT.of (hl' q.1),by omega⟩
 ·obtain⟨s1,ys,o,ep,sl,rfl⟩:=q;have e1:T.t4[i]?=some T.t4[i]:=gE hi;obtain⟨a,ea,ha⟩:=f4 i _ e1;obtain⟨rfl,hx⟩:=yl;have hx2:=hx _ (SqT.of (hl' s1));rw[ea]at hx2;cases hx2;have hy:T.t4[i]∈T.t4:=aG hi;have ha1:=s1 _ _ ha (Zk ha hp);rw[XH hi];generalize T.t4[i]=y at ha1 hy;obtain⟨a1,b1,c1,d1,rfl,_,_,c0,cn⟩:=MY ok hy;dsimp only[XQ];refine td λD' hdd=>?_;refine⟨_,rfl,.inl ⟨rfl,_,SqL.of ep⟩,?_⟩;have hn:=ok.n1;refine ixT 2 ha1 rfl ⟨_,rfl,t,C,dx,fs,_,rfl,ht' s1,Z.cl,Z.na _ (by simp[fields]),pr.turns,_,_,rfl,rfl,_,_,rfl,⟨by omega,by omega,by omega,by omega⟩,?_⟩;refine ZI (J:=Itr c1 (T.n+1-c1).toNat) (T.n+1-c1).toNat (Nat.le_trans (by omega:_<=51) (by decide)) (λm zs τ H'=>Same H2 H'/\StL H' Cs T zs ((ZX T [.str a1,.str b1,.int c1,.int d1]).take m)/\∃v,τ=[v,some (.ref a)]) ⟨Same.refl _,.nil,none,rfl⟩ (λm zs τ H' q=>by rw[q.2.1.len,aw];omega) (λm zs τ H' hm _=>hm) (λzs τ H' _=>Nat.le_refl _) (λm zs τ H' x H3 hm q yl=>?_) (λzs τ H5 q lr hlr=>?_)
  ·obtain⟨s2,sl2,v,rfl⟩:=q;obtain⟨rfl,rfl⟩:=yl;refine⟨_,rfl,_,rfl,λx' dx' hx' hdx' _=>⟨x',dx',a,_,_,outS _ (c1+m),rfl,ZS 0 (by decide),Zd,UM hx' hdx' (s2 _ _ ha1),⟨a1,b1,_,_,_,rfl,rfl,rfl⟩,λH' s3 st=>⟨rfl,?_⟩⟩⟩;have s4:=VT hx' hdx' s3;refine⟨s2.trans s4,?_,_,rfl⟩;rw[show(ZX T [.str a1,.str b1,.int c1,.int d1]).take (m+1)=(ZX T [.str a1,.str b1,.int c1,.int d1]).take m++[outS [.str a1,.str b1,.int c1,.int d1] (c1+m)]from Xi hm];exact(sl2.same s4).snoc st (.inl ⟨_,hy,c1+m,rfl,(by show c1<=c1+(m:Int);omega),by omega,rfl,rfl⟩)
  ·obtain⟨s2,sl2,v,rfl⟩:=q;have s5:Same H2 (upd H5 lr (.lst zs)):=sameNew s2 hlr;have sl5:=sl2.same (sameNew (o:=.lst zs) (Same.refl H5) hlr);have er:upd H5 lr (.lst zs) lr=some (.lst zs):=Zd;generalize upd H5 lr (.lst zs)=H6 at s5 sl5 er ⊢;have lz:zs.length<=51:=by rw[sl5.len,aw];omega
   have ly:ys.length<=15300:=by rw[sl.len];exact Nat.le_trans (JF i) (VU ok).1
   have fin:∀c o,H6 c=some o->c≠p->upd H6 p (.lst (ys++zs)) c=some o:=λc o e hc=>by rw[Zh hc];exact e
   refine⟨p,lr,ys,zs,rfl,rfl,s5 _ _ ep,er,Nat.le_trans (by omega:_<=20000) (by decide),hdd _ _ ⟨?_,_,_,Zd,?_,rfl⟩⟩
   ·exact λc o e hc=>fin _ _ (s5 _ _ (s1 _ _ e hc)) hc
   ·refine StL.keepL (s5 _ _ ep) fin ((sl.same s5).app ?_);rw[aO (by unfold ZX;rw[lm,bS];exact Nat.le_refl _)]at sl5;exact sl5
 ·obtain⟨s1,ys,o,ep,sl,rfl⟩:=q;rw[aF]at sl;exact⟨_,rfl,k _ p ys (λc o e=>s1 _ _ e (Zk e hp)) hp ep sl⟩
theorem Vz:FnScope ["table","steps","row"] ["table"] (Zb T.f_walks_of):=scO
noncomputable def Uk:Scope:=csx [(".0",.local),("turn",.local),("Walk",.globalImplicit),("row",.free)]
theorem Mn:CompScope Uk (Zb T.f_walks_of):=⟨rfl,by decide +kernel,by decide +kernel,by decide +kernel⟩
theorem Mp:(["turn","row"]:List Str).Nodup:=by decide +kernel
theorem Mo:CompNames ["table","steps","row"] Uk ["turn","row"] [none,some 2]:=.mk' (by decide +kernel)
theorem W4(B:∀x∈Blts,mg x=none)(Z:TCl K C)(ZS:∀j,j<4->SCl K (Cs j))(M:SMk P w K mg base "Walk" (Cs 2) ["self","row","turn"] (spMk K Cs 2 RU))(D:Df K mg "walks_of" T.f_walks_of ["table"]):Can P w K mg base 4 "walks_of" ["table"] (Xo C Cs λT=>T.t3.flatMap (ZK T)):=by
 obtain⟨fm,fdm,hM,FM,bM⟩:=M.made;refine D.cn Vz λf cdv A outer s H vs Q E hr h=>?_;obtain⟨t,T,rfl,tel,ok,k⟩:=h;obtain⟨fs,pr⟩:=UN tel;obtain⟨l,xs,f1,f2,f3,f4⟩:=pr.w;obtain⟨dx,ht⟩:=pr.tab.at_;refine⟨_,(Ze (st 1 Vz.nd (ZA Zf)) (Ze (YJ bq rfl (VD (ZD (pv 0) rfl)) (VV (i:=2) Vz.nd rfl (cQ rfl)) (Zi (Yp (ND cg eO eN Mg (pv 1) (Za (Z7 rfl Mn Mo (Yn rfl (bm B) (Za (Zv ZT (Zv Jv (ZD (pv 0) rfl) (it K (pv 2) Zc)) Zc) Zf)) (λC s H ex pn=>(nmT 0 Mp)) (λC s H ex pn=>ZV) (λC s H ex pn=>(Jo hM FM hr.m rfl M.mg bM .nil YM (Za (pv 1) (Za (pv 0) Zf))))) Zf))))) (Zi (Zo (pv 1))))),?_⟩;refine⟨zl,λp hp=>?_⟩;have e0:upd H p (.lst []) p=some (.lst []):=Zd;have S0:Zg p H (upd H p (.lst [])):=(Zg.refl p H).new' hp;generalize upd H p (.lst [])=H0 at e0 S0 ⊢;have ht':∀{H':Hp},Zg p H H'->H' t=some (.ins C dx fs):=λs=>s _ _ ht (Zk ht hp);have hl':∀{H':Hp},Zg p H H'->H' l=some (.tup xs):=λs=>s _ _ f2 (Zk f2 hp);refine⟨_,rfl,t,C,dx,fs,_,rfl,ht' S0,Z.cl,Z.na _ (by simp[fields]),f1,l,rfl,⟨_,SqT.of (hl' S0)⟩,?_⟩;refine Xz (J:=Itt K l) T.t3.length (λi σ H'=>Zg p H H'/\∃ys o,H' p=some (.lst ys)/\StL H' Cs T ys ((T.t3.take i).flatMap (ZK T))/\σ=[some (.ref t),some (.ref p),o]) ⟨S0,_,_,e0,.nil,rfl⟩ (λi σ H' hi q=>?_) (λσ H' q=>?_) (λi σ H' x H2 hi q yl=>?_) (λσ H1 q=>?_)
 ·exact⟨xs,xs[i]'(by omega),SqT.of (hl' q.1),gE _⟩
 ·exact⟨xs,SqT.of (hl' q.1),by omega⟩
 ·obtain⟨s1,ys,o,ep,sl,rfl⟩:=q;have e1:T.t3[i]?=some T.t3[i]:=gE hi;obtain⟨a,ea,ha⟩:=f4 i _ e1;obtain⟨rfl,hx⟩:=yl;have hx2:=hx _ (SqT.of (hl' s1));rw[ea]at hx2;cases hx2;have hy:T.t3[i]∈T.t3:=aG hi;have ha1:=s1 _ _ ha (Zk ha hp);rw[XH hi];generalize T.t3[i]=y at ha1 hy;obtain⟨a1,b1,c1,d1,e1,rfl,_,_,_,h0,h1,_⟩:=Tz ok hy;dsimp only[XQ];refine td λD' hdd=>?_;refine⟨_,rfl,.inl ⟨rfl,_,SqL.of ep⟩,?_⟩;have hn:=ok.n1;have hn0:=ok.n0;refine⟨_,rfl,t,C,dx,fs,_,rfl,ht' s1,Z.cl,Z.na _ (by simp[fields]),pr.turns,ixT 3 ha1 rfl ⟨_,_,rfl,rfl,_,_,rfl,rfl,_,rfl,by omega,by omega,?_⟩⟩;refine ZI (J:=Itr 0 (T.n-d1+1).toNat) (T.n-d1+1).toNat (Nat.le_trans (by omega:_<=51) (by decide)) (λm zs τ H'=>Same H2 H'/\StL H' Cs T zs ((ZK T [.str a1,.str b1,.str c1,.int d1,.int e1]).take m)/\∃v,τ=[v,some (.ref a)]) ⟨Same.refl _,.nil,none,rfl⟩ (λm zs τ H' q=>by rw[q.2.1.len,aw];omega) (λm zs τ H' hm _=>hm) (λzs τ H' _=>Nat.le_refl _) (λm zs τ H' x H3 hm q yl=>?_) (λzs τ H5 q lr hlr=>?_)
  ·obtain⟨s2,sl2,v,rfl⟩:=q;obtain⟨rfl,rfl⟩:=yl;refine⟨_,rfl,_,rfl,λx' dx' hx' hdx' _=>⟨x',dx',a,_,_,UK _ (0+m),rfl,ZS 2 (by decide),Zd,UM hx' hdx' (s2 _ _ ha1),⟨a1,b1,c1,_,_,_,rfl,rfl,rfl⟩,λH' s3 st=>⟨rfl,?_⟩⟩⟩;have s4:=VT hx' hdx' s3;refine⟨s2.trans s4,?_,_,rfl⟩;rw[show(ZK T [.str a1,.str b1,.str c1,.int d1,.int e1]).take (m+1)=(ZK T [.str a1,.str b1,.str c1,.int d1,.int e1]).take m++[UK [.str a1,.str b1,.str c1,.int d1,.int e1] (0+m)]from Xi (n:=(T.n+1-d1).toNat) (by omega)];exact(sl2.same s4).snoc st (.inr (.inr (.inl ⟨_,hy,0+m,rfl,by omega,(by show 0+(m:Int)<=T.n-d1;omega),rfl,rfl⟩)))
  ·obtain⟨s2,sl2,v,rfl⟩:=q;have s5:Same H2 (upd H5 lr (.lst zs)):=sameNew s2 hlr;have sl5:=sl2.same (sameNew (o:=.lst zs) (Same.refl H5) hlr);have er:upd H5 lr (.lst zs) lr=some (.lst zs):=Zd;generalize upd H5 lr (.lst zs)=H6 at s5 sl5 er ⊢;have lz:zs.length<=51:=by rw[sl5.len,aw];omega
   have ly:ys.length<=2040:=by rw[sl.len];exact Nat.le_trans (JF i) (VU ok).2.2.1
   have fin:∀c o,H6 c=some o->c≠p->upd H6 p (.lst (ys++zs)) c=some o:=λc o e hc=>by rw[Zh hc];exact e
   refine⟨p,lr,ys,zs,rfl,rfl,s5 _ _ ep,er,Nat.le_trans (by omega:_<=20000) (by decide),hdd _ _ ⟨?_,_,_,Zd,?_,rfl⟩⟩
   ·exact λc o e hc=>fin _ _ (s5 _ _ (s1 _ _ e hc)) hc
   ·refine StL.keepL (s5 _ _ ep) fin ((sl.same s5).app ?_);rw[aO (by unfold ZK;rw[lm,bS];show(T.n+1-d1).toNat<=_;omega)]at sl5;exact sl5
 ·obtain⟨s1,ys,o,ep,sl,rfl⟩:=q;rw[aF]at sl;exact⟨_,rfl,k _ p ys (λc o e=>s1 _ _ e (Zk e hp)) hp ep sl⟩
theorem VA:FnScope ["table","steps","row"] ["table"] (Zb T.f_waits_of):=scO
noncomputable def Ul:Scope:=csx [(".0",.local),("turn",.local),("Wait",.globalImplicit),("row",.free)]
theorem Mq:CompScope Ul (Zb T.f_waits_of):=⟨rfl,by decide +kernel,by decide +kernel,by decide +kernel⟩
theorem Ms:(["turn","row"]:List Str).Nodup:=by decide +kernel
theorem Mr:CompNames ["table","steps","row"] Ul ["turn","row"] [none,some 2]:=.mk' (by decide +kernel)
theorem W5(B:∀x∈Blts,mg x=none)(Z:TCl K C)(ZS:∀j,j<4->SCl K (Cs j))(M:SMk P w K mg base "Wait" (Cs 3) ["self","row","turn"] (spMk K Cs 3 RV))(D:Df K mg "waits_of" T.f_waits_of ["table"]):Can P w K mg base 4 "waits_of" ["table"] (Xo C Cs λT=>T.t1.flatMap (ZJ T)):=by
 obtain⟨fm,fdm,hM,FM,bM⟩:=M.made;refine D.cn VA λf cdv A outer s H vs Q E hr h=>?_;obtain⟨t,T,rfl,tel,ok,k⟩:=h;obtain⟨fs,pr⟩:=UN tel;obtain⟨l,xs,f1,f2,f3,f4⟩:=pr.p;obtain⟨dx,ht⟩:=pr.tab.at_;refine⟨_,(Ze (st 1 VA.nd (ZA Zf)) (Ze (YJ bq rfl (VD (ZD (pv 0) rfl)) (VV (i:=2) VA.nd rfl (cQ rfl)) (Zi (ZO (Zw VX (it K (pv 2) Zc) Yc (ZC _)) (Zi (Yp (ND cg eO eN Mg (pv 1) (Za (Z7 rfl Mq Mr (Yn rfl (bm B) (Za (ZD (pv 0) rfl) Zf)) (λC s H ex pn=>(nmT 0 Ms)) (λC s H ex pn=>ZV) (λC s H ex pn=>(Jo hM FM hr.m rfl M.mg bM .nil YM (Za (pv 1) (Za (pv 0) Zf))))) Zf)))) Zy))) (Zi (Zo (pv 1))))),?_⟩;refine⟨zl,λp hp=>?_⟩;have e0:upd H p (.lst []) p=some (.lst []):=Zd;have S0:Zg p H (upd H p (.lst [])):=(Zg.refl p H).new' hp;generalize upd H p (.lst [])=H0 at e0 S0 ⊢;have ht':∀{H':Hp},Zg p H H'->H' t=some (.ins C dx fs):=λs=>s _ _ ht (Zk ht hp);have hl':∀{H':Hp},Zg p H H'->H' l=some (.tup xs):=λs=>s _ _ f2 (Zk f2 hp);refine⟨_,rfl,t,C,dx,fs,_,rfl,ht' S0,Z.cl,Z.na _ (by simp[fields]),f1,l,rfl,⟨_,SqT.of (hl' S0)⟩,?_⟩;refine Xz (J:=Itt K l) T.t1.length (λi σ H'=>Zg p H H'/\∃ys o,H' p=some (.lst ys)/\StL H' Cs T ys ((T.t1.take i).flatMap (ZJ T))/\σ=[some (.ref t),some (.ref p),o]) ⟨S0,_,_,e0,.nil,rfl⟩ (λi σ H' hi q=>?_) (λσ H' q=>?_) (λi σ H' x H2 hi q yl=>?_) (λσ H1 q=>?_)
 ·exact⟨xs,xs[i]'(by omega),SqT.of (hl' q.1),gE _⟩
 ·exact⟨xs,SqT.of (hl' q.1),by omega⟩
 ·obtain⟨s1,ys,o,ep,sl,rfl⟩:=q;have e1:T.t1[i]?=some T.t1[i]:=gE hi;obtain⟨a,ea,ha⟩:=f4 i _ e1;obtain⟨rfl,hx⟩:=yl;have hx2:=hx _ (SqT.of (hl' s1));rw[ea]at hx2;cases hx2;have hy:T.t1[i]∈T.t1:=aG hi;have ha1:=s1 _ _ ha (Zk ha hp);rw[XH hi];generalize T.t1[i]=y at ha1 hy;obtain⟨⟨nm,rm⟩,rfl,gs,hrm⟩:=UR ok hy;dsimp only[XQ];refine td λD' hdd=>?_;cases rm with
 |none=>refine ixT 1 ha1 rfl ⟨rfl,_,rfl,?_⟩;refine iteF ?_;refine hdd _ _ ⟨s1,ys,_,ep,?_,rfl⟩;rw[show ZJ T (plRow (nm,none))=[]from if_pos rfl,aT];exact sl
 |some b1=>
   refine ixT 1 ha1 rfl ⟨rfl,_,rfl,?_⟩;refine iteT ?_;have ew:ZJ T (plRow (nm,some b1))=(aY T.n.toNat).map λ(m:Nat)=>Uh (plRow (nm,some b1)) (0+m):=if_neg (λz=>by cases z);have hn:=ok.n1;have hn0:=ok.n0;refine⟨_,rfl,.inl ⟨rfl,_,SqL.of ep⟩,?_⟩;refine⟨_,rfl,t,C,dx,fs,_,rfl,ht' s1,Z.cl,Z.na _ (by simp[fields]),pr.turns,_,rfl,by omega,by omega,?_⟩;refine ZI (J:=Itr 0 T.n.toNat) T.n.toNat (Nat.le_trans (by omega:_<=51) (by decide)) (λm zs τ H'=>Same H2 H'/\StL H' Cs T zs ((ZJ T (plRow (nm,some b1))).take m)/\∃v,τ=[v,some (.ref a)]) ⟨Same.refl _,.nil,none,rfl⟩ (λm zs τ H' q=>by rw[q.2.1.len,aw];omega) (λm zs τ H' hm _=>hm) (λzs τ H' _=>Nat.le_refl _) (λm zs τ H' x H3 hm q yl=>?_) (λzs τ H5 q lr hlr=>?_)
   ·obtain⟨s2,sl2,v,rfl⟩:=q;obtain⟨rfl,rfl⟩:=yl;refine⟨_,rfl,_,rfl,λx' dx' hx' hdx' _=>⟨x',dx',a,_,_,Uh _ (0+m),rfl,ZS 3 (by decide),Zd,UM hx' hdx' (s2 _ _ ha1),⟨nm,_,_,rfl,rfl,rfl⟩,λH' s3 st=>⟨rfl,?_⟩⟩⟩;have s4:=VT hx' hdx' s3;refine⟨s2.trans s4,?_,_,rfl⟩;rw[show(ZJ T (plRow (nm,some b1))).take (m+1)=(ZJ T (plRow (nm,some b1))).take m++[Uh (plRow (nm,some b1)) (0+m)]from by rw[ew];exact Xi hm];exact(sl2.same s4).snoc st (.inr (.inr (.inr ⟨_,hy,0+m,rfl,(λz=>by cases z),by omega,by omega,rfl,rfl⟩)))
   ·obtain⟨s2,sl2,v,rfl⟩:=q;have s5:Same H2 (upd H5 lr (.lst zs)):=sameNew s2 hlr;have sl5:=sl2.same (sameNew (o:=.lst zs) (Same.refl H5) hlr);have er:upd H5 lr (.lst zs) lr=some (.lst zs):=Zd;generalize upd H5 lr (.lst zs)=H6 at s5 sl5 er ⊢;have lz:zs.length<=51:=by rw[sl5.len,aw];omega
    have ly:ys.length<=2040:=by rw[sl.len];exact Nat.le_trans (JF i) (Nat.le_trans (VU ok).2.2.2 (by decide))
    have fin:∀c o,H6 c=some o->c≠p->upd H6 p (.lst (ys++zs)) c=some o:=λc o e hc=>by rw[Zh hc];exact e
    refine⟨p,lr,ys,zs,rfl,rfl,s5 _ _ ep,er,Nat.le_trans (by omega:_<=20000) (by decide),hdd _ _ ⟨?_,_,_,Zd,?_,rfl⟩⟩
    ·exact λc o e hc=>fin _ _ (s5 _ _ (s1 _ _ e hc)) hc
    ·refine StL.keepL (s5 _ _ ep) fin ((sl.same s5).app ?_);rw[aO (by rw[ew,lm,bS];exact Nat.le_refl _)]at sl5;exact sl5
 ·obtain⟨s1,ys,o,ep,sl,rfl⟩:=q;rw[aF]at sl;exact⟨_,rfl,k _ p ys (λc o e=>s1 _ _ e (Zk e hp)) hp ep sl⟩
noncomputable def Mh(T:Tb):List Sx:=T.t2.map XJ++T.t3.flatMap (ZK T)++T.t1.flatMap (ZJ T)
theorem Km(T:Tb):T.t4.flatMap (ZX T)++Mh T=allS T:=by unfold allS Mh;simp only[bG]
theorem QY:FnScope ["table"] ["table"] (Zb T.f_moves_of):=scO
noncomputable def Um:Scope:=csx [(".0",.local),("row",.local),("Ride",.globalImplicit)]
theorem Mt:CompScope Um (Zb T.f_moves_of):=⟨rfl,by decide +kernel,by decide +kernel,by decide +kernel⟩
theorem Mv:(["row"]:List Str).Nodup:=by decide +kernel
theorem Mu:CompNames ["table"] Um ["row"] [none]:=.mk' (by decide +kernel)
theorem Ke(B:∀x∈Blts,mg x=none)(Z:TCl K C)(ZS:∀j,j<4->SCl K (Cs j))(M:SMk P w K mg base "Ride" (Cs 1) ["self","row"] (spMk K Cs 1 RW))(CW:Can P w K mg base 4 "walks_of" ["table"] (Xo C Cs λT=>T.t3.flatMap (ZK T)))(CA:Can P w K mg base 4 "waits_of" ["table"] (Xo C Cs λT=>T.t1.flatMap (ZJ T)))(D:Df K mg "moves_of" T.f_moves_of ["table"]):Can P w K mg base 5 "moves_of" ["table"] (Xo C Cs Mh):=by
 obtain⟨fm,fdm,hM,FM,bM⟩:=M.made;refine D.cn QY λf cdv A outer s H vs Q E hr h=>?_;obtain⟨t,T,rfl,tel,ok,k⟩:=h;obtain⟨fs,pr⟩:=UN tel;obtain⟨l,xs,f1,f2,f3,f4⟩:=pr.r;obtain⟨dx,ht⟩:=pr.tab.at_;have pl:=VU ok;refine⟨_,(Zi (Zo (Zv Uz (Zv Uz (Z7 rfl Mt Mu (VD (ZD (pv 0) rfl)) (λC s H ex pn=>(nmT 0 Mv)) (λC s H ex pn=>ZV) (λC s H ex pn=>(Jo hM FM hr.m rfl M.mg bM .nil YM (Za (pv 0) Zf)))) (cn CW hr (Za (pv 0) Zf))) (cn CA hr (Za (pv 0) Zf))))),?_⟩;refine⟨_,rfl,t,C,dx,fs,_,rfl,ht,Z.cl,Z.na _ (by simp[fields]),f1,l,rfl,⟨_,SqT.of f2⟩,?_⟩;refine ZI (J:=Itt K l) T.t2.length (Nat.le_trans (NF ok).2.1 (by decide)) (λm zs τ H'=>Same H H'/\StL H' Cs T zs ((T.t2.take m).map XJ)/\∃v,τ=[v]) ⟨Same.refl _,.nil,none,rfl⟩ (λm zs τ H' q=>by rw[q.2.1.len,lm,aw];omega) (λm zs τ H' hm q=>⟨xs,xs[m]'(by omega),SqT.of (q.1 _ _ f2),gE _⟩) (λzs τ H' q=>⟨xs,SqT.of (q.1 _ _ f2),by omega⟩) (λm zs τ H' x H3 hm q yl=>?_) (λzs τ H5 q lr hlr=>?_)
 ·obtain⟨s2,sl2,v,rfl⟩:=q;have e1:T.t2[m]?=some T.t2[m]:=gE hm;obtain⟨a,ea,ha⟩:=f4 m _ e1;obtain⟨rfl,hx⟩:=yl;have hx2:=hx _ (SqT.of (s2 _ _ f2));rw[ea]at hx2;cases hx2;have hy:T.t2[m]∈T.t2:=aG hm;have ha1:=s2 _ _ ha;rw[map_take hm];generalize T.t2[m]=y at ha1 hy;obtain⟨a1,b1,d1,c1,e1,g1,rfl,_⟩:=RX ok hy;refine⟨_,rfl,λx' dx' hx' hdx' _=>⟨x',dx',a,_,_,XJ _,rfl,ZS 1 (by decide),Zd,UM hx' hdx' ha1,⟨a1,b1,_,d1,_,_,rfl,rfl,rfl⟩,λH' s3 st=>⟨rfl,?_⟩⟩⟩;have s4:=VT hx' hdx' s3;exact⟨s2.trans s4,(sl2.same s4).snoc st (.inr (.inl ⟨_,hy,rfl,rfl,rfl⟩)),_,rfl⟩
 ·obtain⟨s2,sl2,v,rfl⟩:=q;rw[aF]at sl2;have s5:Same H (upd H5 lr (.lst zs)):=sameNew s2 hlr;have sl5:=sl2.same (sameNew (o:=.lst zs) (Same.refl H5) hlr);have er:upd H5 lr (.lst zs) lr=some (.lst zs):=Zd;have fr:H lr=none:=s2.free hlr;generalize upd H5 lr (.lst zs)=H6 at s5 sl5 er ⊢;refine⟨_,rfl,t,T,rfl,tel.same s5,ok,λH7 p2 ws s7 h7 e7 sl7=>?_⟩;replace sl7:StL H7 Cs T ws (T.t3.flatMap (ZK T)):=sl7;refine⟨lr,p2,zs,ws,rfl,rfl,s7 _ _ er,e7,?_,λp3 h3=>?_⟩
  ·rw[sl5.len,sl7.len];exact Nat.le_trans (by omega:_<=20000) (by decide)
  have s8:Same H7 (upd H7 p3 (.lst (zs++ws))):=sameNew (Same.refl _) h3;have slA:=((sl5.same s7).app sl7).same s8;have e8:upd H7 p3 (.lst (zs++ws)) p3=some (.lst (zs++ws)):=Zd;generalize upd H7 p3 (.lst (zs++ws))=H8 at s8 slA e8 ⊢;have S08:=s5.trans (s7.trans s8);refine⟨_,rfl,t,T,rfl,tel.same S08,ok,λH9 p4 us s9 h9 e9 sl9=>?_⟩;replace sl9:StL H9 Cs T us (T.t1.flatMap (ZJ T)):=sl9;have slB:=(slA.same s9).app sl9;have S09:=S08.trans s9;refine⟨p3,p4,_,us,rfl,rfl,s9 _ _ e8,e9,?_,λp5 h5=>?_⟩
  ·rw[slA.len,sl9.len,ay];exact Nat.le_trans (by omega:_<=20000) (by decide)
  exact k _ p5 _ (sameNew S09 h5) (S09.free h5) Zd (slB.same (sameNew (Same.refl _) h5))
theorem QW:FnScope ["table"] ["table"] (Zb T.f_steps_of):=scO
theorem Ka(CO:Can P w K mg base 4 "set_outs_of" ["table"] (Xo C Cs λT=>T.t4.flatMap (ZX T)))(CM:Can P w K mg base 5 "moves_of" ["table"] (Xo C Cs Mh))(D:Df K mg "steps_of" T.f_steps_of ["table"]):Can P w K mg base 6 "steps_of" ["table"] (Xo C Cs allS):=by
 refine D.cn QW λf cdv A outer s H vs Q E hr h=>?_;obtain⟨t,T,rfl,tel,ok,k⟩:=h;have pl:=VU ok;refine⟨_,(Zi (Zo (Zv Uz (cn CO hr (Za (pv 0) Zf)) (cn CM hr (Za (pv 0) Zf))))),?_⟩;refine⟨_,rfl,t,T,rfl,tel,ok,λH7 p2 ws s7 h7 e7 sl7=>?_⟩;replace sl7:StL H7 Cs T ws (T.t4.flatMap (ZX T)):=sl7;refine⟨_,rfl,t,T,rfl,tel.same s7,ok,λH9 p4 us s9 h9 e9 sl9=>?_⟩;have slB:=(sl7.same s9).app sl9;have S09:=s7.trans s9;refine⟨p2,p4,ws,us,rfl,rfl,s9 _ _ e7,e9,?_,λp5 h5=>?_⟩
 ·have lm:(Mh T).length<=3000:=by unfold Mh;rw[ay,ay];omega
  rw[sl7.len,sl9.len];exact Nat.le_trans (by omega:_<=20000) (by decide)
 rw[Km]at slB;exact k _ p5 _ (sameNew S09 h5) (S09.free h5) Zd (slB.same (sameNew (Same.refl _) h5))
end
end SX
namespace L2
open PySem PySem.Spec PyProof.Rows
section
variable {prog:Program}{w:World}{A:aX}{E:Value->ag->Prop}{s:ag}
def RawD(h:Heap)(d:Addr)(es:Array dB)(ep:Nat):Prop:=∃o,h.get? d=some o/\o.ExactDict/\o.data=.dict es ep
theorem Xl{α β:Type}{R:α->β->Prop}:∀{a:List α}{c:List β},cU R a c->∀{i:Nat}{x:α}{y:β},a[i]?=some x->c[i]?=some y->R x y
|_,_,.nil,_,_,_,h,_=>by cases h
|_,_,.cons h t,0,_,_,e1,e2=>by cases e1;cases e2;exact h
|_,_,.cons h t,i+1,_,_,e1,e2=>Xl t (by simpa using e1) (by simpa using e2)
noncomputable def itF(a b c d e f g k:Value):Obj:={cls:=.type "dict_itemiterator",data:=.fields #[a,b,c,d,e,f,g,k]}
theorem Rm{it d:Addr}{o:Obj}{es:Array dB}{i ep:Nat}{e:dB}{ok ov:Value}{Q:Fin->ag->Prop}(st:IsItemIter s.heap it d i es.size ep ok ov)(hd:s.heap.get? d=some o)(hdd:o.data=.dict es ep)(he:es[i]?=some e)(hQ:∀h',IsItemIterOut h' it d (i+1) es.size ep e.key e.val s.heap.objs.size->h'.get? s.heap.objs.size=some {cls:=.type "tuple",data:=.seq #[e.key,e.val]}->(∀b q,b≠it->s.heap.get? b=some q->h'.get? b=some q) ->Q (.done (.ret (.ref s.heap.objs.size))) {s with heap:=h'}):wpAny (model prog w) A (dG.«dict_itemiterator.__next__» ⟨[.ref it],[]⟩) Q E s:=by
 have h1:s.heap.get? it=some (itF .none (.bool false) (.ref d) (.int i 0) (.int es.size 0) (.int ep 0) ok ov):=st;have hT:s.TypeIs (.ref it) "dict_itemiterator":=⟨_,h1,rfl⟩;have set_at:∀{h:Heap}{a b c d e f g k:Value}{j:Nat}{x:Value},h.get? it=some (itF a b c d e f g k)->(h.update it (Obj.mapFields λy=>y.setIfInBounds j x)).get? it=some {cls:=.type "dict_itemiterator",data:=.fields (#[a,b,c,d,e,f,g,k].setIfInBounds j x)}:=λh=>Heap.get?_update_self _ h (by rfl);unfold dG.«dict_itemiterator.__next__»;refine ae ?_;refine ao ?_;refine ae ?_;refine ae ?_;refine ae (df hT ?_);refine ao ?_;refine ae (wpAny_fieldsOf h1 rfl ?_);show wpAny _ _ (if(Value.ref d==Value.none)=true then _ else _) _ _ _;rw[if_neg (show ¬(Value.ref d==Value.none)=true from λz=>nomatch z)];refine ae ?_;refine ao ?_;refine ae (wpAny_dictEntries hd hdd ?_);rw[if_neg (by simp)];refine ae ?_;refine ao ?_;refine ae (wpAny_dictEpoch hd hdd ?_);rw[if_neg (by simp)];refine ao ?_;have ei:(if(i:Int)<0 then none else es[((i:Int)).toNat]?)=some e:=by rw[if_neg (by omega),Int.toNat_natCast];exact he
 show wpAny _ _ (match (if(i:Int)<0 then none else es[((i:Int)).toNat]?)with|some e=>_|none=>_) _ _ _
 rw[ei];refine ae ?_;refine ae (df hT ?_);refine ao ?_;refine ae (fZ hT ?_);refine ae (bW h1 rfl (show 2+1<8 by decide) ?_);have g1:(s.heap.update it (Obj.mapFields λx=>x.setIfInBounds 3 (bU ((i:Int)+1)))).get? it=some (itF .none (.bool false) (.ref d) (bU ((i:Int)+1)) (.int es.size 0) (.int ep 0) ok ov):=set_at h1;have sb1:Heap.SameBut it s.heap (s.heap.update it (Obj.mapFields λx=>x.setIfInBounds 3 (bU ((i:Int)+1)))):=Heap.SameBut.update ..;have z1:(s.heap.update it (Obj.mapFields λx=>x.setIfInBounds 3 (bU ((i:Int)+1)))).objs.size=s.heap.objs.size:=sb1.1;show wpAny _ _ (eR _ _ >>= _) _ _ {s with heap:=s.heap.update it (Obj.mapFields λx=>x.setIfInBounds 3 (bU ((i:Int)+1)))};generalize s.heap.update it (Obj.mapFields λx=>x.setIfInBounds 3 (bU ((i:Int)+1)))=H1 at g1 sb1 z1 ⊢;have hT1:Shared.TypeIs {s with heap:=H1} (.ref it) "dict_itemiterator":=⟨_,g1,rfl⟩;refine ae (bz ?_);refine ae (fZ hT1 ?_);refine ae (fZ hT1 ?_);show wpAny _ _ (fj (.ref it) 6 e.key e.val) _ _ _;unfold fj;unfold newTuple;refine ae (bX ?_ (by size_fits));have np:it≠H1.objs.size:=Nat.ne_of_lt (Heap.lt_size g1);have g2:(H1.push {cls:=.type "tuple",data:=.seq #[e.key,e.val]}).get? it=some (itF .none (.bool false) (.ref d) (bU ((i:Int)+1)) (.int es.size 0) (.int ep 0) ok ov):=Heap.get?_push_of_some _ g1;have t2:(H1.push {cls:=.type "tuple",data:=.seq #[e.key,e.val]}).get? H1.objs.size=some {cls:=.type "tuple",data:=.seq #[e.key,e.val]}:=Heap.get?_push_size _ rfl;have k2:∀b q,b≠it->s.heap.get? b=some q->(H1.push {cls:=.type "tuple",data:=.seq #[e.key,e.val]}).get? b=some q:=λb q hb z=>Heap.get?_push_of_some _ ((sb1.2 b hb).trans z);rw[z1]at t2 np;show wpAny _ _ (_ >>= _) _ _ {s with heap:=H1.push {cls:=.type "tuple",data:=.seq #[e.key,e.val]}};generalize hz:H1.push {cls:=.type "tuple",data:=.seq #[e.key,e.val]}=H2 at g2 t2 k2 ⊢;refine ae (m:=Builtin.Dict_items.ownedTupleIsFree (.ref it)) (ae (bt g2 rfl rfl (ao ?_)));simp only[if_true];show wpAny _ _ (field (.ref it) 6 >>= _) _ _ _;refine ae (bt g2 rfl rfl (ae (bt g2 rfl rfl ?_)));have step:∀{h:Heap}{j:Nat}{x:Value},h.get? s.heap.objs.size=some {cls:=.type "tuple",data:=.seq #[e.key,e.val]}->(∀b q,b≠it->s.heap.get? b=some q->h.get? b=some q) ->(h.update it (Obj.mapFields λy=>y.setIfInBounds j x)).get? s.heap.objs.size=some {cls:=.type "tuple",data:=.seq #[e.key,e.val]}/\∀b q,b≠it->s.heap.get? b=some q->(h.update it (Obj.mapFields λy=>y.setIfInBounds j x)).get? b=some q:=λht hk=>by have sb:=λ(h:Heap)(g:Obj->Obj)=>(Heap.SameBut.update (h:=h) (a:=it) (f:=g));exact⟨((sb _ _).2 _ (bA np)).trans ht,λb q hb z=>((sb _ _).2 b hb).trans (hk b q hb z)⟩
 refine ae (bW g2 rfl (show 6<8 by decide) ?_);have g3:(H2.update it (Obj.mapFields λx=>x.setIfInBounds 6 e.key)).get? it=some (itF .none (.bool false) (.ref d) (bU ((i:Int)+1)) (.int es.size 0) (.int ep 0) e.key ov):=set_at g2;obtain⟨t3,k3⟩:=step (j:=6) (x:=e.key) t2 k2;show wpAny _ _ (_ >>= _) _ _ {s with heap:=H2.update it (Obj.mapFields λx=>x.setIfInBounds 6 e.key)};generalize H2.update it (Obj.mapFields λx=>x.setIfInBounds 6 e.key)=H3 at g3 t3 k3 ⊢;refine ae (bW g3 rfl (show 7<8 by decide) ?_);have g4:(H3.update it (Obj.mapFields λx=>x.setIfInBounds 7 e.val)).get? it=some (itF .none (.bool false) (.ref d) (bU ((i:Int)+1)) (.int es.size 0) (.int ep 0) e.key e.val):=set_at g3;obtain⟨t4,k4⟩:=step (j:=7) (x:=e.val) t3 k3;show wpAny _ _ (_ >>= _) _ _ {s with heap:=H3.update it (Obj.mapFields λx=>x.setIfInBounds 7 e.val)};generalize H3.update it (Obj.mapFields λx=>x.setIfInBounds 7 e.val)=H4 at g4 t4 k4 ⊢;rw[z1];refine ae (bW g4 rfl (show 0<8 by decide) ?_);have g5:(H4.update it (Obj.mapFields λx=>x.setIfInBounds 0 (bU (s.heap.objs.size:Nat)))).get? it=some (itF (bU (s.heap.objs.size:Nat)) (.bool false) (.ref d) (bU ((i:Int)+1)) (.int es.size 0) (.int ep 0) e.key e.val):=set_at g4;obtain⟨t5,k5⟩:=step (j:=0) (x:=bU (s.heap.objs.size:Nat)) t4 k4;show wpAny _ _ (_ >>= _) _ _ {s with heap:=H4.update it (Obj.mapFields λx=>x.setIfInBounds 0 (bU (s.heap.objs.size:Nat)))};generalize H4.update it (Obj.mapFields λx=>x.setIfInBounds 0 (bU (s.heap.objs.size:Nat)))=H5 at g5 t5 k5 ⊢;refine ae (bW g5 rfl (show 1<8 by decide) ?_);have g6:(H5.update it (Obj.mapFields λx=>x.setIfInBounds 1 (.bool false))).get? it=some (itF (bU (s.heap.objs.size:Nat)) (.bool false) (.ref d) (bU ((i:Int)+1)) (.int es.size 0) (.int ep 0) e.key e.val):=set_at g5;obtain⟨t6,k6⟩:=step (j:=1) (x:=.bool false) t5 k5;show wpAny _ _ (_ >>= _) _ _ {s with heap:=H5.update it (Obj.mapFields λx=>x.setIfInBounds 1 (.bool false))};generalize H5.update it (Obj.mapFields λx=>x.setIfInBounds 1 (.bool false))=H6 at g6 t6 k6 ⊢;refine ae (wpAny_letGo ?_);exact ao (ao (hQ H6 g6 t6 k6))
theorem Sg{it d:Addr}{o:Obj}{es:Array dB}{i ep:Nat}{ok ov:Value}{Q:Fin->ag->Prop}(hh:A.handled=none)(st:IsItemIter s.heap it d i es.size ep ok ov)(hd:s.heap.get? d=some o)(hdd:o.data=.dict es ep)(he:es[i]?=none)(hE:∀h' e,(∀c q,c≠it->s.heap.get? c=some q->h'.get? c=some q)->(∃o,h'.get? e=some o/\o.cls=.type "StopIteration")->E (.ref e) {s with heap:=h'}):wpAny (model prog w) A (dG.«dict_itemiterator.__next__» ⟨[.ref it],[]⟩) Q E s:=by
 have h1:s.heap.get? it=some (itF .none (.bool false) (.ref d) (.int i 0) (.int es.size 0) (.int ep 0) ok ov):=st;have hT:s.TypeIs (.ref it) "dict_itemiterator":=⟨_,h1,rfl⟩;unfold dG.«dict_itemiterator.__next__»;refine ae ?_;refine ao ?_;refine ae ?_;refine ae ?_;refine ae (df hT ?_);refine ao ?_;refine ae (wpAny_fieldsOf h1 rfl ?_);show wpAny _ _ (if(Value.ref d==Value.none)=true then _ else _) _ _ _;rw[if_neg (show ¬(Value.ref d==Value.none)=true from λz=>nomatch z)];refine ae ?_;refine ao ?_;refine ae (wpAny_dictEntries hd hdd ?_);rw[if_neg (by simp)];refine ae ?_;refine ao ?_;refine ae (wpAny_dictEpoch hd hdd ?_);rw[if_neg (by simp)];refine ao ?_;have ei:(if(i:Int)<0 then none else es[((i:Int)).toNat]?)=none:=by rw[if_neg (by omega),Int.toNat_natCast];exact he
 show wpAny _ _ (match (if(i:Int)<0 then none else es[((i:Int)).toNat]?)with|some e=>_|none=>_) _ _ _
 rw[ei];refine ae ?_;refine ae (df hT ?_);refine ao ?_;refine ae (bW h1 rfl (show 2<8 by decide) ?_);show wpAny (model prog w) _ (newExc (.type "StopIteration") [] >>= _) _ _ _;refine ae ?_;simp only[newTuple,newExc];refine ae (bX (ae (m:=gH _ _) (wpAny_of_eq (a:=Value.none) (by first|rfl|(simp only[gH];rfl)) (bX ?_ (by size_fits)))) (by size_fits))
 simp only[raiseNew];refine ae (wpAny_handled ?_);rw[hh];refine ae (ao (wpAny_throw ?_));exact hE _ _ (((Heap.SameBut.update ..).extBut.push _).push _) ⟨_,Heap.get?_push_size _ rfl,rfl⟩
theorem FN{P:Program}{w:World}{es:Array dB}{xs:List (List Key×Addr×Value)}(h:es.toList=xs.map (entryOfKey (fR (Yv P w)))){i:Nat}{x:List Key×Addr×Value}(hx:xs[i]?=some x):∃e,es[i]?=some e/\e.key=.ref x.2.1/\e.val=x.2.2:=by refine⟨entryOfKey (fR (Yv P w)) x,?_,rfl,rfl⟩;rw[<-Array.getElem?_toList,h,ah,hx];rfl
noncomputable def Iti(a:Addr)(o:Obj)(kvs:List (List Key×V)):It:=⟨λi H=>i<kvs.length/\H a=some (.frz o (.dT kvs)),λi H x H'=>∃(T b:Addr)(kv:List Key×V),H T=none/\kvs[i]?=some kv/\H b=some (.tup (kv.1.map kV))/\x=.ref T/\H'=upd H T (.tup [.ref b,kv.2]),λi H=>i=kvs.length/\H a=some (.frz o (.dT kvs))⟩
theorem RE{P:Program}{w:World}{K:aa}{es':List Expr}{k:Nat}{pt:Pos}{a it:Addr}{o:Obj}{kvs:List (List Key×V)}{es:Array dB}{ep:Nat}(hdd:o.data=.dict es ep)(hsz:es.size=kvs.length):
  Turn P w K (.Tuple es' k pt) (Iti a o kvs) [it] it (λi h=>∃ok ov,IsItemIter h it a i es.size ep ok ov) where
 mem:=by simp
 obj:=λi h st b hb=>by
  have e:b=it:=by simpa using hb
  subst e
  obtain⟨ok,ov,e⟩:=st
  exact⟨_,e,λv z=>by cases z⟩
 keep:=λi h h' st k=>by
  obtain⟨ok,ov,e⟩:=st
  exact⟨ok,ov,k it (by simp) _ e⟩
 item:=by
  intro X hP hw hK hc i pins s σ H E I hf st hg
  subst hP hw hK
  obtain⟨hi,hq⟩:=hg
  obtain⟨ok,ov,st⟩:=st
  obtain⟨ho,z,hd,xs,rel,o',es2,ep2,h1,h2,h3,h4,h5⟩:=I.hok a _ hq
  rw[ho]at h1
  cases h1
  rw[hdd]at h3
  cases h3
  have hl:=cv rel
  have hi':i<xs.length:=by omega
  obtain⟨e,he,ek,ev⟩:=FN h4 (gE hi')
  have hkv:=gE hi
  obtain⟨r1,r2,r3⟩:=Xl rel hkv (gE hi')
  have hT:s.TypeIs (.ref it) "dict_itemiterator":=⟨_,st,rfl⟩
  unfold fH
  refine ae (fJ (bR (name:=Str.ofString "__next__") hT F.slot_dict_itemiterator_next (cj F.slot_dict_itemiterator_next hT F.entry_dict_itemiterator_next ?_ (F.args_dict_itemiterator_next_1 _))))
  refine Rm st ho hdd he λh' st' t' kk=>⟨_,rfl,ao ?_⟩
  generalize hTT:s.heap.objs.size=T at st' t'
  have hTs:s.heap.objs.size<=T:=Nat.le_of_eq hTT
  refine⟨_,rfl,?_⟩
  refine wpAny_letOwnedTupleGo_items (s:={s with heap:=h'}) st' λh2 st2 s2=>?_
  have hTn:H T=none:=I.hok.fresh hTs
  have hap:T≠it:=by rw[<-hTT];exact Nat.ne_of_gt (Heap.lt_size st)
  have hb2:∀c,c≠it->∀o,s.heap.get? c=some o->h2.get? c=some o:=λc hcn o q=>(s2.2 c hcn).trans (kk c o hcn q)
  have nb:∀c u,H c=some u->c≠it:=λc u q hcn=>by rw[hcn,(hf it (by simp)).1]at q;cases q
  have I1:Inv X pins σ (upd H T (.tup [.ref xs[i].2.1,kvs[i].2])) {s with heap:=h2,toks:=s.toks}:=by
   refine I.step (g':=s.gens) (d':=s.drawn) (ch:=[it]) (λc hcn=>?_) (λc o _ _ hcn q _=>hb2 c (by simpa using hcn) o q) (λc o _ _ hcn q _=>⟨o.slots,hb2 c (by simpa using hcn) o q⟩)
    (λc o hcn q n=>?_) (λc o hcn q=>⟨o,hb2 c (by simpa using hcn) o q⟩) (λc xs q=>?_) (λc o u q=>?_) (λc ps q=>?_) (λm hm=>?_) ?_ I.bare
   ·obtain⟨g0,g1,g2,g3,g4,g5⟩:=hf c hcn
    exact⟨g3,g1,g4,g5⟩
   ·rw[Zh (Nat.ne_of_lt (Nat.lt_of_lt_of_le (Heap.lt_size q) hTs))];exact n
   ·rw[Zh (Zk q hTn)];exact q
   ·rw[Zh (Zk q hTn)];exact q
   ·exact⟨#[],by rw[Zh (Zk q hTn),q];simp⟩
   ·obtain⟨o,es',ep,ho,r⟩:=hm
    refine⟨o,es',ep,hb2 _ ?_ o ho,r⟩
    intro hcn
    obtain⟨g0,g1,_⟩:=hf it (by simp)
    exact g1 hcn.symm
   ·intro c ob q
    by_cases hcT:c=T
    ·subst hcT
     rw[Zd]at q
     cases q
     refine⟨zl,[e.key,e.val],.cons (by rw[ek];rfl) (.cons (by rw[ev];exact r3) .nil),⟨_,(s2.2 _ hap).trans t',rfl,_,rfl⟩⟩
    ·rw[Zh hcT]at q
     refine(I.hok c ob q).stay (λc' v hc' q'=>hb2 c' ?_ v q') (λc' q'=>by rw[Zh (Zk q' hTn)];exact q') λc' xs q'=>by rw[Zh (Zk q' hTn)];exact q'
     rcases hc' with rfl|hc'
     ·exact nb _ _ q
     ·exact nb _ _ hc'
  refine⟨.ref T,_,I1,rfl,⟨T,xs[i].2.1,kvs[i],hTn,hkv,r2,rfl,rfl⟩,⟨_,_,st2⟩,λc hcn=>?_⟩
  have e':c=it:=by simpa using hcn
  rw[e',Zh hap.symm]
  exact(hf it (by simp)).1
 done:=by
  intro X hP hw hK hc i pins s σ H E I hf st hg
  subst hP hw hK
  obtain⟨hi,hq⟩:=hg
  obtain⟨ok,ov,st⟩:=st
  have ho:=(I.hok a _ hq).1
  obtain⟨f0,f1,f2,f3,f4,f5⟩:=hf it (by simp)
  have hT:s.TypeIs (.ref it) "dict_itemiterator":=⟨_,st,rfl⟩
  unfold fH
  refine ae (fJ (bR (name:=Str.ofString "__next__") hT F.slot_dict_itemiterator_next (cj F.slot_dict_itemiterator_next hT F.entry_dict_itemiterator_next ?_ (F.args_dict_itemiterator_next_1 _))))
  refine Sg (I.ok.hd hc) st ho hdd (by simp;omega) λh' e hk he=>?_
  obtain⟨o',ho',hc'⟩:=he
  refine ae (wpAny_isInstance (T:="StopIteration") (b:=true) ⟨o',ho',hc'⟩ isSubtype_stop ?_)
  exact ao ⟨rfl,I.turned (t':=s.toks) hk f0 f1 f3 f4 f5⟩
 self:=λ_ _ _ _ _ st h=>by
  obtain⟨ok,ov,st⟩:=st
  exact PySem.W.kcp_self st h
noncomputable def MG(d:Addr):Obj:={cls:=.type "dict_items",data:=.fields #[.ref d]}
theorem Lw{d:Addr}(hs:(d==c7)=false):MeetsIn prog w (dG.«dict.items» ⟨[.ref d],[]⟩) (λA R s=>(∃es ep,RawD s.heap d es ep)/\R (.ok (.ret (.ref s.heap.objs.size))) {s with heap:=s.heap.push (MG d)}):=.of_wp λA R s hZ=>by obtain⟨⟨es,ep,o,ho,ex,hd⟩,h⟩:=hZ;have hT:s.TypeIs (.ref d) "dict":=⟨o,ho,ex.1⟩;unfold dG.«dict.items»;refine ae ?_;unfold Builtin.Dict.noArgs;refine ae (wpAny_notOrdered_dict hT ?_);refine ae ?_;refine ao ?_;refine ae ?_;refine ao ?_;refine ao ?_;refine ae ?_;unfold Builtin.Dict.showsAll;rw[if_neg (by rw[hs];exact Bool.false_ne_true)];refine ao ?_;unfold newFields;refine ae (bX ?_ (by size_fits));exact ao ⟨_,rfl,h⟩
theorem WQ{v d:Addr}{es:Array dB}{ep:Nat}{Q:Value->ag->Prop}(hv:s.heap.get? v=some (MG d))(h:RawD s.heap d es ep)(hQ:Q (.ref s.heap.objs.size) {s with heap:=s.heap.push (itF .none (.bool false) (.ref d) (.int 0 0) (.int es.size 0) (.int ep 0) .none .none)}):wpAny (model prog w) A (pyIter (.ref v)) Q E s:=by obtain⟨o,ho,ex,hd⟩:=h;have hT:s.TypeIs (.ref v) "dict_items":=⟨_,hv,rfl⟩;refine wpAny_pyIter_slot hT F.slot_dict_items_iter (cj F.slot_dict_items_iter hT F.entry_dict_items_iter ?_ (F.args_dict_items_iter_1 _));unfold dG.«dict_items.__iter__»;refine ae ?_;refine ao ?_;refine ae ?_;unfold Builtin.Dict_items.dictOf;refine ae (bt hv rfl rfl ?_);refine ao ?_;refine ae ?_;unfold Builtin.Dict_items.newIterator;refine ae (wpAny_dictEntries ho hd ?_);refine ae (wpAny_dictEpoch ho hd ?_);unfold newFields;refine bX ?_ (by show 8<=_;decide);refine ao ⟨_,rfl,"dict_itemiterator",_,⟨_,Heap.get?_push_size _ rfl,rfl⟩,F.slot_dict_itemiterator_next.lookup,?_⟩;exact hQ
end
section
variable {X:Cx}{pins:List (Addr×Obj)}{σ:St}{H:Hp}{s:ag}{a:Addr}{o:Obj}{u:HO}
theorem Inv.thaw(I:Inv X pins σ H s)(e:H a=some (.frz o u))(h0:∀o' u',X.H₀ a≠some (.frz o' u')):Inv X pins σ (upd H a u) s:=by
 have ne:∀{c:Addr},H c=none->c≠a:=λh z=>by rw[z,e]at h;cases h
 have nt:∀{c:Addr}{xs:List V},H c=some (.tup xs)->c≠a:=λh z=>by rw[z,e]at h;cases h
 have nw:∀{c y:Addr},H c=some (.own y)->c≠a:=λh z=>by rw[z,e]at h;cases h
 refine⟨I.ok,I.os,I.bare,⟨I.base.keep,I.base.slot,λb ob q n hx=>?_,I.base.there,λb xs q=>?_,λb ob v q=>?_,λb ps q=>?_⟩,I.loc,I.cell,?_,λx c q=>?_,λp hp=>?_,λb v q=>?_,I.len⟩
 ·have:=I.base.free b ob q n hx;rw[Zh (ne this)];exact this
 ·have z:=I.base.tups b xs q;rw[Zh (nt z)];exact z
 ·rw[Zh (λz=>h0 _ _ (z▸q))];exact I.base.frzs b ob v q
 ·obtain⟨m,hm⟩:=I.base.tbls b ps q;exact⟨m,by rw[Zh (λz=>by rw[z,e]at hm;cases hm)];exact hm⟩
 ·rw[Zh (ne I.free)];exact I.free
 ·rw[Zh (ne (I.freeC x c q))];exact I.freeC x c q
 ·obtain⟨p1,p2,p3⟩:=I.pin p hp;exact⟨p1,by rw[Zh (ne p2)];exact p2,p3⟩
 ·by_cases hb:b=a
  ·subst hb;rw[Zd]at q;cases q;exact(I.hok b _ e).2.stay (λ_ _ _ z=>z) (λc z=>by rw[Zh (nw z)];exact z) λc xs z=>by rw[Zh (nt z)];exact z
  ·rw[Zh hb]at q;exact(I.hok b v q).stay (λ_ _ _ z=>z) (λc z=>by rw[Zh (nw z)];exact z) λc xs z=>by rw[Zh (nt z)];exact z
def Ht(H0:Hp)(t:TS):TS:=λD σ H=>t {D with nx:=λσ' H'=>∃a o u,H' a=some (.frz o u)/\(∀o' u',H0 a≠some (.frz o' u'))/\D.nx σ' (upd H' a u)} σ H
theorem DN{st:Stmt}{t:TS}(h:PS X st t):PS X st (Ht X.H₀ t):=by
 intro pins s σ H D I q;refine c5 (h pins s σ H _ I q) (λr s1 hq=>?_) λ_ _ e=>e;cases r with
|next=>obtain⟨σ',H',I',a,o,u,e1,e0,q'⟩:=hq;exact⟨σ',_,I'.thaw e1 e0,q'⟩
|_=>exact hq
noncomputable def FO(tl:TE):TI:=λσ H R=>tl σ H λx H1=>∃a kvs,x=.ref a/\H1 a=some (.dT kvs)/\∀o,R (Iti a o kvs) (upd H1 a (.frz o (.dT kvs)))
theorem Lc{o:Expr}{to:TE}{es':List Expr}{k:Nat}{pt apos cpos:Pos}(ho:PE X o to)(hbase:dE o "items" X.env (eval o X.env)=eval o X.env:=by rfl)(hline:(apos.endLine==cpos.line)=true:=by rfl):PI X (.Tuple es' k pt) (.Call (.Attribute o "items" apos) [] [] cpos) (FO to):=by
 intro pins s σ H R I h;refine wpAny_Call_method0_late hbase hline (thn (ho pins s σ H _ I h) λv s1 hZ=>?_);obtain⟨x,H1,I1,r1,a,kvs,ex,hq,q⟩:=hZ;subst ex;cases r1;obtain⟨z,hd,xs,rel,ob,es,ep,h1,h2,h3,h4,h5,h6⟩:=EK I1.hok hq;have hT:s1.TypeIs (.ref a) "dict":=⟨ob,h1,h2.1⟩;refine⟨"dict",_,PySem.F.plainAttrs_dict,PySem.F.slot_dict_items,PySem.F.type_dict_items,hT,λb e=>by cases e;exact⟨ob,h1,h2.2.1⟩,fB rfl (PySem.evalArgs_none ?_)⟩;refine call_meetsIn PySem.F.slot_dict_items hT PySem.F.entry_dict_items (PySem.F.args_dict_items_1 _) (Lw hd) ⟨⟨es,ep,ob,h1,h2,h3⟩,?_⟩;have hlen:=cv rel;have hsz:es.size=kvs.length:=by rw[<-f6,h4,lm,hlen]
 have I2:Inv X pins σ (upd H1 a (.frz ob (.dT kvs))) s1:=I1.write (x:=a) (e:=a) (h':=s1.heap) (t':=s1.toks) (o:=.frz ob (.dT kvs)) (by rw[hq];exact bK) (.inl rfl) (λb u _ z=>z) ⟨ob,h1⟩ ⟨h1,?_⟩
 ·refine WQ (s:={s1 with heap:=s1.heap.push (MG a)}) (v:=s1.heap.objs.size) (d:=a) (es:=es) (ep:=ep) (Heap.get?_push_size _ rfl) ⟨ob,Heap.get?_push_of_some _ h1,h2,h3⟩ ?_;have n1:(s1.heap.push (MG a)).objs.size=s1.heap.objs.size+1:=Heap.size_push ..;have hle:s1.heap.objs.size<=(s1.heap.push (MG a)).objs.size:=by rw[n1];exact Nat.le_succ _
  refine⟨(s1.heap.push (MG a)).objs.size,[(s1.heap.push (MG a)).objs.size],_,_,_,rfl,I2.kept (t':=s1.toks) λb o e=>Heap.get?_push_of_some _ (Heap.get?_push_of_some _ e),RE h3 hsz,⟨_,_,Heap.get?_push_size _ rfl⟩,λb hb=>?_,q ob⟩;have e:b=(s1.heap.push (MG a)).objs.size:=by simpa using hb
  subst e;exact I2.fpOk hle (I2.hok.fresh hle)
 ·have h0:ZP X.prog X.w H1 s1.heap a (.dT kvs):=I1.hok a _ hq;exact h0.stay (λ_ _ _ z=>z) (λc z=>by rw[Zh (ne_of z hq (λq=>nomatch q))];exact z) λc xs z=>by rw[Zh (ne_of z hq (λq=>nomatch q))];exact z
end
end L2
namespace SX
open PySem L2 PySem.Spec PyProof.Rows TB WD
def Ui(K:aa)(f:Str):Sp:=λvs H Q _=>∃(x C dx:Addr)(fs:List (Str×V))(v:V),vs=[.ref x]/\SCl K C/\H x=some (.ins C dx fs)/\fs.lookup f=some v/\Q v H
section
variable {P:Program}{w:World}{K:aa}{mg:Str->Option Value}{base:Heap}{C:Addr}
theorem QZ:FnScope ["self"] ["self"] (Zb T.m_Step_key):=scO
theorem GU(D:DfM K C "key" "Step.key" T.m_Step_key ["self"]):CanM P w K mg base CX0 1 C "key" ["self"] (Ui K "its_key"):=by refine D.cn QZ λf cdv A outer s H vs Q E hr h=>?_;obtain⟨x,C,dx,fs,v,rfl,Z,hx,hl,k⟩:=h;refine⟨_,(Zi (Zo (ZD (pv 0) rfl))),?_⟩;exact⟨_,rfl,x,C,dx,fs,_,rfl,hx,Z.cl,nof Z (by decide +kernel),hl,k⟩
theorem Qf:FnScope ["self"] ["self"] (Zb T.m_Step_tail):=scO
theorem V7(D:DfM K C "tail" "Step.tail" T.m_Step_tail ["self"]):CanM P w K mg base CX0 1 C "tail" ["self"] (Ui K "its_tail"):=by refine D.cn Qf λf cdv A outer s H vs Q E hr h=>?_;obtain⟨x,C,dx,fs,v,rfl,Z,hx,hl,k⟩:=h;refine⟨_,(Zi (Zo (ZD (pv 0) rfl))),?_⟩;exact⟨_,rfl,x,C,dx,fs,_,rfl,hx,Z.cl,nof Z (by decide +kernel),hl,k⟩
theorem Qh:FnScope ["self"] ["self"] (Zb T.m_Step_head):=scO
theorem V9(D:DfM K C "head" "Step.head" T.m_Step_head ["self"]):CanM P w K mg base CX0 1 C "head" ["self"] (Ui K "its_head"):=by refine D.cn Qh λf cdv A outer s H vs Q E hr h=>?_;obtain⟨x,C,dx,fs,v,rfl,Z,hx,hl,k⟩:=h;refine⟨_,(Zi (Zo (ZD (pv 0) rfl))),?_⟩;exact⟨_,rfl,x,C,dx,fs,_,rfl,hx,Z.cl,nof Z (by decide +kernel),hl,k⟩
theorem Qg:FnScope ["self"] ["self"] (Zb T.m_Step_room):=scO
theorem V8(D:DfM K C "room" "Step.room" T.m_Step_room ["self"]):CanM P w K mg base CX0 1 C "room" ["self"] (Ui K "its_room"):=by refine D.cn Qg λf cdv A outer s H vs Q E hr h=>?_;obtain⟨x,C,dx,fs,v,rfl,Z,hx,hl,k⟩:=h;refine⟨_,(Zi (Zo (ZD (pv 0) rfl))),?_⟩;exact⟨_,rfl,x,C,dx,fs,_,rfl,hx,Z.cl,nof Z (by decide +kernel),hl,k⟩
theorem Pa:FnScope ["self"] ["self"] (Zb T.m_Step_price):=scO
theorem J5(D:DfM K C "price" "Step.price" T.m_Step_price ["self"]):CanM P w K mg base CX0 1 C "price" ["self"] (Ui K "its_price"):=by refine D.cn Pa λf cdv A outer s H vs Q E hr h=>?_;obtain⟨x,C,dx,fs,v,rfl,Z,hx,hl,k⟩:=h;refine⟨_,(Zi (Zo (ZD (pv 0) rfl))),?_⟩;exact⟨_,rfl,x,C,dx,fs,_,rfl,hx,Z.cl,nof Z (by decide +kernel),hl,k⟩
end
theorem Nr{H:Hp}{Cs:Nat->Addr}{x:Addr}{j:Nat}{S:Sx}(h:Jf H Cs x j S):∃dx k vt vh,H x=some (.ins (Cs j) dx (flds (.ref k) vt vh S.room (.int S.price)))/\H k=some (.tup (S.key.map kV))/\Is H vt S.tail/\Is H vh S.head /\(flds (.ref k) vt vh S.room (.int S.price)).lookup ("its_key":Str)=some (.ref k)/\(flds (.ref k) vt vh S.room (.int S.price)).lookup ("its_tail":Str)=some vt/\(flds (.ref k) vt vh S.room (.int S.price)).lookup ("its_head":Str)=some vh:=by obtain⟨dx,k,vt,vh,h1,h2,h3,h4⟩:=h;exact⟨dx,k,vt,vh,h1,h2,h3,h4,rfl,rfl,rfl⟩
def QS:Sp:=λvs H Q _=>∃(b pw l1 l2 l3 l4:Addr)(T:Tb),vs=[.ref pw]/\TbAt b H pw T l1 l2 l3 l4/\OkTb T/\∀H' p,Same H H'->H p=none->Dc H' p (allS T)->Q (.ref p) H'
theorem DM{H H1:Hp}{p a k:Addr}{L:List Sx}{S:Sx}{R:Hp->Prop}(hno:H p=none)(s:Zg p H H1)(dc:Dc H1 p L)(hl:L.length<=20000)(hv:Is H1 (.ref a) (J7 S))(hk:H1 k=some (.tup (S.key.map kV)))(r:∀H2,Zg p H H2->Dc H2 p (L++[S])->R H2):∃d H2,V.ref p=.ref d/\DPut H1 d (.ref k) (.ref a) H2/\R H2:=by obtain⟨kvs,e,l,h1,h2⟩:=dc;refine⟨p,_,rfl,DPut.t e hk (Nat.lt_of_le_of_lt (Nat.le_trans l hl) (by decide)),r _ ?_ (Dc.put e l h1 h2 hv)⟩;intro c o ec hc;rw[Zh hc];exact s c o ec hc
theorem MZ{H H1:Hp}{p a k:Addr}{ks:List V}(hk:H1 k=none){L:List Sx}{S:Sx}(e:ks=S.key.map kV){R:Hp->Prop}(hno:H p=none)(s:Zg p H H1)(dc:Dc H1 p L)(hl:L.length<=20000)(hv:Is H1 (.ref a) (J7 S))(r:∀H2,Zg p H H2->Dc H2 p (L++[S])->R H2):∃d H2,V.ref p=.ref d/\DPut (upd H1 k (.tup ks)) d (.ref k) (.ref a) H2/\R H2:=by subst e;have S1:=sameNew (o:=.tup (S.key.map kV)) (Same.refl H1) hk;exact DM hno (s.trans (Zg.of S1)) (dc.same S1) hl (hv.same S1) Zd r
section
variable {P:Program}{w:World}{K:aa}{mg:Str->Option Value}{base:Heap}{C:Addr}{Cs:Nat->Addr}
theorem Zp:FnScope [q_w,"_law_turns",q_p,"_law_rides","_law_ways","_law_groups","_law_steps_here","_law_name","_law_place","_law_turn","_law_many","_law_at","_law_start","_law_leave","_law_goal","_law_come","_law_seats","_law_long","_law_wide","_law_room"] [q_w] (Zb T.f__law_steps):=scO
theorem SG(B:∀x∈Blts,mg x=none)(D:Df K mg "_law_steps" T.f__law_steps [q_w]):Can P w K mg base 1 "_law_steps" [q_w] QS:=by
 refine D.cn Zp λf cdv A outer s H vs Q E hr h=>?_;obtain⟨b,pw,l1,l2,l3,l4,T,rfl,tb,ok,k⟩:=h;refine' ⟨_,(@Ze _ _ _ _ _ ?h24 (@Ze _ _ _ _ _ ?h25 (@Ze _ _ _ _ _ ?h26 (@Ze _ _ _ _ _ ?h27 (@Ze _ _ _ _ _ ?h28 (@Ze _ _ _ _ _ ?h29 (@Zi _ _ _ ?h30))))))),?rd⟩;case' h30=>refine' (Zo (pv 6))
 case' h29=>refine' (YJ bq rfl (Z3 (pv 2)) (XM rfl (Zl (nmT 8 Zp.nd) (Zl (nmT 19 Zp.nd) ZL))) (@Zi _ _ _ ?h23))
 case' h28=>refine' (YJ bq rfl (Z3 (pv 4)) (XM rfl (Zl (nmT 7 Zp.nd) (Zl (nmT 12 Zp.nd) (Zl (nmT 14 Zp.nd) (Zl (nmT 17 Zp.nd) (Zl (nmT 18 Zp.nd) ZL)))))) (@Zi _ _ _ ?h16))
 case' h27=>refine' (YJ bq rfl (Z3 (pv 3)) (XM rfl (Zl (nmT 7 Zp.nd) (Zl (nmT 12 Zp.nd) (Zl (nmT 13 Zp.nd) (Zl (nmT 14 Zp.nd) (Zl (nmT 15 Zp.nd) (Zl (nmT 16 Zp.nd) ZL))))))) (@Zi _ _ _ ?h10))
 case' h26=>refine' (YJ bq rfl (Z3 (pv 5)) (XM rfl (Zl (nmT 7 Zp.nd) (Zl (nmT 8 Zp.nd) (Zl (nmT 9 Zp.nd) (Zl (nmT 10 Zp.nd) ZL))))) (@Zi _ _ _ ?h5))
 case' h25=>refine' (@st _ _ _ _ 6 _ _ Zp.nd Lf (by rfl) (by exact bw rfl) (by rfl) (by exact .inl rfl))
 case' h24=>refine' (Jt (pv 0) (Ma rfl (Zl (nmT 1 Zp.nd) (Zl (nmT 2 Zp.nd) (Zl (nmT 3 Zp.nd) (Zl (nmT 4 Zp.nd) (Zl (nmT 5 Zp.nd) ZL)))))))
 case' h23=>refine' (@ZO _ _ _ _ _ _ _ _ (@Zw _ _ _ _ _ _ _ _ VX (pv 19) Yc (ZC _)) (@Zi _ _ _ ?h22) Zy)
 case' h22=>refine' (YJ bq rfl (Yn rfl (bm B) (@pa1 _ _ _ (pv 1) (by rfl))) (nmT 11 Zp.nd) (@Zi _ _ _ ?h21))
 case' h21=>refine' (Jn (J9 hr) (pv 6) ?h17 ?h20 rfl)
 case' h20=>refine' (@ZE _ _ _ _ _ (@Za _ _ _ _ _ ?h19 (@pa3 _ _ _ _ _ _ _ ?h18 (pv 19) Zc (by rfl)) (by rfl)))
 case' h19=>refine' (@ZE _ _ _ _ _ (@pa2 _ _ _ _ _ (pv 8) (pv 11) (by rfl)))
 case' h18=>refine' (@ZE _ _ _ _ _ (@pa2 _ _ _ _ _ (pv 8) (Zv ZT (pv 11) Zc) (by rfl)))
 case' h17=>refine' (@ZE _ _ _ _ _ (@pa3 _ _ _ _ _ _ _ Zu (pv 8) (pv 11) (by rfl)))
 case' h16=>refine' (YJ bq rfl (Yn rfl (bm B) (@pa1 _ _ _ (Zv Jv (Zv ZT (pv 1) Zc) (pv 17)) (by rfl))) (nmT 11 Zp.nd) (@Zi _ _ _ ?h15))
 case' h15=>refine' (Jn (J9 hr) (pv 6) ?h11 ?h14 rfl)
 case' h14=>refine' (@ZE _ _ _ _ _ (@Za _ _ _ _ _ ?h13 (@pa3 _ _ _ _ _ _ _ ?h12 (pv 18) (pv 17) (by rfl)) (by rfl)))
 case' h13=>refine' (@ZE _ _ _ _ _ (@pa2 _ _ _ _ _ (pv 12) (pv 11) (by rfl)))
 case' h12=>refine' (@ZE _ _ _ _ _ (@pa2 _ _ _ _ _ (pv 14) (Zv ZT (pv 11) (pv 17)) (by rfl)))
 case' h11=>refine' (@ZE _ _ _ _ _ (@pa3 _ _ _ _ _ _ _ Zu (pv 7) (pv 11) (by rfl)))
 case' h10=>refine' (Jn (J9 hr) (pv 6) ?h6 ?h9 rfl)
 case' h9=>refine' (@ZE _ _ _ _ _ (@Za _ _ _ _ _ ?h8 (@pa3 _ _ _ _ _ _ _ ?h7 (pv 16) (Zv Jv (pv 15) (pv 13)) (by rfl)) (by rfl)))
 case' h8=>refine' (@ZE _ _ _ _ _ (@pa2 _ _ _ _ _ (pv 12) (pv 13) (by rfl)))
 case' h7=>refine' (@ZE _ _ _ _ _ (@pa2 _ _ _ _ _ (pv 14) (pv 15) (by rfl)))
 case' h6=>refine' (@ZE _ _ _ _ _ (@pa2 _ _ _ _ _ Zu (pv 7) (by rfl)))
 case' h5=>refine' (YJ bq rfl (Pt rfl (bm B) (@pa2 _ _ _ _ _ (pv 9) (Zv ZT (pv 1) Zc) (by rfl))) (nmT 11 Zp.nd) (@Zi _ _ _ ?h4))
 case' h4=>refine' (Jn (J9 hr) (pv 6) ?h1 ?h3 rfl)
 case' h3=>refine' (@ZE _ _ _ _ _ (@Za _ _ _ _ _ (pv 7) (@pa3 _ _ _ _ _ _ _ ?h2 Yc Zc (by rfl)) (by rfl)))
 case' h2=>refine' (@ZE _ _ _ _ _ (@pa2 _ _ _ _ _ (pv 8) (pv 11) (by rfl)))
 case' h1=>refine' (@ZE _ _ _ _ _ (@pa3 _ _ _ _ _ _ _ Zu (pv 7) (pv 11) (by rfl)))
 have n0:=ok.n0;have n1:=ok.n1;obtain⟨m1,m2,m3,m4⟩:=NF ok;obtain⟨z1,z2,z3,z4⟩:=VU ok;refine⟨_,rfl,pw,_,rfl,SqL.of tb.at_,rfl,_,_,rfl,_,_,rfl,_,_,rfl,_,_,rfl,_,_,rfl,rfl,λp hp=>?_⟩;have D0:Dc (upd H p (.dT [])) p []:=⟨[],Zd,Nat.le_refl _,⟨[],.nil,rfl⟩,trivial⟩;have S0:Zg p H (upd H p (.dT [])):=λc o e hc=>by rw[Zh hc];exact e
 generalize upd H p (.dT [])=H0 at D0 S0 ⊢;have nw:∀{c:Addr}{o:HO},H c=some o->c≠p:=λe=>Zk e hp;have rw4:∀{H':Hp},Zg p H H'->RowsAt b H' l4 T.t4:=λs=>tb.gr.keepB hp s;have rw3:∀{H':Hp},Zg p H H'->RowsAt b H' l3 T.t3:=λs=>tb.wy.keepB hp s;have rw2:∀{H':Hp},Zg p H H'->RowsAt b H' l2 T.t2:=λs=>tb.rd.keepB hp s;have rw1:∀{H':Hp},Zg p H H'->RowsAt b H' l1 T.t1:=λs=>tb.pl.keepB hp s;have DD:∀{H':Hp}{L:List Sx},Dc H' p L->Dc H' p (L++[]):=λh=>by rw[aT];exact h
 dsimp only[XQ];refine tq λD1 hk1=>?_;refine⟨_,rfl,l4,rfl,⟨_,SqL.of (rw4 S0).2.choose_spec.1⟩,?_⟩;refine Xz (J:=Itl K l4) T.t4.length (λi σ H'=>Zg p H H'/\Dc H' p ((T.t4.take i).flatMap (ZX T))/\∃o:Nat->Option V,σ=[some (.ref pw),some (.int T.n),some (.ref l1),some (.ref l2),some (.ref l3),some (.ref l4),some (.ref p),o 7,o 8,o 9,o 10,o 11,o 12,o 13,o 14,o 15,o 16,o 17,o 18,o 19]) ⟨S0,D0,shp rfl⟩ (λi σ H' hi q=>(rw4 q.1).go hi) (λσ H' q=>(rw4 q.1).stop) (λi σ H' x H2 hi q yl=>?_) (λσ H1 q=>?_)
 ·obtain⟨s1,dc,o,rfl⟩:=q;have e0:T.t4[i]?=some T.t4[i]:=gE hi;obtain⟨rfl,a,rfl,na,ha⟩:=(rw4 s1).item e0 yl;have hy:T.t4[i]∈T.t4:=aG hi;have le1:=JF (f:=ZX T) (t:=T.t4) i;have le2:=NH ok hy;rw[XH hi];generalize T.t4[i]=y at ha hy le2;obtain⟨a1,b1,c1,d1,rfl,ga,gb,c0,c2,_,_⟩:=MY ok hy;refine⟨a,_,rfl,SqT.of ha,rfl,_,_,rfl,_,_,rfl,_,_,rfl,_,_,rfl,rfl,?_⟩;try dsimp only[List.set]
  refine td λD'' hd'=>?_;refine⟨_,rfl,_,rfl,_,_,rfl,rfl,c1,T.n+1,rfl,⟨by omega,by omega,by omega,by omega⟩,?_⟩;refine V4 (lo:=c1) (n:=(T.n+1-c1).toNat) (λm σ' H'=>Zg p H H'/\Dc H' p ((T.t4.take i).flatMap (ZX T)++(ZX T [.str a1,.str b1,.int c1,.int d1]).take m)/\∃o:Nat->Option V,σ'=[some (.ref pw),some (.int T.n),some (.ref l1),some (.ref l2),some (.ref l3),some (.ref l4),some (.ref p),some (.str a1),some (.str b1),some (.int c1),some (.int d1),o 11,o 12,o 13,o 14,o 15,o 16,o 17,o 18,o 19]) ⟨s1,DD dc,shp rfl⟩ (λm σ' H' hm q=>?_) (λσ' H' q=>?_)
  ·obtain⟨s2,dc2,o,rfl⟩:=q;dsimp only[XQ];refine td λD' hd=>?_;refine⟨_,rfl,_,rfl,_,rfl,zl,λq1 h1=>?_⟩;try dsimp only[tNil]
   refine nl2 h1 λH3 S3 e3=>?_;refine⟨zl,λq2 h2=>?_⟩;try dsimp only[tNil]
   refine nl2 h2 λH4 S4 e4=>?_;refine⟨_,rfl,_,rfl,_,rfl,zl,λq3 h3=>?_⟩;try dsimp only[tNil]
   have S35:=S3.trans S4;refine MZ h3 rfl (S:=outS [.str a1,.str b1,.int c1,.int d1] (c1+m)) hp (s2.trans (Zg.of S35)) (dc2.same S35) ?_ (.tup e4 (.cons (.str _) (.cons (.tup (S4 _ _ e3) (.cons (.str _) (.cons (.int _) .nil))) (.cons .non (.cons (.int _) .nil))))) λH6 s6 dc6=>hd _ _ ⟨s6,?_,shp rfl⟩
   ·rw[ay,aw];omega
   ·rw[show ZX T [.str a1,.str b1,.int c1,.int d1]=(aY (T.n+1-c1).toNat).map λ(m:Nat)=>outS [.str a1,.str b1,.int c1,.int d1] (c1+m)from rfl]at dc6 ⊢;rw[Xi hm,<-bG];exact dc6
  ·obtain⟨s2,dc2,o,rfl⟩:=q;refine hd' _ _ ⟨s2,?_,shp rfl⟩;rw[show(ZX T [.str a1,.str b1,.int c1,.int d1]).take (T.n+1-c1).toNat=ZX T [.str a1,.str b1,.int c1,.int d1]from aO (by unfold ZX;rw[lm,bS];exact Nat.le_refl _)]at dc2;exact dc2
 obtain⟨s1,dc1,o,rfl⟩:=q;rw[aF]at dc1;refine hk1 _ _ ?_;refine tq λD2 hk2=>?_;refine⟨_,rfl,l2,rfl,⟨_,SqL.of (rw2 s1).2.choose_spec.1⟩,?_⟩;refine Xz (J:=Itl K l2) T.t2.length (λi σ H'=>Zg p H H'/\Dc H' p (T.t4.flatMap (ZX T)++(T.t2.take i).map XJ)/\∃o:Nat->Option V,σ=[some (.ref pw),some (.int T.n),some (.ref l1),some (.ref l2),some (.ref l3),some (.ref l4),some (.ref p),o 7,o 8,o 9,o 10,o 11,o 12,o 13,o 14,o 15,o 16,o 17,o 18,o 19]) ⟨s1,DD dc1,shp rfl⟩ (λi σ H' hi q=>(rw2 q.1).go hi) (λσ H' q=>(rw2 q.1).stop) (λi σ H' x H2 hi q yl=>?_) (λσ H1 q=>?_)
 ·obtain⟨s2,dc,o,rfl⟩:=q;have e0:T.t2[i]?=some T.t2[i]:=gE hi;obtain⟨rfl,a,rfl,na,ha⟩:=(rw2 s2).item e0 yl;have hy:T.t2[i]∈T.t2:=aG hi;have le1:((T.t2.take i).map XJ).length<=80:=by rw[lm,aw];omega
  rw[map_take hi];generalize T.t2[i]=y at ha hy;obtain⟨a1,b1,d1,c1,e1,f1,rfl,_⟩:=RX ok hy;refine⟨a,_,rfl,SqT.of ha,rfl,_,_,rfl,_,_,rfl,_,_,rfl,_,_,rfl,_,_,rfl,_,_,rfl,rfl,?_⟩;try dsimp only[List.set]
  refine td λD'' hd'=>?_;refine⟨_,rfl,_,rfl,zl,λq1 h1=>?_⟩;try dsimp only[tNil]
  refine nl2 h1 λH3 S3 e3=>?_;refine⟨_,rfl,_,rfl,zl,λq2 h2=>?_⟩;try dsimp only[tNil]
  refine nl2 h2 λH4 S4 e4=>?_;refine⟨_,rfl,_,rfl,_,rfl,_,_,rfl,rfl,zl,λq3 h3=>?_⟩;try dsimp only[tNil]
  refine nl2 h3 λH5 S5 e5=>?_;refine⟨_,rfl,_,rfl,zl,λq4 h4=>?_⟩;try dsimp only[tNil]
  have S36:=(S3.trans S4).trans S5;refine MZ h4 rfl (S:=XJ [.str a1,.str b1,.int c1,.str d1,.int e1,.int f1]) hp (s2.trans (Zg.of S36)) (dc.same S36) (by rw[ay];omega) (.tup e5 (.cons (.tup (S5 _ _ (S4 _ _ e3)) (.cons (.str _) (.cons (.int _) .nil))) (.cons (.tup (S5 _ _ e4) (.cons (.str _) (.cons (.int _) .nil))) (.cons (.int _) (.cons (.int _) .nil))))) λH7 s7 dc7=>hd' _ _ ⟨s7,?_,shp rfl⟩;rw[<-bG];exact dc7
 obtain⟨s2,dc2,o,rfl⟩:=q;rw[aF]at dc2;refine hk2 _ _ ?_;refine tq λD3 hk3=>?_;refine⟨_,rfl,l3,rfl,⟨_,SqL.of (rw3 s2).2.choose_spec.1⟩,?_⟩;refine Xz (J:=Itl K l3) T.t3.length (λi σ H'=>Zg p H H'/\Dc H' p ((T.t4.flatMap (ZX T)++T.t2.map XJ)++(T.t3.take i).flatMap (ZK T))/\∃o:Nat->Option V,σ=[some (.ref pw),some (.int T.n),some (.ref l1),some (.ref l2),some (.ref l3),some (.ref l4),some (.ref p),o 7,o 8,o 9,o 10,o 11,o 12,o 13,o 14,o 15,o 16,o 17,o 18,o 19]) ⟨s2,DD dc2,shp rfl⟩ (λi σ H' hi q=>(rw3 q.1).go hi) (λσ H' q=>(rw3 q.1).stop) (λi σ H' x H2 hi q yl=>?_) (λσ H1 q=>?_)
 ·obtain⟨s3,dc,o,rfl⟩:=q;have e0:T.t3[i]?=some T.t3[i]:=gE hi;obtain⟨rfl,a,rfl,na,ha⟩:=(rw3 s3).item e0 yl;have hy:T.t3[i]∈T.t3:=aG hi;have le1:=JF (f:=ZK T) (t:=T.t3) i;have le2:=GY ok hy;rw[XH hi];generalize T.t3[i]=y at ha hy le2;obtain⟨a1,b1,c1,d1,e1,rfl,_,_,_,c0,c2,_⟩:=Tz ok hy;refine⟨a,_,rfl,SqT.of ha,rfl,_,_,rfl,_,_,rfl,_,_,rfl,_,_,rfl,_,_,rfl,rfl,?_⟩;try dsimp only[List.set]
  refine td λD'' hd'=>?_;refine⟨_,rfl,_,_,rfl,rfl,_,rfl,_,_,rfl,rfl,T.n+1-d1,rfl,by omega,by omega,?_⟩;refine V4 (lo:=0) (n:=(T.n+1-d1).toNat) (λm σ' H'=>Zg p H H'/\Dc H' p (((T.t4.flatMap (ZX T)++T.t2.map XJ)++(T.t3.take i).flatMap (ZK T))++(ZK T [.str a1,.str b1,.str c1,.int d1,.int e1]).take m)/\∃o:Nat->Option V,σ'=[some (.ref pw),some (.int T.n),some (.ref l1),some (.ref l2),some (.ref l3),some (.ref l4),some (.ref p),some (.str a1),o 8,o 9,o 10,o 11,some (.str b1),o 13,some (.str c1),o 15,o 16,some (.int d1),some (.int e1),o 19]) ⟨s3,DD dc,shp rfl⟩ (λm σ' H' hm q=>?_) (λσ' H' q=>?_)
  ·obtain⟨s4,dc4,o,rfl⟩:=q;dsimp only[XQ];refine td λD' hd=>?_;refine⟨_,rfl,_,rfl,zl,λq1 h1=>?_⟩;try dsimp only[tNil]
   refine nl2 h1 λH3 S3 e3=>?_;refine⟨_,rfl,_,rfl,_,rfl,_,_,rfl,rfl,zl,λq2 h2=>?_⟩;try dsimp only[tNil]
   refine nl2 h2 λH4 S4 e4=>?_;refine⟨_,rfl,_,rfl,zl,λq3 h3=>?_⟩;try dsimp only[tNil]
   refine nl2 h3 λH5 S5 e5=>?_;refine⟨_,rfl,_,rfl,_,rfl,zl,λq4 h4=>?_⟩;try dsimp only[tNil]
   have S36:=(S3.trans S4).trans S5;refine MZ h4 rfl (S:=UK [.str a1,.str b1,.str c1,.int d1,.int e1] (0+m)) hp (s4.trans (Zg.of S36)) (dc4.same S36) ?_ (.tup e5 (.cons (.tup (S5 _ _ (S4 _ _ e3)) (.cons (.str _) (.cons (.int _) .nil))) (.cons (.tup (S5 _ _ e4) (.cons (.str _) (.cons (.int _) .nil))) (.cons (.int _) (.cons (.int _) .nil))))) λH7 s7 dc7=>hd _ _ ⟨s7,?_,shp rfl⟩
   ·simp only[ay,aw];omega
   ·rw[show ZK T [.str a1,.str b1,.str c1,.int d1,.int e1]=(aY (T.n+1-d1).toNat).map λ(m:Nat)=>UK [.str a1,.str b1,.str c1,.int d1,.int e1] (0+m)from rfl]at dc7 ⊢;rw[Xi hm,<-bG];exact dc7
  ·obtain⟨s4,dc4,o,rfl⟩:=q;refine hd' _ _ ⟨s4,?_,shp rfl⟩;rw[show(ZK T [.str a1,.str b1,.str c1,.int d1,.int e1]).take (T.n+1-d1).toNat=ZK T [.str a1,.str b1,.str c1,.int d1,.int e1]from aO (by unfold ZK;rw[lm,bS];exact Nat.le_refl _)]at dc4;rw[<-bG];exact dc4
 obtain⟨s3,dc3,o,rfl⟩:=q;rw[aF]at dc3;refine hk3 _ _ ?_;refine tq λD4 hk4=>?_;refine⟨_,rfl,l1,rfl,⟨_,SqL.of (rw1 s3).2.choose_spec.1⟩,?_⟩;refine Xz (J:=Itl K l1) T.t1.length (λi σ H'=>Zg p H H'/\Dc H' p ((T.t4.flatMap (ZX T)++T.t2.map XJ++T.t3.flatMap (ZK T))++(T.t1.take i).flatMap (ZJ T))/\∃o:Nat->Option V,σ=[some (.ref pw),some (.int T.n),some (.ref l1),some (.ref l2),some (.ref l3),some (.ref l4),some (.ref p),o 7,o 8,o 9,o 10,o 11,o 12,o 13,o 14,o 15,o 16,o 17,o 18,o 19]) ⟨s3,DD dc3,shp rfl⟩ (λi σ H' hi q=>(rw1 q.1).go hi) (λσ H' q=>(rw1 q.1).stop) (λi σ H' x H2 hi q yl=>?_) (λσ H1 q=>?_)
 ·obtain⟨s4,dc,o,rfl⟩:=q;have e0:T.t1[i]?=some T.t1[i]:=gE hi;obtain⟨rfl,a,rfl,na,ha⟩:=(rw1 s4).item e0 yl;have hy:T.t1[i]∈T.t1:=aG hi;have le1:=JF (f:=ZJ T) (t:=T.t1) i;have le2:=GZ ok (y:=T.t1[i]);rw[XH hi];generalize T.t1[i]=y at ha hy le2;obtain⟨⟨z1,rr⟩,rfl,_,_⟩:=UR ok hy;refine⟨a,_,rfl,SqT.of ha,rfl,_,_,rfl,_,_,rfl,rfl,?_⟩;try dsimp only[List.set]
  refine td λD'' hd'=>?_;cases rr with
 |none=>refine⟨_,rfl,rfl,_,rfl,?_⟩;refine iteF ?_;refine hd' _ _ ⟨s4,?_,shp rfl⟩;rw[show ZJ T (plRow (z1,none))=[]from if_pos rfl,aT];exact dc
 |some r1=>
   refine⟨_,rfl,rfl,_,rfl,?_⟩;refine iteT ?_;have ew:ZJ T (plRow (z1,some r1))=(aY T.n.toNat).map λ(m:Nat)=>Uh (plRow (z1,some r1)) (0+m):=if_neg (λz=>by cases z);refine⟨_,rfl,T.n,rfl,by omega,by omega,?_⟩;refine V4 (lo:=0) (n:=T.n.toNat) (λm σ' H'=>Zg p H H'/\Dc H' p (((T.t4.flatMap (ZX T)++T.t2.map XJ++T.t3.flatMap (ZK T))++(T.t1.take i).flatMap (ZJ T))++(ZJ T (plRow (z1,some r1))).take m)/\∃o:Nat->Option V,σ'=[some (.ref pw),some (.int T.n),some (.ref l1),some (.ref l2),some (.ref l3),some (.ref l4),some (.ref p),o 7,some (.str z1),o 9,o 10,o 11,o 12,o 13,o 14,o 15,o 16,o 17,o 18,some (.int r1)]) ⟨s4,DD dc,shp rfl⟩ (λm σ' H' hm q=>?_) (λσ' H' q=>?_)
   ·obtain⟨s5,dc5,o,rfl⟩:=q;dsimp only[XQ];refine td λD' hd=>?_;refine⟨_,rfl,_,rfl,zl,λq1 h1=>?_⟩;try dsimp only[tNil]
    refine nl2 h1 λH3 S3 e3=>?_;refine⟨_,rfl,_,rfl,_,_,rfl,rfl,zl,λq2 h2=>?_⟩;try dsimp only[tNil]
    refine nl2 h2 λH4 S4 e4=>?_;refine⟨_,rfl,zl,λq3 h3=>?_⟩;try dsimp only[tNil]
    refine nl2 h3 λH5 S5 e5=>?_;refine⟨_,rfl,_,rfl,_,rfl,zl,λq4 h4=>?_⟩;try dsimp only[tNil]
    have S36:=(S3.trans S4).trans S5;refine MZ h4 rfl (S:=Uh (plRow (z1,some r1)) (0+m)) hp (s5.trans (Zg.of S36)) (dc5.same S36) ?_ (.tup e5 (.cons (.tup (S5 _ _ (S4 _ _ e3)) (.cons (.str _) (.cons (.int _) .nil))) (.cons (.tup (S5 _ _ e4) (.cons (.str _) (.cons (.int _) .nil))) (.cons (.int _) (.cons (.int _) .nil))))) λH7 s7 dc7=>hd _ _ ⟨s7,?_,shp rfl⟩
    ·simp only[ay,aw];omega
    ·rw[ew]at dc7 ⊢;rw[Xi hm,<-bG];exact dc7
   ·obtain⟨s5,dc5,o,rfl⟩:=q;refine hd' _ _ ⟨s5,?_,shp rfl⟩;rw[show(ZJ T (plRow (z1,some r1))).take T.n.toNat=ZJ T (plRow (z1,some r1))from aO (by rw[ew,lm,bS];exact Nat.le_refl _)]at dc5;rw[<-bG];exact dc5
 obtain⟨s4,dc4,o,rfl⟩:=q;rw[aF]at dc4;exact hk4 _ _ ⟨_,rfl,k H1 p (λc o e=>s4 c o e (nw e)) hp dc4⟩
end
def KNe(S S':Sx):Prop:=S.key≠S'.key
theorem RY{f:Nat->Sx}{n:Nat}(h:∀a b:Nat,a<b->KNe (f a) (f b)):((aY n).map f).Pairwise KNe:=gK.mpr (List.Pairwise.imp (h _ _) List.pairwise_lt_range)
theorem TC{T:Tb}(o:OkTb T){j:Nat}(hj:isJ j){R:List V->List V->Prop}(h:∀a b,nameOf a≠nameOf b->R a b):(T.part j).Pairwise R:=List.Pairwise.imp (h _ _) (gK.mp (HD o hj))
theorem key2{a b:Str}{x y:Key}{l m:List Key}(h:a≠b\/x≠y):((.inr a:Key)::x::l)≠.inr b::y::m:=by
 intro e;injection e with e1 e2;injection e2 with e2 e3;injection e1 with e1;rcases h with h|h
 ·exact h e1
 ·exact h e2
theorem nmI{a b:Str}(h:a≠b):(.inr a:Key)≠.inr b:=λe=>by injection e with e;exact h e
theorem key3{a b:Str}{x y:Key}{i j:Int}(h:i≠j):([.inr a,x,.inl i]:List Key)≠[.inr b,y,.inl j]:=by intro e;injection e with e1 e2;injection e2 with e2 e3;injection e3 with e3 e4;injection e3 with e3;exact h e3
theorem UW{T:Tb}{y:List V}{S:Sx}(h:S∈ZX T y):∃i,S=outS y i:=by obtain⟨m,_,rfl⟩:=aq.mp h;exact⟨_,rfl⟩
theorem UJ{T:Tb}{y:List V}{S:Sx}(h:S∈ZK T y):∃i,S=UK y i:=by obtain⟨m,_,rfl⟩:=aq.mp h;exact⟨_,rfl⟩
theorem Nj{T:Tb}{y:List V}{S:Sx}(h:S∈ZJ T y):∃i,S=Uh y i:=by
 unfold ZJ at h;split at h
 ·cases h
 obtain⟨m,_,rfl⟩:=aq.mp h;exact⟨_,rfl⟩
theorem FZ{T:Tb}(o:OkTb T):(allS T).Pairwise KNe:=by
 obtain⟨w1,w2,w3,w4,w5,w6⟩:=Kt;unfold allS;rw[fV,fV,fV];refine⟨⟨⟨?_,?_,?_⟩,?_,?_⟩,?_,?_⟩
 ·refine fO.mpr ⟨λy hy=>RY λa b h=>key3 (by omega),TC o (j:=4) (.inr (.inr (.inr rfl))) λa b h x hx y hy=>?_⟩;obtain⟨i,rfl⟩:=UW hx;obtain⟨i',rfl⟩:=UW hy;exact key2 (.inr (nmI h))
 ·exact gK.mpr (TC o (j:=2) (.inr (.inl rfl)) λa b h=>key2 (.inr (nmI h)))
 ·intro x hx z hz;obtain⟨y,hy,hx⟩:=cY.mp hx;obtain⟨y',hy',rfl⟩:=aq.mp hz;obtain⟨i,rfl⟩:=UW hx;exact key2 (.inl w4)
 ·refine fO.mpr ⟨λy hy=>RY λa b h=>key3 (by omega),TC o (j:=3) (.inr (.inr (.inl rfl))) λa b h x hx y hy=>?_⟩;obtain⟨i,rfl⟩:=UJ hx;obtain⟨i',rfl⟩:=UJ hy;exact key2 (.inr (nmI h))
 ·intro x hx z hz;obtain⟨y',hy',hz⟩:=cY.mp hz;obtain⟨i',rfl⟩:=UJ hz;rcases aP.mp hx with hx|hx
  ·obtain⟨y,hy,hx⟩:=cY.mp hx;obtain⟨i,rfl⟩:=UW hx;exact key2 (.inl w1)
  ·obtain⟨y,hy,rfl⟩:=aq.mp hx;exact key2 (.inl w5.symm)
 ·refine fO.mpr ⟨λy hy=>?_,TC o (j:=1) (.inl rfl) λa b h x hx y hy=>?_⟩
  ·unfold ZJ;split
   ·exact .nil
   ·exact RY λa b h=>key3 (by omega)
  ·obtain⟨i,rfl⟩:=Nj hx;obtain⟨i',rfl⟩:=Nj hy;exact key2 (.inr (nmI h))
 ·intro x hx z hz;obtain⟨y',hy',hz⟩:=cY.mp hz;obtain⟨i',rfl⟩:=Nj hz;rcases aP.mp hx with hx|hx
  ·rcases aP.mp hx with hx|hx
   ·obtain⟨y,hy,hx⟩:=cY.mp hx;obtain⟨i,rfl⟩:=UW hx;exact key2 (.inl w2)
   ·obtain⟨y,hy,rfl⟩:=aq.mp hx;exact key2 (.inl w6.symm)
  ·obtain⟨y,hy,hx⟩:=cY.mp hx;obtain⟨i,rfl⟩:=UJ hx;exact key2 (.inl w3)
theorem Q4:∀(l:List (Sx×V))(acc:List (List Key×V)),l.Pairwise (λp q=>KNe p.1 q.1)->(∀p∈l,∀q∈acc,q.1≠p.1.key)->puts l acc=acc++l.map λp=>(p.1.key,p.2)
|[],acc,_,_=>by simp[puts]
|p::l,acc,h,n=>by
  have e:putK acc p.1.key p.2=acc++[(p.1.key,p.2)]:=by unfold putK;rw[if_neg];intro z;obtain⟨q,hq,z⟩:=List.any_eq_true.mp z;exact n p (by simp) q hq (of_decide_eq_true z)
  show puts l (putK acc p.1.key p.2)=_;cases h with
 |cons h1 h2=>
  rw[e,Q4 l _ h2 λq hq r hr=>?_,bG]
  ·rfl
  ·rcases aP.mp hr with hr|hr
   ·exact n q (by simp[hq]) r hr
   ·rw[aQ]at hr;subst hr;exact h1 q hq
theorem Kn{H:Hp}:∀{vs:List V}{L:List Sx},cU (λv S=>Is H v (J7 S)) vs L->L.Pairwise KNe->(L.zip vs).Pairwise λp q=>KNe p.1 q.1
|_,_,.nil,_=>.nil
|_,_,.cons _ t,h=>by
  cases h with
 |cons h1 h2=>exact .cons (λq hq=>h1 q.1 (dC hq).1) (Kn t h2)
theorem Ko{H:Hp}:∀{vs:List V}{L:List Sx},cU (λv S=>Is H v (J7 S)) vs L->cU (λ(kv:List Key×V)(S:Sx)=>kv.1=S.key/\Is H kv.2 (J7 S)) ((L.zip vs).map λp=>(p.1.key,p.2)) L
|_,_,.nil=>.nil
|_,_,.cons r t=>.cons ⟨rfl,r⟩ (Ko t)
theorem Dc.ord{H:Hp}{p:Addr}{L:List Sx}(d:Dc H p L)(h:L.Pairwise KNe):∃kvs,H p=some (.dT kvs)/\cU (λ(kv:List Key×V)(S:Sx)=>kv.1=S.key/\Is H kv.2 (J7 S)) kvs L:=by obtain⟨kvs,e,_,⟨vs,r,ek⟩,_⟩:=d;refine⟨_,e,?_⟩;rw[ek,Q4 _ [] (Kn r h) (λ_ _ q hq=>nomatch hq),List.nil_append];exact Ko r
end SX
namespace L2
open PySem PySem.Spec PyProof.Rows
theorem JR{X:Cx}:Jh X (.builtin "isinstance") (λxs H Q=>∃x C t b,xs=[x,.ref C]/\TyOf X.K H x t/\ak X.K t (.ref C)=some b/\Q (.bl b) H):=by intro pins s σ H xs us Q I r h;obtain⟨x,c,t,b,rfl,ty,e,q⟩:=h;obtain⟨u,w',rfl,ru,rw'⟩:=vals2 r;cases rw';exact PB I ru ty e λtk=>⟨.bl b,H,I.tok tk,rfl,q⟩
theorem Q7{X:Cx}{e:Expr}{T:Nat->TE}(h:∀j,j<4->PE X e (T j)):PE X e (λσ H Q=>∃j,j<4/\T j σ H Q):=λpins s σ H Q I⟨j,hj,q⟩=>h j hj pins s σ H Q I q
end L2
namespace SX
open PySem L2 PySem.Spec PyProof.Rows TB WD
theorem LM:GS "out"/\GS "ride"/\GS "walk"/\GS "wait"/\GS "step":=by decide +kernel
theorem YE{i:Int}(h0:-1000<=i)(h1:i<=1000):Atm (.int i):=.int (by omega)
structure Small(S:Sx):Prop where
 key:RowG (S.key.map kV)
 tail:Sm S.tail 1 100
 head:Sm S.head 1 100
 room:Sm (dF S.room) 0 12
 price:Sm (.int S.price) 0 12
theorem Ur{a b:V}(ha:Atm a)(hb:Atm b):Sm (.tuple [dF a,dF b]) 1 100:=by
 refine(SmAll.tup (ds:=[dF a,dF b]) (n:=2) (SmAll.of (k:=0) (m:=12) λd hd=>?_) (Nat.le_refl 2)).mono (by decide) (by decide);simp only[aA,aJ,or_false]at hd;rcases hd with rfl|rfl
 ·exact ha.sm
 ·exact hb.sm
theorem LD{ks:List Key}(hl:ks.length<=6)(h:∀k∈ks,Atm (kV k)):RowG (ks.map kV):=⟨by rw[lm];exact hl,λy hy=>by obtain⟨k,hk,rfl⟩:=aq.mp hy;exact h k hk⟩
theorem G3{a b:Str}{i:Int}(ha:GS a)(hb:GS b)(hi:Atm (.int i)):RowG ([cq a,.inr b,.inl i].map kV):=LD (Nat.le_of_ble_eq_true rfl) λk hk=>by
 simp only[aA,aJ,or_false]at hk;rcases hk with rfl|rfl|rfl
 ·exact .str ha
 ·exact .str hb
 ·exact hi
theorem Xn.small{T:Tb}(o:OkTb T){vs:List V}{j:Nat}{S:Sx}(h:Xn T vs j S):Small S:=by
 obtain⟨g1,g2,g3,g4,_⟩:=LM;have n0:=o.n0;have n1:=o.n1;rcases h with⟨y,hy,i,e,h1,h2,_,rfl⟩|⟨y,hy,e,_,rfl⟩|⟨y,hy,i,e,h1,h2,_,rfl⟩|⟨y,hy,i,e,h0,h1,h2,_,rfl⟩
 ·obtain⟨a,b,c,d,rfl,ga,gb,c0,c1,_⟩:=MY o hy;have hi:Atm (.int i):=YE (by have:c<=i:=h1;omega) (by omega);exact⟨G3 g1 ga hi,(Atm.str ga).sm.mono (by decide) (by decide),Ur (.str gb) hi,Atm.non.sm,(YE (i:=0) (by decide) (by decide)).sm⟩
 ·obtain⟨a,b,d,c,e',f,rfl,ga,gb,gd,c0,c1,c2,f0,f1⟩:=RX o hy;refine⟨LD (Nat.le_of_ble_eq_true rfl) λk hk=>?_,Ur (.str gb) (YE (i:=c) (by omega) (by omega)),Ur (.str gd) (YE (i:=e') (by omega) (by omega)),(YE (i:=f) (by omega) (by omega)).sm,(YE (i:=e'-c) (by omega) (by omega)).sm⟩;have hk:k∈[(cq "ride":Key),.inr a]:=hk;simp only[aA,aJ,or_false]at hk;rcases hk with rfl|rfl
  ·exact .str g2
  ·exact .str ga
 ·obtain⟨a,b,c,d,e',rfl,ga,gb,gc,d0,d1,e0,e1⟩:=Tz o hy;have h2':i<=T.n-d:=h2;have hi:Atm (.int i):=YE (by omega) (by omega);exact⟨G3 g3 ga hi,Ur (.str gb) hi,Ur (.str gc) (YE (i:=i+d) (by omega) (by omega)),(YE (i:=e') (by omega) (by omega)).sm,(YE (i:=d) (by omega) (by omega)).sm⟩
 ·obtain⟨⟨z,r⟩,rfl,gz,hr⟩:=UR o hy;have hi:Atm (.int i):=YE (by omega) (by omega);refine⟨G3 g4 gz hi,Ur (.str gz) hi,Ur (.str gz) (YE (i:=i+1) (by omega) (by omega)),?_,(YE (i:=1) (by decide) (by decide)).sm⟩;cases r with
 |none=>exact Atm.non.sm
 |some r=>have:=hr r rfl;exact(YE (i:=r) (by omega) (by omega)).sm
structure STy(K:aa)(mg:Str->Option Value)(Cs:Nat->Addr)(Cb:Addr):Prop where
 ty:∀j,j<4->∀(H:Hp)(a dx:Addr)(fs:List (Str×V)),H a=some (.ins (Cs j) dx fs)->TyOf K H (.ref a) (.ref (Cs j))
 kk:∀i j,i<4->j<4->ak K (.ref (Cs j)) (.ref (Cs i))=some (decide (j=i))
 kb:∀j,j<4->ak K (.ref (Cs j)) (.ref Cb)=some true
 m0:mg "SetOut"=some (.ref (Cs 0))
 m1:mg "Ride"=some (.ref (Cs 1))
 m2:mg "Walk"=some (.ref (Cs 2))
 m3:mg "Wait"=some (.ref (Cs 3))
 m4:mg "Step"=some (.ref Cb)
noncomputable def wd:List Str:=["out","ride","walk","wait"]
theorem Ta{T:Tb}{xs:List V}{j:Nat}{S:Sx}(h:Xn T xs j S):atI xs 0=some (.str (wd.getD j "")):=by rcases h with⟨y,_,i,rfl,_,_,rfl,_⟩|⟨y,_,rfl,rfl,_⟩|⟨y,_,i,rfl,_,_,rfl,_⟩|⟨y,_,i,rfl,_,_,_,rfl,_⟩<;>exact Zr (j:=0) rfl
theorem Ed{H:Hp}{T:Tb}(o:OkTb T){xs:List V}{j:Nat}{S:Sx}(h:Xn T xs j S):Is H S.room (dF S.room):=by
 rcases h with⟨y,hy,i,_,_,_,_,rfl⟩|⟨y,hy,_,_,rfl⟩|⟨y,hy,i,_,_,_,_,rfl⟩|⟨y,hy,i,_,_,_,_,_,rfl⟩
 ·exact .non
 ·exact .int _
 ·exact .int _
 ·obtain⟨⟨z,r⟩,rfl,_⟩:=UR o hy;cases r with
 |none=>exact .non
 |some r=>exact .int _
noncomputable def MR(S:Sx):PyData:=.tuple [rowD (S.key.map kV),S.tail,S.head,dF S.room,.int S.price]
noncomputable def Qw(L:List Sx):PyData:=.list (L.map MR)
theorem Small.full{S:Sx}(h:Small S):Sm (MR S) 2 505:=by
 refine(SmAll.tup (ds:=[rowD (S.key.map kV),S.tail,S.head,dF S.room,.int S.price]) (n:=5) (SmAll.of (k:=1) (m:=100) λd hd=>?_) (Nat.le_refl 5));simp only[aA,aJ,or_false]at hd;rcases hd with rfl|rfl|rfl|rfl|rfl
 ·exact(K5 h.key).mono (Nat.le_refl _) (by decide)
 ·exact h.tail
 ·exact h.head
 ·exact h.room.mono (by decide) (by decide)
 ·exact h.price.mono (by decide) (by decide)
theorem Dx{ds:List PyData}{k m n:Nat}(h:SmAll ds k m)(hl:ds.length<=n):Sm (.list ds) (k+1) (n*(m+1)):=by
 refine⟨?_,?_,?_,?_⟩
 ·simp only[PyData.showable,h.sh]
 ·simp only[PyData.leavesShort,h.lv]
 ·simp only[PyData.depth];have:=h.dp;omega
 ·simp only[PyData.weight];exact Nat.le_trans h.wt (Nat.mul_le_mul_right _ hl)
theorem WV{T:Tb}(o:OkTb T)(hl:(allS T).length<=1700):Shw (Qw (allS T)):=by
 have s:=Dx (n:=1700) (SmAll.of (ds:=(allS T).map MR) (k:=2) (m:=505) λd hd=>by obtain⟨S,hS,rfl⟩:=aq.mp hd;obtain⟨j,is⟩:=JS o hS;exact(is.small o).full) (by rw[lm];exact hl);refine⟨s.sh,Nat.le_trans s.dp (by decide),?_⟩;have h2:=PyData.shown_le 13 (by decide) _ s.lv;have h3:=s.wt;exact Nat.le_trans h2 (Nat.le_trans (by omega:_<=15*(1700*506)+13) (by decide))
noncomputable def FulL(H:Hp):List V->List Sx->Prop:=cU λv S=>Is H v (MR S)
theorem FulL.same{H H':Hp}{vs:List V}{L:List Sx}(s:Same H H')(h:FulL H vs L):FulL H' vs L:=Paired.mapP h λ_ _ q=>q.same s
theorem FulL.len{H:Hp}{vs:List V}{L:List Sx}(h:FulL H vs L):vs.length=L.length:=cv h
theorem R0{H:Hp}{xs:List V}{L:List Sx}(h:cU (λv S=>Is H v (MR S)) xs L):IsAll H xs (L.map MR):=by
 induction h with
|nil=>exact .nil
|cons q t ih=>exact .cons q ih
theorem FulL.is{H:Hp}{l:Addr}{vs:List V}{L:List Sx}(e:H l=some (.lst vs))(h:FulL H vs L):Is H (.ref l) (Qw L):=.lst e (R0 h)
theorem Ef{H:Hp}{T:Tb}{v:V}{S:Sx}{j:Nat}(is:Xn T (S.key.map kV) j S)(h:Is H v (MR S)):∃a xs k ks,v=.ref a/\H a=some (.tup xs)/\atI xs 0=some (.ref k)/\H k=some (.tup ks)/\atI ks 0=some (.str (wd.getD j "")):=by
 have w:=Ta is;unfold MR at h;cases h with
|@tup a xs _ e r=>
  cases r with
 |cons h1 r=>
   generalize S.key.map kV=zs at h1 w;unfold rowD at h1;cases h1 with
  |@tup k ks _ e1 r1=>
    cases zs with
   |nil=>cases w
   |cons z zs=>
     have w:z=.str (wd.getD j ""):=by have q:atI (z::zs) 0=some z:=Zr (j:=0) rfl;rw[q]at w;injection w
     subst w;cases r1 with
    |cons h2 r2=>cases h2;exact⟨a,_,k,_,rfl,e,Zr (j:=0) rfl,e1,Zr (j:=0) rfl⟩
end SX
namespace L2
open PySem PySem.Spec PyProof.Rows
noncomputable def rIxB:V->List V->Hp->VK->Prop:=λx vs H Q=>∃(l:Addr)(bs:List Bool)(j:Nat),x=.ref l/\vs=[.bl true]/\H l=some (.lst (bs.map V.bl))/\bs[j]?=some true/\(∀m,m<j->bs[m]?=some false)/\Q (.int (j:Nat)) H
theorem Nk:∀{bs:List Bool}{us:List Value},Vals (bs.map V.bl) us->us=bs.map Value.bool
|[],_,.nil=>rfl
|b::bs,_,.cons h r=>by cases h;rw[Nk r];rfl
theorem Lu{X:Cx}:MtM X "list.index" rIxB:=by
 intro pins s σ H x vs v us Q I rx rv h;obtain⟨l,bs,j,rfl,rfl,hH,hj,hno,q⟩:=h;cases rx;obtain⟨u,rfl,hu⟩:=rv.one;cases hu;obtain⟨sz,its,n,r,hl,e⟩:=I.lstM hH;have ei:=Nk r;subst ei;have hjl:j<(bs.map Value.bool).length:=by rw[lm];exact(aj.mp hj).1
 have hjb:j<bs.length:=(aj.mp hj).1;have hjs:j<=sizeLine:=by simp only[aZ]at *;omega
 let ee:Value->Bool:=λv=>match v with
 |.bool b=>b
 |_=>false
 refine gY F.slot_list_index ⟨_,e,rfl⟩ F.entry_list_index (F.args_list_index_2 _ _) (SeqAt.list_indexAt l (bs.map Value.bool).toArray n none #[] (.bool true) ee j (by simpa using hjl) ?_ ?_ (λm hm hlt=>?_)) ⟨e,λy hy=>?_,⟨.int j,H,I.tok _,⟨_,rfl⟩,q⟩⟩
 ·have:(sizeLine:Int)<2 ^ 63-1:=by decide
  omega
 ·show ee ((bs.map Value.bool).toArray[j])=true;rw[List.getElem_toArray,fw];show bs[j]=true;have:=aj.mp hj;exact this.2
 ·show ee ((bs.map Value.bool).toArray[m])=false;rw[List.getElem_toArray,fw];exact(aj.mp (hno m hlt)).2
 ·obtain⟨b,_,rfl⟩:=aq.mp (by simpa using hy:y∈bs.map Value.bool);have eb:(b==true)=ee (.bool b):=by cases b<;>rfl
  rw[<-eb];exact SeqAt.EqAt.bool_bool b true
end L2
namespace SX
open PySem L2 PySem.Spec PyProof.Rows TB WD
noncomputable def kb(j:Nat):List Bool:=[decide (j=0),decide (j=1),decide (j=2),decide (j=3)]
theorem EF:∀j,j<4->(kb j)[j]?=some true/\∀m,m<j->(kb j)[m]?=some false:=by decide +kernel
theorem FK:∀j,j<4->((kb j).take 4).filter id=[true]:=by decide +kernel
theorem flt{l:List Bool}{i:Nat}{b:Bool}(h:l[i]?=some b):(l.take (i+1)).filter id=(l.take i).filter id++(if b=true then[b]else[]):=by rw[aV,h,eG];cases b<;>rfl
def KO(Cs:Nat->Addr):Sp:=λvs H Q _=>∃(a dx:Addr)(fs:List (Str×V))(j:Nat),vs=[.ref a]/\j<4/\H a=some (.ins (Cs j) dx fs)/\∀H',Same H H'->Q (.str (wd.getD j "")) H'
section
variable {P:Program}{w:World}{K:aa}{mg:Str->Option Value}{base:Heap}{Cs:Nat->Addr}{Cb:Addr}
theorem MK:FnScope ["_law_step","_law_kinds"] ["_law_step"] (Zb T.f__law_kind):=scO
noncomputable def Uo:Scope:=csx [(".0",.local),("_law_kind_here",.local)]
theorem Mw:CompScope Uo (Zb T.f__law_kind):=⟨rfl,by decide +kernel,by decide +kernel,by decide +kernel⟩
theorem My:(["_law_kind_here"]:List Str).Nodup:=by decide +kernel
theorem Mx:CompNames ["_law_step","_law_kinds"] Uo ["_law_kind_here"] [none]:=.mk' (by decide +kernel)
theorem De(B:∀x∈Blts,mg x=none)(Y:STy K mg Cs Cb)(D:Df K mg "_law_kind" T.f__law_kind ["_law_step"]):Can P w K mg base 1 "_law_kind" ["_law_step"] (KO Cs):=by
 refine D.cn MK λf cdv A outer s H vs Q E hr h=>?_;obtain⟨a,dx,fs,j,rfl,hj,ha,kq⟩:=h;refine' ⟨_,(@Ze _ _ _ _ _ ?h5 (@Ze _ _ _ _ _ ?h6 (@Zi _ _ _ ?h7))),?rd⟩;case' h7=>refine' (Zo ?h4)
 case' h6=>refine' (@ZO _ _ _ _ _ _ _ _ (PW.pt (JH (Z8 (Z1 (ZG JR rfl (bm B) bo (@pa2 _ _ _ _ _ (pv 0) (ZR (v:=.ref Cb) rfl Y.m4 rfl) (by rfl))))) (Xj (@Zw _ _ _ _ _ _ _ _ Ra (ZG (r:=rLen K) YB rfl (bm B) bC (@pa1 _ _ _ (Z7 rfl Mw Mx (Z3 (pv 1)) (λC s H ex pn=>(nmT 0 My)) (λC s H ex pn=>(Xq (Z1 (pv 0)))) (λC s H ex pn=>(pv 0))) (by rfl))) Zc (ZC _))))) (@Zi _ _ _ ?h2) Zy)
 case' h5=>refine' (@st _ _ _ _ 1 _ _ MK.nd ?h1 (by rfl) (by exact bw rfl) (by rfl) (by exact .inl rfl))
 case' h4=>refine' (@il _ _ _ _ _ _ K ?h3 (ND cg PySem.F.slot_list_index PySem.F.type_list_index Lu (pv 1) (@pa1 _ _ _ MM (by rfl))) (by rfl) (by exact λ_ _=>rfl))
 case' h3=>refine' (@ZA _ _ _ _ (@Za _ _ _ _ _ Zu (@pa3 _ _ _ _ _ _ _ Zu Zu Zu (by rfl)) (by rfl)))
 case' h2=>refine' (Zo Zu)
 case' h1=>refine' (@ZA _ _ _ _ (@Za _ _ _ _ _ (ZG JR rfl (bm B) bo (@pa2 _ _ _ _ _ (pv 0) (ZR (v:=.ref (Cs 0)) rfl Y.m0 rfl) (by rfl))) (@pa3 _ _ _ _ _ _ _ (ZG JR rfl (bm B) bo (@pa2 _ _ _ _ _ (pv 0) (ZR (v:=.ref (Cs 1)) rfl Y.m1 rfl) (by rfl))) (ZG JR rfl (bm B) bo (@pa2 _ _ _ _ _ (pv 0) (ZR (v:=.ref (Cs 2)) rfl Y.m2 rfl) (by rfl))) (ZG JR rfl (bm B) bo (@pa2 _ _ _ _ _ (pv 0) (ZR (v:=.ref (Cs 3)) rfl Y.m3 rfl) (by rfl))) (by rfl)) (by rfl)))
 have y0:∀{H':Hp},Same H H'->TyOf K H' (.ref a) (.ref (Cs j)):=λs=>Y.ty j hj _ _ _ _ (s _ _ ha);have ty:=y0 (Same.refl H);refine⟨_,rfl,_,Cs 0,.ref (Cs j),_,rfl,ty,Y.kk 0 j (by decide) hj,_,rfl,_,Cs 1,.ref (Cs j),_,rfl,ty,Y.kk 1 j (by decide) hj,_,rfl,_,Cs 2,.ref (Cs j),_,rfl,ty,Y.kk 2 j (by decide) hj,_,rfl,_,Cs 3,.ref (Cs j),_,rfl,ty,Y.kk 3 j (by decide) hj,zl,λc hc=>?_⟩;try dsimp only[tNil]
 refine nl2 hc λH2 S2 e2=>?_;have ha2:=S2 _ _ ha;refine⟨_,rfl,_,Cb,.ref (Cs j),_,rfl,y0 S2,Y.kb j hj,?_⟩;refine⟨_,rfl,iteF ?_⟩;refine⟨_,rfl,c,rfl,⟨_,SqL.of e2⟩,?_⟩;refine Y9 (J:=Itl K c) 4 (by decide) (λi us τ H'=>H'=H2/\us=(((kb j).take i).filter id).map V.bl/\∃v r,τ=v::r) ⟨rfl,rfl,none,[],rfl⟩ (λi us τ H' p=>?_) (λi us τ H' hi p=>?_) (λus τ H' p=>?_) (λi us τ H' x H4 hi p yl=>?_) (λus τ H' p c3 hc3=>?_)
 ·rw[p.2.1,lm];exact Nat.le_trans (bu _ _) (by rw[aw];omega)
 ·obtain⟨rfl,_⟩:=p;exact⟨_,_,SqL.of e2,gE (by exact hi)⟩
 ·obtain⟨rfl,_⟩:=p;exact⟨_,SqL.of e2,Nat.le_refl _⟩
 ·obtain⟨rfl,rfl,v,a1,rfl⟩:=p;obtain⟨rfl,hy⟩:=yl;have hx:=hy _ (SqL.of e2);have hx:((kb j).map V.bl)[i]?=some x:=hx;rw[ah]at hx;obtain⟨b,hb,rfl⟩:=a9.mp hx;rw[flt hb];refine⟨_,rfl,_,rfl,?_⟩;cases b with
 |true=>exact iteT ⟨_,rfl,rfl,by rw[aE];rfl,_,_,rfl⟩
 |false=>exact iteF ⟨rfl,by rw[if_neg Bool.false_ne_true,aT],_,_,rfl⟩
 obtain⟨rfl,rfl,v,a1,rfl⟩:=p;rw[FK j hj];have S3:=sameNew (o:=.lst ([true].map V.bl)) (Same.refl H') hc3;have e3:upd H' c3 (.lst ([true].map V.bl)) c3=some (.lst [.bl true]):=Zd;generalize upd H' c3 (.lst ([true].map V.bl))=H3 at S3 e3 ⊢;try dsimp only[tNil]
 refine⟨c3,_,rfl,.inl (SqL.of e3),?_⟩;refine⟨rfl,_,rfl,iteF ?_⟩;refine⟨zl,λc4 hc4=>?_⟩;have S4:=sameNew (o:=.lst [.str "out",.str "ride",.str "walk",.str "wait"]) (Same.refl H3) hc4;have e4:upd H3 c4 (.lst [.str "out",.str "ride",.str "walk",.str "wait"]) c4=some (.lst [.str "out",.str "ride",.str "walk",.str "wait"]):=Zd;generalize upd H3 c4 (.lst [.str "out",.str "ride",.str "walk",.str "wait"])=H4 at S4 e4 ⊢;have S24:=S3.trans S4;have e5:H4 c=some (.lst ((kb j).map V.bl)):=S24 _ _ e2;refine⟨_,rfl,.inl ⟨rfl,_,SqL.of e5⟩,c,kb j,j,rfl,rfl,e5,(EF j hj).1,(EF j hj).2,c4,_,j,.str (wd.getD j ""),rfl,rfl,SqL.of e4,?_,kq _ (S2.trans S24)⟩;rcases(by omega:j=0\/j=1\/j=2\/j=3)with rfl|rfl|rfl|rfl
 ·exact Zr (j:=0) rfl
 ·exact Zr (j:=1) rfl
 ·exact Zr (j:=2) rfl
 ·exact Zr (j:=3) rfl
end
theorem Wr{H Hf H1:Hp}{d l:Addr}{ob:Obj}{kvs:List (List Key×V)}{ys:List V}{L:List Sx}{G:Hp->Prop}(ed:H d=some (.dT kvs))(ef:Hf d=some (.frz ob (.dT kvs)))(sb:Zg d H Hf)(S1:Same Hf H1)(hl:H1 l=none)(kl:FulL H1 ys L)(k:∀H',Same H H'->H l=none->H' l=some (.lst ys)->FulL H' ys L->G H'):G (upd (upd H1 l (.lst ys)) d (.dT kvs)):=by
 have e1:=S1 _ _ ef;have nl:l≠d:=λz=>by rw[z,e1]at hl;cases hl
 have e2:upd H1 l (.lst ys) d=some (.frz ob (.dT kvs)):=by rw[Zh (bA nl)];exact e1
 have kl2:FulL (upd H1 l (.lst ys)) ys L:=kl.same (sameNew (Same.refl _) hl);refine k _ (λc o e=>?_) ?_ ?_ (Paired.mapP kl2 λ_ _ q=>Mj (λxs=>⟨(λz=>by rw[e2]at z;cases z),(λz=>by rw[e2]at z;cases z)⟩) q)
 ·by_cases hc:c=d
  ·subst hc;rw[ed]at e;cases e;exact Zd
  ·have:=S1 _ _ (sb c o e hc);rw[Zh hc,Zh (Zk this hl)];exact this
 ·cases hz:H l with
 |none=>rfl
 |some o=>rw[S1 _ _ (sb l o hz nl)]at hl;cases hl
 ·rw[Zh nl];exact Zd
theorem Du{H:Hp}{v:V}{S:Sx}(h:Is H v (J7 S)):∃a xs,v=.ref a/\H a=some (.tup xs)/\IsAll H xs [S.tail,S.head,dF S.room,.int S.price]/\xs.length=4:=by
 unfold J7 at h;cases h with
|@tup a xs _ e r=>refine⟨a,xs,rfl,e,r,?_⟩;cases r with|cons _ r=>cases r with|cons _ r=>cases r with|cons _ r=>cases r with|cons _ r=>cases r;rfl
theorem Ft{K:aa}:ak K (.type "list") (.type "list")=some true:=by kernel_rfl
theorem PL{k:Nat}:∀{ds:List PyData},(∀d∈ds,d.depth<=k)->PyData.depthAll ds<=k
|[],_=>Nat.zero_le _
|d::ds,h=>by show max _ _<=k;have h1:=h d aB;have h2:=PL (ds:=ds) λx hx=>h x (av _ hx);omega
noncomputable def knd(S:Sx):V:=(S.key.map kV).getD 0 .non
theorem NR{T:Tb}{S:Sx}{j:Nat}(is:Xn T (S.key.map kV) j S):knd S=.str (wd.getD j ""):=by
 have w:=Ta is;unfold knd;generalize S.key.map kV=zs at w;cases zs with
|nil=>cases w
|cons z zs=>have q:atI (z::zs) 0=some z:=Zr (j:=0) rfl;rw[q]at w;injection w
noncomputable def Px(T:Tb):PyData:=.list ((allS T).map λS=>dF (knd S))
theorem TU{T:Tb}(o:OkTb T){H:Hp}:IsAll H ((allS T).map knd) ((allS T).map λS=>dF (knd S)):=by
 have:∀L:List Sx,(∀S∈L,S∈allS T)->IsAll H (L.map knd) (L.map λS=>dF (knd S)):=λL=>by
  induction L with
 |nil=>exact λ_=>.nil
 |cons S L ih=>intro h;obtain⟨j,is⟩:=JS o (h S aB);refine .cons ?_ (ih λS' h'=>h S' (av _ h'));show Is H (knd S) (dF (knd S));rw[NR is];exact .str _
 exact this _ λ_ h=>h
theorem F7:∀j,j<4->GS (wd.getD j ""):=by decide +kernel
theorem Rl{T:Tb}(o:OkTb T):(Px T).canLay0=true:=by show PyData.canLayAll0 ((allS T).map λS=>dF (knd S))=true;refine Qu λd hd=>?_;obtain⟨S,hS,rfl⟩:=aq.mp hd;obtain⟨j,is⟩:=JS o hS;rw[NR is];exact(Atm.str (F7 j is.key.2)).lay
theorem Rk{T:Tb}(o:OkTb T):cM (Px T)=true:=by
 unfold cM;rw[Rl o,Bool.true_and];refine decide_eq_true ?_;show PyData.depthAll ((allS T).map λS=>dF (knd S))+1<=64;have:=PL (k:=1) (ds:=(allS T).map λS=>dF (knd S)) λd hd=>by obtain⟨S,hS,rfl⟩:=aq.mp hd;obtain⟨j,is⟩:=JS o hS;rw[NR is];exact Nat.zero_le _
 omega
theorem Eb{T:Tb}(o:OkTb T):PyData.eqv (Px T) (Px T)=true:=SeqAt.eqv_refl _ (Rl o)
theorem RT{H H':Hp}{l:Addr}{o:HO}(s:Same H H')(hl:H l=none):Same H (upd H' l o):=λc u e=>by rw[Zh (Zk e hl)];exact s _ _ e
def Tn(C:Addr):Sp:=λvs H Q _=>∃(b t pw l1 l2 l3 l4:Addr)(T:Tb),vs=[.ref t,.ref pw]/\Tel H C t T/\TbAt b H pw T l1 l2 l3 l4/\OkTb T/\(allS T).length<=1700/\∀H',Same H H'->Q (.bl true) H'
section
variable {P:Program}{w:World}{K:aa}{mg:Str->Option Value}{base:Heap}{Cs:Nat->Addr}{C:Addr}
theorem Y6:FnScope [q_t,q_w,"_law_due","_law_turn","_law_found","_law_told"] [q_t,q_w] (Zb T.f__law_right):=scO
noncomputable def X4:Scope:=csx [(".0",.local),("_law_key",.local),("_law_step",.local)]
theorem Gw:CompScope X4 (Zb T.f__law_right):=⟨rfl,by decide +kernel,by decide +kernel,by decide +kernel⟩
theorem Jq:(["_law_key","_law_step"]:List Str).Nodup:=by decide +kernel
theorem Gx:CompNames [q_t,q_w,"_law_due","_law_turn","_law_found","_law_told"] X4 ["_law_key","_law_step"] [none,none]:=.mk' (by decide +kernel)
noncomputable def X0:Scope:=csx [(".0",.local),("_law_step",.local)]
theorem Gs:CompScope X0 (Zb T.f__law_right):=⟨rfl,by decide +kernel,by decide +kernel,by decide +kernel⟩
theorem Gv:(["_law_step"]:List Str).Nodup:=by decide +kernel
theorem Gu:CompNames [q_t,q_w,"_law_due","_law_turn","_law_found","_law_told"] X0 ["_law_step"] [none]:=.mk' (by decide +kernel)
noncomputable def VI:Scope:=csx [(".0",.local),("_law_step",.local),("_law_kind",.globalImplicit)]
theorem Gn:CompScope VI (Zb T.f__law_right):=⟨rfl,by decide +kernel,by decide +kernel,by decide +kernel⟩
theorem Gq:(["_law_step"]:List Str).Nodup:=by decide +kernel
theorem Gp:CompNames [q_t,q_w,"_law_due","_law_turn","_law_found","_law_told"] VI ["_law_step"] [none]:=.mk' (by decide +kernel)
noncomputable def VH:Scope:=csx [(".0",.local),("_law_row",.local)]
theorem Gj:CompScope VH (Zb T.f__law_right):=⟨rfl,by decide +kernel,by decide +kernel,by decide +kernel⟩
theorem Gm:(["_law_row"]:List Str).Nodup:=by decide +kernel
theorem Gk:CompNames [q_t,q_w,"_law_due","_law_turn","_law_found","_law_told"] VH ["_law_row"] [none]:=.mk' (by decide +kernel)
theorem Kb(B:∀x∈Blts,mg x=none)(ZS:∀j,j<4->SCl K (Cs j))(M1:∀j,j<4->CanM P w K mg base CX0 1 (Cs j) "key" ["self"] (Ui K "its_key"))(M2:∀j,j<4->CanM P w K mg base CX0 1 (Cs j) "tail" ["self"] (Ui K "its_tail"))(M3:∀j,j<4->CanM P w K mg base CX0 1 (Cs j) "head" ["self"] (Ui K "its_head"))(M4:∀j,j<4->CanM P w K mg base CX0 1 (Cs j) "room" ["self"] (Ui K "its_room"))(M5:∀j,j<4->CanM P w K mg base CX0 1 (Cs j) "price" ["self"] (Ui K "its_price"))(CL:Can P w K mg base 1 "_law_steps" [q_w] QS)(CF:Can P w K mg base 6 "steps_of" ["table"] (Xo C Cs allS))(CK:Can P w K mg base 1 "_law_kind" ["_law_step"] (KO Cs))(D:Df K mg "_law_right" T.f__law_right [q_t,q_w]):Can P w K mg base 7 "_law_right" [q_t,q_w] (Tn C):=by
 refine D.cn Y6 λf cdv A outer s H vs Q E hr h=>?_;obtain⟨b,t,pw,l1,l2,l3,l4,T,rfl,tel,tb,ok,len,kq⟩:=h;refine' ⟨_,(@Ze _ _ _ _ _ ?h8 (@Ze _ _ _ _ _ ?h9 (@Zi _ _ _ ?h10))),?rd⟩;case' h10=>refine' (Zo MM)
 case' h9=>refine' (YJ bq rfl (Yn rfl (bm B) (@pa1 _ _ _ Zc (by rfl))) (nmT 3 Y6.nd) (@Ze _ _ _ _ _ ?h3 (@Ze _ _ _ _ _ ?h4 (@Ze _ _ _ _ _ ?h5 (@Ze _ _ _ _ _ ?h6 (@Zi _ _ _ ?h7))))))
 case' h8=>refine' (DN (YD (i:=2) Y6.nd rfl (bw rfl) (scope:=X4) (N:=["_law_key","_law_step"]) (cp:=[none,none]) rfl Gw Gx (Lc (cn CL hr (@pa1 _ _ _ (pv 1) (by rfl)))) (λC s H ex pn=>(Y8 (K:=K) (n:=2) rfl rfl (Zl (nmT 0 Jq) (Zl (nmT 1 Jq) ZL)))) (λC s H ex pn=>ZV) (λC s H ex pn=>(Zv TQ (ZE (Za (pv 0) Zf)) (pv 1)))))
 case' h7=>refine' (Yp (E8 cg PySem.F.slot_list_clear PySem.F.type_list_clear Lv (pv 4)))
 case' h6=>refine' (@ZO _ _ _ _ _ _ _ _ (PW.pt (JH (@Zw _ _ _ _ _ _ _ _ Ra (ZG (N6 hr) rfl (bm B) gU (@pa1 _ _ _ (pv 5) (by rfl))) (ZG (N6 hr) rfl (bm B) gU (@pa1 _ _ _ (pv 2) (by rfl))) (ZC _)) (Xj (@Zw _ _ _ _ _ _ _ _ (R5 hr.units) (Z7 rfl Gn Gp (Z3 (pv 4)) (λC s H ex pn=>(nmT 0 Gq)) (λC s H ex pn=>ZV) (λC s H ex pn=>(cn CK hr (Za (pv 0) Zf)))) (Z7 rfl Gj Gk (Z3 (pv 2)) (λC s H ex pn=>(nmT 0 Gm)) (λC s H ex pn=>ZV) (λC s H ex pn=>(it K (it K (pv 0) Zc) Zc))) (ZC _))))) (@Zi _ _ _ ?h2) Zy)
 case' h5=>refine' (YD (i:=5) Y6.nd rfl (bw rfl) (scope:=X0) (N:=["_law_step"]) (cp:=[none]) rfl Gs Gu (Z3 (pv 4)) (λC s H ex pn=>(nmT 0 Gv)) (λC s H ex pn=>ZV) (λC s H ex pn=>(ZE (Za (Q7 λj hj=>JI (M1 j hj) (ZS j hj).cl YM hr.m (pv 0)) (Za (Q7 λj hj=>JI (M2 j hj) (ZS j hj).cl YM hr.m (pv 0)) (Za (Q7 λj hj=>JI (M3 j hj) (ZS j hj).cl YM hr.m (pv 0)) (Za (Q7 λj hj=>JI (M4 j hj) (ZS j hj).cl YM hr.m (pv 0)) (Za (Q7 λj hj=>JI (M5 j hj) (ZS j hj).cl YM hr.m (pv 0)) Zf))))))))
 case' h4=>refine' (@ZO _ _ _ _ _ _ _ _ (PW.pt (JH (Z8 (Z1 (Mb (c:="list") (pv 4) rfl (bm B) rfl (bm B) GW))) (Xj (@Zw _ _ _ _ _ _ _ _ Ra (ZG (r:=rLen K) YB rfl (bm B) bC (@pa1 _ _ _ (pv 4) (by rfl))) (ZG (r:=rLen K) YB rfl (bm B) bC (@pa1 _ _ _ (pv 2) (by rfl))) (ZC _))))) (@Zi _ _ _ ?h1) Zy)
 case' h3=>refine' (@st _ _ _ _ 4 _ _ Y6.nd (cn CF hr (@pa1 _ _ _ (pv 0) (by rfl))) (by rfl) (by exact bw rfl) (by rfl) (by exact .inl rfl))
 case' h2=>refine' (Zo MM)
 case' h1=>refine' (Zo MM)
 refine⟨_,rfl,b,pw,l1,l2,l3,l4,T,rfl,tb,ok,λH1 d S1 nd dc=>?_⟩;obtain⟨kvs,ed,pr⟩:=dc.ord (FZ ok);have hlen:=cv pr;refine⟨d,kvs,rfl,ed,λob=>?_⟩;have hn:∀xs,H1 d≠some (.lst xs)/\H1 d≠some (.tup xs):=λxs=>⟨(λz=>by rw[ed]at z;cases z),(λz=>by rw[ed]at z;cases z)⟩;have ef:upd H1 d (.frz ob (.dT kvs)) d=some (.frz ob (.dT kvs)):=Zd;have sbf:Zg d H1 (upd H1 d (.frz ob (.dT kvs))):=(Zg.refl d H1).put;have prf:cU (λ(kv:List Key×V)(S:Sx)=>kv.1=S.key/\Is (upd H1 d (.frz ob (.dT kvs))) kv.2 (J7 S)) kvs (allS T):=Paired.mapP pr λ_ _ q=>⟨q.1,Mj hn q.2⟩;generalize upd H1 d (.frz ob (.dT kvs))=Hf at ef sbf prf ⊢;refine ZI (J:=Iti d ob kvs) kvs.length (Nat.le_trans (by omega:_<=1700) (by decide)) (λi ys τ H'=>Same Hf H'/\FulL H' ys ((allS T).take i)/\∃o1 o2,τ=[o1,o2]) ⟨Same.refl _,.nil,_,_,rfl⟩ (λi ys τ H' q=>?_) (λi ys τ H' hi q=>⟨hi,q.1 _ _ ef⟩) (λys τ H' q=>⟨rfl,q.1 _ _ ef⟩) (λi ys τ H' x H2 hi q yl=>?_) (λys τ H2 q l hl=>?_)
 ·rw[q.2.1.len,aw];omega
 ·obtain⟨s1,fl,o1,o2,rfl⟩:=q;obtain⟨Tt,bb,kv,n1,hk,hb,rfl,rfl⟩:=yl;have hi':i<(allS T).length:=by omega
  obtain⟨ek,et⟩:=Xl prf hk (gE hi');obtain⟨j,is⟩:=JS ok (aG hi':(allS T)[i]∈allS T);rw[aV,gE hi'];generalize (allS T)[i]=S at ek et is;have hb2:H' bb=some (.tup (S.key.map kV)):=by rw[<-ek];exact hb
  refine nl2 n1 λH3 S3 e3=>?_;have S03:=s1.trans S3;obtain⟨a,xs,ev,ha,ia,xl⟩:=Du (et.same S03);rw[ev]at e3;have hb3:=S3 _ _ hb2;refine⟨Tt,_,rfl,SqT.of e3,rfl,_,_,rfl,_,_,rfl,rfl,?_⟩;refine⟨_,rfl,zl,λc hc=>?_⟩;refine nl2 hc λH4 S4 e4=>?_;refine⟨_,rfl,c,a,_,_,rfl,rfl,e4,S4 _ _ ha,by rw[xl];exact(by decide:1+4<=sizeLine),λH5 p S5 e5=>?_⟩;have S35:=S4.trans S5;exact⟨S03.trans S35,fN (fl.same (S3.trans S35)) (.tup e5 (.cons (.tup (S35 _ _ hb3) (XG (is.small ok).key.2)) (ia.same S35))),_,_,rfl⟩
 obtain⟨s1,fl,_⟩:=q;rw[hlen,aF]at fl;refine⟨d,ob,.dT kvs,(Zh (Zk (s1 _ _ ef) hl)).trans (s1 _ _ ef),(λo' u' z=>by have z':H d=_:=z;rw[nd]at z';cases z'),?_⟩;refine Wr ed ef sbf s1 hl fl λH3 S3 n3 e3 f3=>?_;clear ef sbf prf s1 hl fl;have S13:=S1.trans S3;refine⟨_,rfl,by decide,by decide,?_⟩;refine Xz (J:=Itr 0 2) 2 (λi σ H'=>Same H3 H'/\∃o3 o4 o5,σ=[some (.ref t),some (.ref pw),some (.ref l),o3,o4,o5]) ⟨Same.refl _,_,_,_,rfl⟩ (λi σ H' hi q=>hi) (λσ H' q=>Nat.le_refl _) (λi σ H' v H5 hi q yl=>?_) (λσ H' q=>?_)
 ·obtain⟨s5,o3,o4,o5,rfl⟩:=q;obtain rfl:=yl.1;refine⟨_,rfl,t,T,rfl,tel.same (S13.trans s5),ok,λH6 p us S6 n6 e6 sl=>?_⟩;have S36:=s5.trans S6;have el:=S36 _ _ e3;have fl:=f3.same S36;have le:us.length=ys.length:=by rw[sl.len,fl.len]
  have lb:us.length=(allS T).length:=sl.len;refine⟨_,rfl,_,_,_,_,rfl,.lst e6,Ft,_,rfl,iteF ?_⟩;refine⟨_,rfl,p,_,rfl,.inl (SqL.of e6),_,rfl,l,_,rfl,.inl (SqL.of el),rfl,_,rfl,?_⟩;rw[le,show(!decide (V.int (ys.length:Nat)=V.int (ys.length:Nat)))=false by simp];refine iteF ?_;refine⟨_,rfl,p,rfl,⟨_,SqL.of e6⟩,?_⟩;refine ZI (J:=Itl K p) us.length (Nat.le_trans (by rw[lb];exact len:_<=1700) (by decide)) (λi zs τ H'=>Same H6 H'/\FulL H' zs ((allS T).take i)/\∃o1,τ=[o1]) ⟨Same.refl _,.nil,_,rfl⟩ (λi zs τ H' q=>?_) (λi zs τ H' hi q=>?_) (λzs τ H' q=>?_) (λi zs τ H' x H7 hi q yl=>?_) (λzs τ H7 q l7 hl7=>?_)
  ·rw[q.2.1.len,aw];omega
  ·exact⟨_,_,SqL.of (q.1 _ _ e6),gE hi⟩
  ·exact⟨_,SqL.of (q.1 _ _ e6),Nat.le_refl _⟩
  ·obtain⟨s7,f7,o1,rfl⟩:=q;obtain⟨rfl,hy⟩:=yl;have hx:=hy _ (SqL.of (s7 _ _ e6));have hi':i<(allS T).length:=by omega
   obtain⟨y,j,rfl,st,is⟩:=Xl sl hx (gE hi');rw[aV,gE hi'];generalize (allS T)[i]=S at st is;have hj:=is.key.2;obtain⟨dy,ky,vt,vh,h1,h2,h3,h4,_⟩:=Nr (st.same s7);refine⟨j,hj,_,rfl,y,dy,_,rfl,h1,rfl,y,Cs j,dy,_,_,rfl,ZS j hj,h1,rfl,j,hj,_,rfl,y,dy,_,rfl,h1,rfl,y,Cs j,dy,_,_,rfl,ZS j hj,h1,rfl,j,hj,_,rfl,y,dy,_,rfl,h1,rfl,y,Cs j,dy,_,_,rfl,ZS j hj,h1,rfl,j,hj,_,rfl,y,dy,_,rfl,h1,rfl,y,Cs j,dy,_,_,rfl,ZS j hj,h1,rfl,j,hj,_,rfl,y,dy,_,rfl,h1,rfl,y,Cs j,dy,_,_,rfl,ZS j hj,h1,rfl,zl,λc hc=>?_⟩;have S8:=sameNew (o:=.tup [.ref ky,vt,vh,S.room,.int S.price]) (Same.refl H7) hc;have e8:upd H7 c (.tup [.ref ky,vt,vh,S.room,.int S.price]) c=some (.tup [.ref ky,vt,vh,S.room,.int S.price]):=Zd;exact⟨s7.trans S8,fN (f7.same S8) (.tup e8 (.cons (.tup (S8 _ _ h2) (XG (is.small ok).key.2)) (.cons (h3.same S8) (.cons (h4.same S8) (.cons (Ed ok is) (.cons (.int _) .nil)))))),_,rfl⟩
  obtain⟨s7,f7,_⟩:=q;rw[lb,aF]at f7;refine nl2 hl7 λH8 S8 e8=>?_;have S68:=s7.trans S8;have shw:=WV ok len;refine⟨_,rfl,l7,_,rfl,(f7.same S8).is e8,shw.sh,shw.dp,shw.len,_,rfl,l,_,rfl,(fl.same S68).is (S68 _ _ el),shw.sh,shw.dp,shw.len,rfl,_,rfl,?_⟩;rw[show(!decide (V.str (Qw (allS T)).shown=V.str (Qw (allS T)).shown))=false by simp];refine iteF ?_;have e6':=S68 _ _ e6;have sl':=sl.same S68;have el':=S68 _ _ el;have fl':=fl.same S68;have S08:=(S13.trans S36).trans S68;clear s7 f7 shw e8 S8 hl7 e6 sl fl el;refine⟨_,rfl,p,rfl,⟨_,SqL.of e6'⟩,?_⟩;refine ZI (J:=Itl K p) us.length (Nat.le_trans (by rw[lb];exact len:_<=1700) (by decide)) (λi zs τ H'=>Same H8 H'/\zs=((allS T).take i).map knd/\∃o1,τ=[o1]) ⟨Same.refl _,rfl,_,rfl⟩ (λi zs τ H' q=>?_) (λi zs τ H' hi q=>?_) (λzs τ H' q=>?_) (λi zs τ H' x H9 hi q yl=>?_) (λzs τ H9 q l9 hl9=>?_)
  ·rw[q.2.1,lm,aw];omega
  ·exact⟨_,_,SqL.of (q.1 _ _ e6'),gE hi⟩
  ·exact⟨_,SqL.of (q.1 _ _ e6'),Nat.le_refl _⟩
  ·obtain⟨s9,rfl,o1,rfl⟩:=q;obtain⟨rfl,hy⟩:=yl;have hx:=hy _ (SqL.of (s9 _ _ e6'));have hi':i<(allS T).length:=by omega
   obtain⟨y,j,rfl,st,is⟩:=Xl sl' hx (gE hi');rw[aV,gE hi'];generalize (allS T)[i]=S at st is;obtain⟨dy,ky,vt,vh,h1,_⟩:=Nr (st.same s9);refine⟨_,rfl,y,dy,_,j,rfl,is.key.2,h1,λH10 S10=>⟨s9.trans S10,?_,_,rfl⟩⟩;rw[aE];show _=_++[knd S];rw[NR is]
  obtain⟨s9,rfl,_⟩:=q;rw[lb,aF];have S10:=sameNew (o:=.lst ((allS T).map knd)) (Same.refl H9) hl9;have e10:upd H9 l9 (.lst ((allS T).map knd)) l9=some (.lst ((allS T).map knd)):=Zd;generalize upd H9 l9 (.lst ((allS T).map knd))=H10 at S10 e10 ⊢;have S810:=s9.trans S10;have el':=S810 _ _ el';have fl':=fl'.same S810;have fb:ys.length=(allS T).length:=fl'.len;refine⟨_,rfl,l,rfl,⟨_,SqL.of el'⟩,?_⟩;refine ZI (J:=Itl K l) ys.length (Nat.le_trans (by rw[fb];exact len:_<=1700) (by decide)) (λi zs τ H'=>H'=H10/\zs=((allS T).take i).map knd/\∃o1,τ=[o1]) ⟨rfl,rfl,_,rfl⟩ (λi zs τ H' q=>?_) (λi zs τ H' hi q=>?_) (λzs τ H' q=>?_) (λi zs τ H' x H11 hi q yl=>?_) (λzs τ H11 q l11 hl11=>?_)
  ·rw[q.2.1,lm,aw];omega
  ·obtain⟨rfl,_⟩:=q;exact⟨_,_,SqL.of el',gE hi⟩
  ·obtain⟨rfl,_⟩:=q;exact⟨_,SqL.of el',Nat.le_refl _⟩
  ·obtain⟨rfl,rfl,o1,rfl⟩:=q;obtain⟨rfl,hy⟩:=yl;have hx:=hy _ (SqL.of el');have hi':i<(allS T).length:=by omega
   have fu:=Xl fl' hx (gE hi');obtain⟨j,is⟩:=JS ok (aG hi':(allS T)[i]∈allS T);rw[aV,gE hi'];generalize (allS T)[i]=S at fu is;obtain⟨a,xs,k,ks,rfl,h1,h2,h3,h4⟩:=Ef is fu;refine⟨_,rfl,a,xs,0,_,rfl,rfl,SqT.of h1,h2,k,ks,0,_,rfl,rfl,SqT.of h3,h4,rfl,?_,_,rfl⟩;rw[aE];show _=_++[knd S];rw[NR is]
  obtain⟨rfl,rfl,_⟩:=q;rw[fb,aF];have S12:=sameNew (o:=.lst ((allS T).map knd)) (Same.refl H11) hl11;have e12:upd H11 l11 (.lst ((allS T).map knd)) l11=some (.lst ((allS T).map knd)):=Zd;generalize upd H11 l11 (.lst ((allS T).map knd))=H12 at S12 e12 ⊢;have S812:=S810.trans S12;refine⟨Px T,Px T,.lst (S12 _ _ e10) (TU ok),.lst e12 (TU ok),Rk ok,Rk ok,_,rfl,?_⟩;rw[Eb ok];refine iteF ?_;have ep:=S812 _ _ e6';refine⟨_,rfl,.inl ⟨rfl,_,SqL.of ep⟩,p,_,rfl,rfl,ep,?_⟩;have n3:H3 p=none:=by
   cases hz:H3 p with
  |none=>rfl
  |some o=>rw[s5 _ _ hz]at n6;cases n6
  exact⟨RT ((S36.trans S68).trans S812) n3,_,_,_,rfl⟩
 ·obtain⟨s5,o3,o4,o5,rfl⟩:=q;exact kq _ (S13.trans s5)
end
end SX
namespace WD
open PySem L2 PySem.Spec PyProof.Rows TB
section
variable {c:Cs}{H:Hp}{T:Tb}{t:Addr}{Q:VK}{E:XK}
theorem DZ(o:OkTb T)(tel:Tel H c.C t T){v:V}{ys:List V}(hv:Row H v (some ys))(ok:OkTb {T with t2:=T.t2++[ys]})(q:OutM c H {T with t2:=T.t2++[ys]} Q):Uu c.C c.Cb [.ref t,v] H Q E:=by
 obtain⟨fs,x1,x2,x3,x4,k,tp,dd⟩:=tel;have ri:=Nz o tp dd;refine⟨t,v,fs,T.n,prs x1 T.t1,prs x3 T.t3,prs x4 T.t4,x2,T.t2.map some,some ys,k,rfl,tp,ri.len,hv,λH1 s1=>?_⟩;have:=LA (E:=E) (y2:=x2++[v]) tp ok s1 (by have:=((tp.same s1).rows _ (.inr (.inl rfl)) _ _ rfl).snoc (hv.same s1);rw[aE];exact this) q;unfold prs at this;rw[aE]at this;exact this
theorem D7(o:OkTb T)(tel:Tel H c.C t T){Cn:Addr}{k:Nat}{y:List V}(hk:T.t2[k]?=some y)(q:OkTb {T with t2:=outR (nameOf y) T.t2}->OutM c H {T with t2:=outR (nameOf y) T.t2} Q):G4 c.C c.Cb Cn [.ref t,.str (nameOf y)] H Q E:=by
 obtain⟨a,nd,row,z⟩:=o.part 2 (.inr (.inl rfl));have nd':(T.t2.map nameOf).Nodup:=nd;have ok:OkTb {T with t2:=outR (nameOf y) T.t2}:=Lp o (Q8 ⟨a,nd,row,z⟩ List.filter_sublist);obtain⟨fs,x1,x2,x3,x4,kk,tp,dd⟩:=tel;have ri:=Nz o tp dd;obtain⟨z',s',lv',g',cm',se',e',en,rf,_⟩:=Tw o (aK hk);refine⟨t,_,_,fs,T.n,prs x1 T.t1,prs x3 T.t3,prs x4 T.t4,x2,T.t2,kk,rfl,ri,λy hy=>DV o hy,nd',.str _ (by rw[en];exact UA rf.nm),λh=>?_,λm y' hm e=>?_⟩
 ·rw[QH (lens tp).2.1 dd.r hk]at h;cases h
 ·have em:nameOf y=nameOf y':=by injection e
  rw[<-em];exact λH1 s1=>LA tp ok s1 (NI ((tp.same s1).rows _ (.inr (.inl rfl)) _ _ rfl)) (q ok)
theorem WK(o:OkTb T)(tel:Tel H c.C t T){v:V}{t':List (List V)}{y4:List V}(p:Yz H v (prs y4 t'))(ok:OkTb {T with t4:=t'})(q:OutM c H {T with t4:=t'} Q):JT c.C c.Cb [.ref t,v] H Q E:=by obtain⟨fs,x1,x2,x3,x4,kk,tp,dd⟩:=tel;exact⟨t,v,fs,T.n,prs x1 T.t1,prs x2 T.t2,prs x3 T.t3,prs x4 T.t4,prs y4 t',kk,rfl,tp,p,HM tp ok p.2 q⟩
theorem Ly{ps:Pl}{z:Str}(li:LInv T ps z)(tel:Tel H c.C t T){Ch:Addr}{bits:Int}(hu:K1.Zq (.int bits) 0 (1*2 ^ (Zx ps).length-1)=true)(q:OutM c H {T with t1:=(ZF bits ps).map plRow} Q):Vw c.C c.Cb Ch [.ref t,.int bits] H Q E:=by
 have hi:=li.pl.hi;obtain⟨fs,x1,x2,x3,x4,kk,tp,dd⟩:=tel;refine⟨t,_,_,fs,T.n,prs x2 T.t2,prs x3 T.t3,prs x4 T.t4,x1,ps,kk,rfl,?_,by omega,.int _,λh=>(by rw[hu]at h;cases h),λbits' e' _ H1 y1 s1 r1=>?_⟩
 ·rw[<-li.t1];exact tp
 ·cases e';exact HN tp (li.homes bits).ok s1 r1 q
theorem Lx(o:OkTb T)(tel:Tel H c.C t T){Cn Ct:Addr}{k:Nat}{z:Str}{s g:V}{lv cm se i:Int}(hk:T.t2[k]?=some [.str z,s,.int lv,g,.int cm,.int se])(i0:1<=i)(i1:cm+i<=T.n)(q:OkTb {T with t2:=T.t2.set k [.str z,s,.int (lv+i),g,.int (cm+i),.int se]}->OutM c H {T with t2:=T.t2.set k [.str z,s,.int (lv+i),g,.int (cm+i),.int se]} Q):Vv c.C c.Cb Cn Ct [.ref t,.str z,.int i] H Q E:=by
 obtain⟨z',s',lv',g',cm',se',e,en,rf,d0,d1⟩:=Tw o (aK hk);cases e;have a0:=rf.lv0;have b0:=rf.cm0;have c0:=rf.cm1;have nd:(T.t2.map nameOf).Nodup:=(o.part 2 (.inr (.inl rfl))).2.nd;have hu:K1.Zq (.int i) 1 (T.n-cm)=true:=Ym i0 (by omega);have ro:RowOk 2 T.n T.t1 [.str z,s,.int (lv+i),g,.int (cm+i),.int se]:=DH ⟨rf.nm,rf.ends,rf.fs,rf.fg,by omega,by omega,by omega⟩ d0 d1;have ok:OkTb {T with t2:=T.t2.set k [.str z,s,.int (lv+i),g,.int (cm+i),.int se]}:=Lp o (Li (o.part 2 (.inr (.inl rfl))) hk ro rfl);obtain⟨fs,x1,x2,x3,x4,kk,tp,dd⟩:=tel;refine⟨t,_,_,_,_,fs,T.n,prs x1 T.t1,prs x3 T.t3,prs x4 T.t4,x2,T.t2,kk,rfl,Nz o tp dd,.str _ (UA rf.nm),.int _,λhh=>?_,λm y' hm em=>?_⟩
 ·have h2:ZM (.str z) kk.2.1=true:=QH (lens tp).2.1 dd.r hk;rw[h2]at hh;cases hh
 ·have e1:z=nameOf y':=by injection em
  have:=NM nd hm hk e1.symm;subst this;rw[hm]at hk;cases hk;refine⟨lv,cm,rfl,rfl,λh=>(by rw[hu]at h;cases h),λi2 e2 _=>?_⟩;cases e2;exact Eo tp nd hm ro.flat ok (q ok)
end
end WD
namespace SX
open PySem L2 PySem.Spec PyProof.Rows TB WD
structure Fit(T:Tb):Prop where
 a:T.t1.length<=6
 b:T.t2.length<=13
 c:T.t3.length<=13
 d:T.t4.length<=13
theorem Fit.len{T:Tb}(o:OkTb T)(h:Fit T):(allS T).length<=1700:=by have h1:=h.a;have h2:=h.b;have h3:=h.c;have h4:=h.d;have a:=XS (f:=ZX T) (m:=51) (t:=T.t4) λy hy=>NH o hy;have b:=XS (f:=ZK T) (m:=51) (t:=T.t3) λy hy=>GY o hy;have c:=XS (f:=ZJ T) (m:=51) (t:=T.t1) λy hy=>GZ o;unfold allS;simp only[ay,aZ];omega
theorem Mm{W:Wd}{bs:List Str}{s0 s1 s2 s3:Str}(g:GoodW W bs)(st:Strange W bs s0 s1 s2 s3):W.ps.length<=6/\W.rs.length<=12/\W.ws.length<=12/\W.gs.length<=12:=by have c2:=st.r.len;have c3:=st.w.len;have c4:=st.g.len;rw[lm]at c2 c3;exact⟨g.pl.hi,c2,c3,by rw[g.len];exact c4⟩
end SX
namespace WD
open PySem L2 PySem.Spec PyProof.Rows TB
theorem Pw{n:Int}{t1 t2 t3 t4:List (List V)}(n0:1<=n)(n1:n<=50)(p1:Yy 1 n t1 t1)(p2:Yy 2 n t1 t2)(p3:Yy 3 n t1 t3)(p4:Yy 4 n t1 t4):OkTb ⟨n,t1,t2,t3,t4⟩:=⟨n0,n1,λj hj=>by
 rcases hj with rfl|rfl|rfl|rfl
 ·exact p1
 ·exact p2
 ·exact p3
 ·exact p4⟩
theorem Xw{j:Nat}{n:Int}{t1:List (List V)}:Yy j n t1 []:=⟨Nat.zero_le _,fT,λy h=>by simp at h,λ_=>by decide⟩
theorem WE{n:Int}{t1 t t':List (List V)}(h:Yy 3 n t1 t)(s:t'.Sublist t):Yy 3 n t1 t':=by obtain⟨a,nd,row,_⟩:=h;exact⟨Nat.le_trans s.length_le a,(s.map nameOf).nodup nd,λq hq=>row q (s.subset hq),λz=>by cases z⟩
theorem suf9:(codes ".9").length<=3/\(∀c∈codes ".9",c∈LET++K1.FIG++[46])/\codes ".9"=[46,57]/\decide (46∈LET)=false:=by decide +kernel
theorem gnm9{t:Str}(h:Nm t):Z5 true (.str (t++".9"))=true:=by
 obtain⟨c,r,e,hc⟩:=Qs h;obtain⟨h1,h2,h3⟩:=h;obtain⟨s1,s2,_⟩:=suf9;show K1.XO 12 (K1.codes K1.tGROUP) (codes (t++".9"))=true;unfold K1.XO K1.YI K1.lenB;rw[K1.Dk,Y5];simp only[Bool.and_eq_true,decide_eq_true_eq,bZ,ay];refine⟨⟨⟨by omega,by omega⟩,λd hd=>?_⟩,?_⟩
 ·rcases aP.mp hd with hd|hd
  ·exact bp _ (bp _ (h3 d hd))
  ·exact s2 d hd
 ·rw[e];exact hc
theorem F9{t:Str}(h:Nm t):(codes (t++".9")).takeWhile (λc=>decide (c∈LET))=codes t:=by obtain⟨_,_,h3⟩:=h;obtain⟨_,_,e,s3⟩:=suf9;rw[Y5,List.takeWhile_append_of_pos (λc hc=>decide_eq_true (h3 c hc)),e,List.takeWhile_cons_of_neg (by rw[s3];exact Bool.false_ne_true),aT]
theorem HL{bs:List Str}{s:Str}(nm:∀t∈bs,Nm t)(hs:Nm s)(no:s∉bs){z:Str}(h:∃b∈bs,∃x∈sufs,z=b++x):s++".9"≠z:=λe=>by obtain⟨b,hb,x,hx,rfl⟩:=h;have a:=F9 hs;rw[e,Pm (nm b hb) hx]at a;exact no (PN a▸hb)
section
variable {W:Wd}{bs:List Str}{s0 s1 s2 s3:Str}(g:GoodW W bs)(st:Strange W bs s0 s1 s2 s3)
include g st
theorem Xx:OkTb (tbOf W):=(drawn g st).ok
theorem JM:∀p∈W.ps,p.1.length<=1000:=λp hp=>(g.pl.nm p hp).short
theorem HK:OkTb ⟨W.n,W.ps.map plRow,[],W.ws.map wyRow,W.gs.map grRow⟩:=by have o:=Xx g st;exact Pw o.n0 o.n1 (o.part 1 (.inl rfl)) Xw (o.part 3 (.inr (.inr (.inl rfl)))) (o.part 4 (.inr (.inr (.inr rfl))))
theorem HJ:OkTb ⟨W.n,W.ps.map plRow,W.rs.map rdRow,W.ws.map wyRow,[]⟩:=by have o:=Xx g st;exact Pw o.n0 o.n1 (o.part 1 (.inl rfl)) (o.part 2 (.inr (.inl rfl))) (o.part 3 (.inr (.inr (.inl rfl)))) Xw
theorem HF:OkTb ⟨W.n,[],[],[],[]⟩:=by have o:=Xx g st;exact Pw o.n0 o.n1 Xw Xw Xw Xw
theorem HG:OkTb ⟨W.n,(W.ps.map λp=>(p.1,none)).map plRow,[],[],W.gs.map grRow⟩:=by
 have o:=Xx g st;have e1:((W.ps.map λp=>((p.1,none):Str×Option Int)).map plRow).map nameOf=W.ps.map (·.1):=by rw[bI,bI];rfl
 have hi:=g.pl.hi;refine Pw o.n0 o.n1 ⟨by rw[lm,lm];show _<=14;omega,by rw[e1];exact g.pl.nd,λys hy=>?_,λz=>by cases z⟩ Xw Xw ?_
 ·obtain⟨q,hq,rfl⟩:=aq.mp hy;obtain⟨p,hp,rfl⟩:=aq.mp hq;exact Lb (NK (g.pl.nm p hp)) λi e=>by cases e
 ·refine(V2 (λp hp=>?_) st.g.nd st.g.nm st.g.len g.len λi b r h1 h2=>?_).1
  ·obtain⟨q,hq,rfl⟩:=aq.mp hp;exact JM g st q hq
  ·obtain⟨a,⟨x,hx⟩,c,d,e,f⟩:=g.gr i b r h1 h2;exact⟨a,⟨none,aq.mpr ⟨_,hx,rfl⟩⟩,c,d,e,f⟩
theorem HI{a c:Str}{i:Int}{x:Option Int}{lo:Int}(h0:W.ps[0]?=some (a,some i))(h1:W.ps[1]?=some (c,x))(l0:1<=lo)(l1:lo<=50):OkTb ⟨W.n,W.ps.map plRow,W.rs.map rdRow,[[.str s2,.str a,.str c,.int lo,.int 3]],W.gs.map grRow⟩:=by
 have o:=Xx g st;refine Pw o.n0 o.n1 (o.part 1 (.inl rfl)) (o.part 2 (.inr (.inl rfl))) ⟨by show 1<=40;decide,by simp,λys hy=>?_,λz=>by cases z⟩ (o.part 4 (.inr (.inr (.inr rfl))));rw[aQ]at hy;subst hy;have ne:a≠c:=λe=>by have h2:1<W.ps.length:=(aj.mp h1).1;have:=(gL (i:=0) (j:=1) (l:=W.ps.map (·.1)) (by rw[lm];omega) g.pl.nd).mp (by rw[ah,ah,h0,h1];exact congrArg some e);cases this
 exact Es (r:=⟨s2,a,c,lo,3⟩) (JM g st) ⟨⟨⟨i,aK h0⟩,⟨x,aK h1⟩,λe=>ne (by first|exact e|exact e.symm)⟩,l0,l1,(by decide:(0:Int)<=3),(by decide:(3:Int)<=1000)⟩ (NK st.w.snm)
theorem HE{a:Str}{x:Option Int}(ha:(a,x)∈W.ps):OkTb ⟨W.n,W.ps.map plRow,(W.rs.map rdRow).take 1,(W.ws.map wyRow).take 1,W.gs.map grRow++[[.str (s3++".9"),.str a,.int W.n,.int 2]]⟩:=by
 have o:=Xx g st;have n0:=o.n0;obtain⟨⟨len,nd,row,sum⟩,s60,nms⟩:=V2 (n:=W.n) (JM g st) st.g.nd st.g.nm st.g.len g.len g.gr;have l4:=st.g.len;have hn:=g.len;have y:=EI (n:=W.n) (t1:=W.ps.map plRow) (v:=.non) (r:=⟨s3++".9",a,W.n,2⟩) ⟨_,aq.mpr ⟨_,ha,rfl⟩,rfl⟩ (JM g st _ ha) (by show 0<=W.n;have:1<=W.n:=n0;omega) (Int.le_refl _) (by show(0:Int)<=2;decide) (by show(2:Int)<=300;decide) (gnm9 st.g.snm);refine Pw o.n0 o.n1 (o.part 1 (.inl rfl)) (Q8 (o.part 2 (.inr (.inl rfl))) (eS _ _)) (WE (o.part 3 (.inr (.inr (.inl rfl)))) (eS _ _)) ⟨?_,?_,λys hy=>?_,λ_=>?_⟩
 ·rw[ay,lm];show W.gs.length+1<=300;omega
 ·rw[aE,aL,d6,eU];exact⟨nd,by simp,λp hp q hq e=>by rw[aQ]at hq;exact HL st.g.nm st.g.snm st.g.s (nms p hp) (hq.symm.trans e.symm)⟩
 ·rcases aP.mp hy with h|h
  ·exact row _ h
  ·rw[aQ]at h;subst h;exact y
 ·rw[aE,List.sum_append];have:(([[V.str (s3++".9"),.str a,.int W.n,.int 2]]:List (List V)).map Yk).sum=2:=by simp[Yk]
  rw[this];omega
theorem HC{r:Gr}(hr:GoodGr W.n W.ps s3 r):OkTb {tbOf W with t4:=[grRow r]++(W.gs.map grRow).take 1}:=by
 refine HA (Xx g st) ?_;have e:[grRow r]++(W.gs.map grRow).take 1=(r::W.gs.take 1).map grRow:=by rw[aL,List.map_take];rfl
 rw[e];have h12:=st.g.len;refine(V2 (bs:=s3::bs.take 1) (JM g st) (cu.mpr ⟨λh=>st.g.s (dm h),(eS 1 bs).nodup st.g.nd⟩) (λt ht=>?_) (by rw[aN,aw];omega) (by rw[aN,aN,aw,aw,g.len]) λi b q h1 h2=>?_).1
 ·rcases aA.mp ht with rfl|ht
  ·exact st.g.snm
  ·exact st.g.nm t (dm ht)
 ·cases i with
 |zero=>simp at h1 h2;subst h1 h2;exact hr
 |succ i=>
   rw[List.getElem?_cons_succ]at h1 h2;have hi:i<1:=by have:=(aj.mp h1).1;rw[aw]at this;omega
   rw[fh hi]at h1 h2;exact g.gr i b q h1 h2
theorem HB{r:Rd}(hr:GoodRd W.n W.ps r)(hn:r.nm=s1):OkTb {tbOf W with t2:=W.rs.map rdRow++[rdRow r]}:=by
 have li:=drawn g st;refine Lp li.ok (WG (li.ok.part 2 (.inr (.inl rfl))) (Ey (JM g st) hr (by rw[hn];exact NK st.r.snm)) ?_ ?_)
 ·show r.nm∉_;rw[hn];exact li.s
 ·have:=li.len;exact Nat.succ_le_succ this
end
end WD
namespace SX
open PySem L2 PySem.Spec PyProof.Rows TB WD
theorem YW{b:Addr}{H:Hp}:Z6 b H [] []:=⟨rfl,λi x r h=>by simp at h⟩
theorem K7{b:Addr}{H:Hp}{l:Addr}{rows:List (List V)}(h:RowsAt b H l rows){i:Nat}{r:List V}(hr:rows[i]?=some r):∃xs a,H l=some (.lst xs)/\atI xs i=some (.ref a)/\a≠b/\H a=some (.tup r)/\xs.length=rows.length:=by obtain⟨a,na,ha,as,hl,hi,len⟩:=h.at hr;exact⟨_,a,hl,Zr (by rw[ah,hi];rfl),na,ha,by rw[lm,len]⟩
theorem cut0(xs:List V):cutV xs none (some 1)=xs.take 1:=by
 have e:HT.sIx xs.length 0 none=0:=by simp[HT.sIx]
 have e2:HT.sIx xs.length xs.length (some 1)=min 1 xs.length:=by simp[HT.sIx]
 unfold cutV;rw[e,e2,fU,Nat.sub_zero];cases xs with
|nil=>rfl
|cons x xs=>rw[aN,Nat.min_eq_left (by omega)]
theorem K6{b:Addr}{H:Hp}{l:Addr}{rows:List (List V)}(h:RowsAt b H l rows)(hn:0<rows.length):∃xs a,H l=some (.lst xs)/\atI xs (-1)=some (.ref a)/\a≠b/\H a=some (.tup (rows[rows.length-1]'(by omega))):=by
 obtain⟨a,na,ha,as,hl,hi,len⟩:=h.at (i:=rows.length-1) (gE (by omega));refine⟨_,a,hl,?_,na,ha⟩;have:as=as.dropLast++[a]:=by
  have q:=List.dropLast_concat_getLast (l:=as) (by intro z;rw[z]at len;simp at len;omega);rw[List.getLast_eq_getElem]at q;have:as[as.length-1]'(by omega)=a:=by rw[<-len]at hi;exact(aj.mp hi).2
  rw[this]at q;exact q.symm
 rw[this,aE];exact Rw _ _
def QU:Sp:=λvs H Q _=>∃(b pw sd l1 l2 l3 l4:Addr)(W:Wd)(bs:List Str)(s0 s1 s2 s3:Str),vs=[.ref b,.ref pw,.ref sd]/\Zz H b/\WorldAt b H pw W l1 l2 l3 l4/\GoodW W bs/\Strange W bs s0 s1 s2 s3/\sd≠b/\H sd=some (.lst [.str s0,.str s1,.str s2,.str s3]) /\∀H' p m1 m2 m3 m4 T,Zz H' b->Zg b H H'->TbAt b H' p T m1 m2 m3 m4->OkTb T->Fit T->Q (.ref p) H'
section
variable {P:Program}{w:World}{K:aa}{mg:Str->Option Value}{base:Heap}
theorem Yd:FnScope [q_b,q_w,q_s,"_law_turns",q_p,"_law_rides","_law_ways","_law_groups","_law_way_here","_law_long"] [q_b,q_w,q_s] (Zb T.f__law_beside):=scO
noncomputable def Vb:Scope:=csx [(".0",.local),("_law_place",.local),("_law_room",.local)]
theorem UD:CompScope Vb (Zb T.f__law_beside):=⟨rfl,by decide +kernel,by decide +kernel,by decide +kernel⟩
theorem X8:(["_law_place","_law_room"]:List Str).Nodup:=by decide +kernel
theorem UE:CompNames [q_b,q_w,q_s,"_law_turns",q_p,"_law_rides","_law_ways","_law_groups","_law_way_here","_law_long"] Vb ["_law_place","_law_room"] [none,none]:=.mk' (by decide +kernel)
theorem SJ(B:∀x∈Blts,mg x=none)(hmin:mg "min"=none)(CT:Can P w K mg base 1 "_law_take" [q_b,"_law_many"] Xy)(D:Df K mg "_law_beside" T.f__law_beside [q_b,q_w,q_s]):Can P w K mg base 2 "_law_beside" [q_b,q_w,q_s] QU:=by
 refine D.cn Yd λf cdv A outer s H vs Q E hr h=>?_;obtain⟨b,pw,sd,l1,l2,l3,l4,W,bs,s0,s1,s2,s3,rfl,hb,wa,gw,sg,nsd,hsd,kq⟩:=h;refine' ⟨_,(@Ze _ _ _ _ _ ?h35 (@Ze _ _ _ _ _ ?h36 (@Ze _ _ _ _ _ ?h37 (@Ze _ _ _ _ _ ?h38 (@Ze _ _ _ _ _ ?h39 (@Ze _ _ _ _ _ ?h40 (@Ze _ _ _ _ _ ?h41 (@Zi _ _ _ ?h42)))))))),?rd⟩;case' h42=>refine' (Zo ?h34)
 case' h41=>refine' (@ZO _ _ _ _ _ _ _ _ (@Zw _ _ _ _ _ _ _ _ YR (pv 8) Zc (ZC _)) (@Zi _ _ _ ?h28) Zy)
 case' h40=>refine' (@ZO _ _ _ _ _ _ _ _ (@Zw _ _ _ _ _ _ _ _ YR (pv 8) Zc (ZC _)) (@Zi _ _ _ ?h22) Zy)
 case' h39=>refine' (@ZO _ _ _ _ _ _ _ _ (@Zw _ _ _ _ _ _ _ _ YR (pv 8) Zc (ZC _)) (@Ze _ _ _ _ _ ?h17 (@Zi _ _ _ ?h18)) Zy)
 case' h38=>refine' (@ZO _ _ _ _ _ _ _ _ (@Zw _ _ _ _ _ _ _ _ YR (pv 8) Zc (ZC _)) (@Zi _ _ _ ?h6) Zy)
 case' h37=>refine' (@ZO _ _ _ _ _ _ _ _ (@Zw _ _ _ _ _ _ _ _ YR (pv 8) Zc (ZC _)) (@Zi _ _ _ ?h3) Zy)
 case' h36=>refine' (@st _ _ _ _ 8 _ _ Yd.nd (cn CT hr (@pa2 _ _ _ _ _ (pv 0) Zc (by rfl))) (by rfl) (by exact bw rfl) (by rfl) (by exact .inl rfl))
 case' h35=>refine' (Jt (pv 1) (Ma rfl (Zl (nmT 3 Yd.nd) (Zl (nmT 4 Yd.nd) (Zl (nmT 5 Yd.nd) (Zl (nmT 6 Yd.nd) (Zl (nmT 7 Yd.nd) ZL)))))))
 case' h34=>refine' (@ZA _ _ _ _ (@Za _ _ _ _ _ (pv 3) (@Za _ _ _ _ _ (pv 4) (@pa3 _ _ _ _ _ _ _ (YQ (r:=rSlL K) JU (pv 5) Xs (Xr Zc)) (YQ (r:=rSlL K) JU (pv 6) Xs (Xr Zc)) (Zv Uz (pv 7) ?h33) (by rfl)) (by rfl)) (by rfl)))
 case' h33=>refine' (@ZA _ _ _ _ (@pa1 _ _ _ ?h32 (by rfl)))
 case' h32=>refine' (@ZE _ _ _ _ _ (@Za _ _ _ _ _ (Zv JZ ?h31 Zu) (@pa3 _ _ _ _ _ _ _ ?h30 (pv 3) Zc (by rfl)) (by rfl)))
 case' h31=>refine' (@il _ _ _ _ _ _ K (pv 2) Zc (by rfl) (by exact λ_ _=>rfl))
 case' h30=>refine' (@it _ _ _ _ _ _ K ?h29 Zc (by rfl) (by exact λ_ _=>rfl))
 case' h29=>refine' (@il _ _ _ _ _ _ K (pv 4) (EA Kx Zc) (by rfl) (by exact λ_ _=>rfl))
 case' h28=>refine' (Zo ?h27)
 case' h27=>refine' (@ZA _ _ _ _ (@Za _ _ _ _ _ (pv 3) (@Za _ _ _ _ _ ?h26 (@pa3 _ _ _ _ _ _ _ ?h25 ?h24 ?h23 (by rfl)) (by rfl)) (by rfl)))
 case' h26=>refine' (@ZA _ _ _ _ Zf)
 case' h25=>refine' (@ZA _ _ _ _ Zf)
 case' h24=>refine' (@ZA _ _ _ _ Zf)
 case' h23=>refine' (@ZA _ _ _ _ Zf)
 case' h22=>refine' (Zo ?h21)
 case' h21=>refine' (@ZA _ _ _ _ (@Za _ _ _ _ _ (pv 3) (@Za _ _ _ _ _ (Z7 rfl UD UE (Z3 (pv 4)) (λC s H ex pn=>(Y8 (K:=K) (n:=2) rfl rfl (Zl (nmT 0 X8) (Zl (nmT 1 X8) ZL)))) (λC s H ex pn=>ZV) (λC s H ex pn=>(ZE (Za (pv 0) (Za Yc Zf))))) (@pa3 _ _ _ _ _ _ _ ?h20 ?h19 (pv 7) (by rfl)) (by rfl)) (by rfl)))
 case' h20=>refine' (@ZA _ _ _ _ Zf)
 case' h19=>refine' (@ZA _ _ _ _ Zf)
 case' h18=>refine' (Zo ?h16)
 case' h17=>refine' (@st _ _ _ _ 9 _ _ Yd.nd ?h8 (by rfl) (by exact bw rfl) (by rfl) (by exact .inl rfl))
 case' h16=>refine' (@ZA _ _ _ _ (@Za _ _ _ _ _ (pv 3) (@Za _ _ _ _ _ (pv 4) (@pa3 _ _ _ _ _ _ _ (pv 5) ?h15 (pv 7) (by rfl)) (by rfl)) (by rfl)))
 case' h15=>refine' (@ZA _ _ _ _ (@pa1 _ _ _ ?h14 (by rfl)))
 case' h14=>refine' (@ZE _ _ _ _ _ (@Za _ _ _ _ _ ?h13 (@Za _ _ _ _ _ ?h12 (@pa3 _ _ _ _ _ _ _ ?h10 (pv 9) Zc (by rfl)) (by rfl)) (by rfl)))
 case' h13=>refine' (@il _ _ _ _ _ _ K (pv 2) Zc (by rfl) (by exact λ_ _=>rfl))
 case' h12=>refine' (@it _ _ _ _ _ _ K ?h11 Zc (by rfl) (by exact λ_ _=>rfl))
 case' h11=>refine' (@il _ _ _ _ _ _ K (pv 4) Zc (by rfl) (by exact λ_ _=>rfl))
 case' h10=>refine' (@it _ _ _ _ _ _ K ?h9 Zc (by rfl) (by exact λ_ _=>rfl))
 case' h9=>refine' (@il _ _ _ _ _ _ K (pv 4) Zc (by rfl) (by exact λ_ _=>rfl))
 case' h8=>refine' (@il _ _ _ _ _ _ K ?h7 (cn CT hr (@pa2 _ _ _ _ _ (pv 0) Zc (by rfl))) (by rfl) (by exact λ_ _=>rfl))
 case' h7=>refine' (@ZA _ _ _ _ (@pa2 _ _ _ _ _ (pv 3) (ZG (Kj rfl) rfl hmin PyProof.Rows.boot_min (@pa2 _ _ _ _ _ Zc (Zv ZT (pv 3) Zc) (by rfl))) (by rfl)))
 case' h6=>refine' (Zo ?h5)
 case' h5=>refine' (@ZA _ _ _ _ (@Za _ _ _ _ _ (pv 3) (@Za _ _ _ _ _ (pv 4) (@pa3 _ _ _ _ _ _ _ (pv 5) (pv 6) ?h4 (by rfl)) (by rfl)) (by rfl)))
 case' h4=>refine' (@ZA _ _ _ _ Zf)
 case' h3=>refine' (Zo ?h2)
 case' h2=>refine' (@ZA _ _ _ _ (@Za _ _ _ _ _ (pv 3) (@Za _ _ _ _ _ (pv 4) (@pa3 _ _ _ _ _ _ _ ?h1 (pv 6) (pv 7) (by rfl)) (by rfl)) (by rfl)))
 case' h1=>refine' (@ZA _ _ _ _ Zf)
 have tb:=wa.tb;have od:=Xx gw sg;obtain⟨f1,f2,f3,f4⟩:=Mm gw sg;have lp:(W.ps.map plRow).length<=6:=by rw[lm];exact f1
 have lr:(W.rs.map rdRow).length<=12:=by rw[lm];exact f2
 have lw:(W.ws.map wyRow).length<=12:=by rw[lm];exact f3
 have lg:(W.gs.map grRow).length<=12:=by rw[lm];exact f4
 have lr':=Nat.le_trans lr (by decide:12<=13);have lw':=Nat.le_trans lw (by decide:12<=13);have lg':=Nat.le_trans lg (by decide:12<=13);refine⟨_,rfl,pw,_,rfl,SqL.of wa.at_,rfl,_,_,rfl,_,_,rfl,_,_,rfl,_,_,rfl,_,_,rfl,rfl,?_⟩;refine tkC hb (λr H1 h0 h1 B1 S1=>?_);have tb1:=tb.same S1;refine⟨_,rfl,rfl,_,rfl,?_⟩;have fin:∀{H':Hp}{t1 t2 t3 t4:List (List V)}{m1 m2 m3 m4:Addr},Zz H' b->Zg b H H'->RowsAt b H' m1 t1->RowsAt b H' m2 t2->RowsAt b H' m3 t3->RowsAt b H' m4 t4->OkTb ⟨W.n,t1,t2,t3,t4⟩->t1.length<=6->t2.length<=13->t3.length<=13->t4.length<=13->∀q,H' q=none->Q (.ref q) (upd H' q (.lst [.int W.n,.ref m1,.ref m2,.ref m3,.ref m4])):=λ{H' t1 t2 t3 t4 m1 m2 m3 m4}B' S' r1 r2 r3 r4 o' a1 a2 a3 a4 q hq=>by have S9:=(Zg.refl b H').new' (o:=.lst [.int W.n,.ref m1,.ref m2,.ref m3,.ref m4]) hq;exact kq _ q m1 m2 m3 m4 ⟨W.n,t1,t2,t3,t4⟩ (B'.new hq) (S'.trans S9) ⟨B'.ne hq,Zd,r1.same S9,r2.same S9,r3.same S9,r4.same S9⟩ o' ⟨a1,a2,a3,a4⟩
 refine YS (λe=>?_) (λe=>?_)
 ·refine⟨_,rfl,_,rfl,zl,λc1 hc1=>?_⟩;refine al2 B1 hc1 λH2 B2 S2 e2 n2=>?_;have tb2:=tb1.same S2;exact⟨_,rfl,_,rfl,zl,λq hq=>fin B2 (S1.trans S2) tb2.pl (YW.lst n2 e2) tb2.wy tb2.gr (HK gw sg) lp (Nat.zero_le _) lw' lg' q hq⟩
 refine⟨_,rfl,rfl,_,rfl,?_⟩;refine YS (λe=>?_) (λe=>?_)
 ·refine⟨_,rfl,_,rfl,_,rfl,_,rfl,zl,λc1 hc1=>?_⟩;refine al2 B1 hc1 λH2 B2 S2 e2 n2=>?_;have tb2:=tb1.same S2;exact⟨zl,λq hq=>fin B2 (S1.trans S2) tb2.pl tb2.rd tb2.wy (YW.lst n2 e2) (HJ gw sg) lp lr' lw' (Nat.zero_le _) q hq⟩
 refine⟨_,rfl,rfl,_,rfl,?_⟩;refine YS (λe=>?_) (λe=>?_)
 ·have n0:=od.n0;have n1:=od.n1;have n0':1<=W.n:=n0;have n1':W.n<=50:=n1;refine⟨_,rfl,_,rfl,_,_,rfl,rfl,_,_,rfl,zl,λc1 hc1=>?_⟩;try dsimp only[tNil]
  refine al2 B1 hc1 λH2 B2 S2 e2 n2=>?_;refine tkC B2 (λr2 H3 g0 g1 B3 S3=>?_);have hlo:∃lo,atI [V.int W.n,.int (if W.n+1<50 then W.n+1 else 50)] r2=some (.int lo)/\1<=lo/\lo<=50:=by
   rcases(by omega:r2=0\/r2=1)with rfl|rfl
   ·exact⟨W.n,Zr (j:=0) rfl,n0',n1'⟩
   ·refine⟨_,Zr (j:=1) rfl,?_,?_⟩<;>split<;>omega
  obtain⟨lo,hat,l0,l50⟩:=hlo;refine⟨c1,_,r2,_,rfl,rfl,SqL.of (S3 _ _ e2 n2),hat,?_⟩;have S03:=S1.trans (S2.trans S3);have tb3:=tb.same S03;obtain⟨a,i,ea⟩:=gw.pl.frs;have h3:=gw.pl.lo;have ec:W.ps[1]?=some W.ps[1]:=gE (by omega);obtain⟨xs0,a0,hl0,at0,na0,ha0,_⟩:=K7 tb3.pl (i:=0) (r:=plRow (a,some i)) (by show(W.ps.map plRow)[0]?=_;rw[ah,ea];rfl);obtain⟨xs1,a1,hl1,at1,na1,ha1,_⟩:=K7 tb3.pl (i:=1) (r:=plRow W.ps[1]) (by show(W.ps.map plRow)[1]?=_;rw[ah,ec];rfl);have hsd3:=S03 _ _ hsd nsd;refine⟨_,rfl,_,rfl,_,rfl,ixL 2 hsd3 rfl (iaL hl0 at0 ⟨a0,_,0,_,rfl,rfl,SqT.of ha0,Zr (j:=0) rfl,iaL hl1 at1 ⟨a1,_,0,_,rfl,rfl,SqT.of ha1,Zr (j:=0) rfl,_,rfl,zl,λc2 hc2=>?_⟩⟩)⟩;refine al2 B3 hc2 λH4 B4 S4 e4 n4=>?_;refine⟨zl,λc3 hc3=>?_⟩;refine al2 B4 hc3 λH5 B5 S5 e5 n5=>?_;have S05:=S03.trans (S4.trans S5);have tb5:=tb.same S05;exact⟨_,rfl,zl,λq hq=>fin B5 S05 tb5.pl tb5.rd ((Z6.one n4 (S5 _ _ e4 n4)).lst n5 e5) tb5.gr (HI gw sg ea ec l0 l50) lp lr' (by show 1<=13;decide) lg' q hq⟩
 refine⟨_,rfl,rfl,_,rfl,?_⟩;refine YS (λe=>?_) (λe=>?_)
 ·refine⟨_,rfl,_,rfl,l1,rfl,⟨_,SqL.of tb1.pl.2.choose_spec.1⟩,?_⟩;refine ZI (J:=Itl K l1) (W.ps.map plRow).length (Nat.le_trans lp (by decide)) (λi ys τ H'=>Zz H' b/\Zg b H1 H'/\Z6 b H' ys (((W.ps.take i).map λp=>((p.1,none):Str×Option Int)).map plRow)/\∃o1 o2,τ=[o1,o2]) ⟨B1,Zg.refl _ _,YW,_,_,rfl⟩ (λi ys τ H' p=>by rw[p.2.2.1.1,lm,lm,aw];omega) (λi ys τ H' hi p=>(tb1.pl.same p.2.1).go hi) (λys τ H' p=>(tb1.pl.same p.2.1).stop) (λi ys τ H' x H2 hi p yl=>?_) (λys τ H2 p lc hlc=>?_)
  ·obtain⟨bx,sm,its,o1,o2,rfl⟩:=p;have hi':i<W.ps.length:=by simpa using hi
   have e0:W.ps[i]?=some W.ps[i]:=gE hi';obtain⟨rfl,a,rfl,na,ha⟩:=(tb1.pl.same sm).item (r:=plRow W.ps[i]) (by show(W.ps.map plRow)[i]?=_;rw[ah,e0];rfl) yl;refine⟨a,_,rfl,SqT.of ha,rfl,_,_,rfl,_,_,rfl,rfl,_,rfl,zl,λc hc=>?_⟩;refine⟨bx.new hc,sm.new' hc,?_,_,_,rfl⟩;rw[aV,e0,aE,aE];exact(its.same ((Zg.refl b _).new' hc)).app (Z6.one (bx.ne hc) Zd)
  obtain⟨bx,sm,its,_⟩:=p;rw[show W.ps.take (W.ps.map plRow).length=W.ps from by rw[lm,aF]]at its;refine al2 bx hlc λH3 B3 S3 e3 n3=>?_;refine⟨zl,λc1 hc1=>?_⟩;refine al2 B3 hc1 λH4 B4 S4 e4 n4=>?_;refine⟨zl,λc2 hc2=>?_⟩;refine al2 B4 hc2 λH5 B5 S5 e5 n5=>?_;have S35:=S4.trans S5;have S05:=S1.trans (sm.trans (S3.trans S35));have tb5:=tb.same S05;exact⟨_,rfl,zl,λq hq=>fin B5 S05 ((its.same (S3.trans S35)).lst n3 (S35 _ _ e3 n3)) (YW.lst n4 (S5 _ _ e4 n4)) (YW.lst n5 e5) tb5.gr (HG gw sg) (by rw[lm,lm];exact f1) (Nat.zero_le _) (Nat.zero_le _) lg' q hq⟩
 refine⟨_,rfl,rfl,_,rfl,?_⟩;refine YS (λe=>?_) (λe=>?_)
 ·refine⟨_,rfl,zl,λc1 hc1=>?_⟩;refine al2 B1 hc1 λH2 B2 S2 e2 n2=>?_;refine⟨zl,λc2 hc2=>?_⟩;refine al2 B2 hc2 λH3 B3 S3 e3 n3=>?_;refine⟨zl,λc3 hc3=>?_⟩;refine al2 B3 hc3 λH4 B4 S4 e4 n4=>?_;refine⟨zl,λc4 hc4=>?_⟩;refine al2 B4 hc4 λH5 B5 S5 e5 n5=>?_;have S35:=S4.trans S5;exact⟨zl,λq hq=>fin B5 (S1.trans (S2.trans (S3.trans S35))) (YW.lst n2 ((S3.trans S35) _ _ e2 n2)) (YW.lst n3 (S35 _ _ e3 n3)) (YW.lst n4 (S5 _ _ e4 n4)) (YW.lst n5 e5) (HF gw sg) (Nat.zero_le _) (Nat.zero_le _) (Nat.zero_le _) (Nat.zero_le _) q hq⟩
 obtain⟨x2,k2,i2⟩:=tb1.rd.its;obtain⟨x3,k3,i3⟩:=tb1.wy.its;obtain⟨x4,k4,i4⟩:=tb1.gr.its;refine⟨_,rfl,_,rfl,_,rfl,_,rfl,l2,_,rfl,SqL.of k2,λc1 hc1=>?_⟩;rw[cut0];refine al2 B1 hc1 λH2 B2 S2 e2 n2=>?_;refine⟨_,rfl,_,rfl,l3,_,rfl,SqL.of (S2 _ _ k3 tb1.wy.1),λc2 hc2=>?_⟩;rw[cut0];refine al2 B2 hc2 λH3 B3 S3 e3 n3=>?_;have S13:=S2.trans S3;have S03:=S1.trans S13;have tb3:=tb.same S03;have h3:=gw.pl.lo;obtain⟨xs,a,hl,atl,na,ha⟩:=K6 tb3.pl (by show 0<(W.ps.map plRow).length;rw[lm];omega);obtain⟨z,x,hzx,ha⟩:∃z x,(z,x)∈W.ps/\H3 a=some (.tup [.str z,Yx x]):=by have q:(tbOf W).t1[(tbOf W).t1.length-1]'(by show _<(W.ps.map plRow).length;show(W.ps.map plRow).length-1<_;rw[lm];omega)∈W.ps.map plRow:=aG _;obtain⟨p,hp,e⟩:=aq.mp q;rw[<-e]at ha;exact⟨p.1,p.2,hp,ha⟩
 have hsd3:=S03 _ _ hsd nsd;refine⟨_,rfl,ixL 3 hsd3 rfl ⟨s3,".9",rfl,rfl,Nat.le_trans (Nat.add_le_add sg.g.snm.short (by decide:((".9":Str).length)<=2)) (by decide),_,rfl,_,rfl,l1,xs,-1,_,rfl,rfl,SqL.of hl,atl,a,_,0,_,rfl,rfl,SqT.of ha,Zr (j:=0) rfl,_,rfl,zl,λc3 hc3=>?_⟩⟩;refine al2 B3 hc3 λH4 B4 S4 e4 n4=>?_;refine⟨zl,λc4 hc4=>?_⟩;refine al2 B4 hc4 λH5 B5 S5 e5 n5=>?_;have S35:=S4.trans S5;have k5:=(S13.trans S35) _ _ k4 tb1.gr.1;have x4l:x4.length<=12:=by rw[i4.1];exact lg
 refine⟨l4,c4,x4,_,rfl,rfl,k5,e5,Nat.le_trans (Nat.add_le_add x4l (Nat.le_refl 1)) (by decide),λc5 hc5=>?_⟩;refine al2 B5 hc5 λH6 B6 S6 e6 n6=>?_;have S36:=S35.trans S6;have S16:=S13.trans S36;have S06:=S1.trans S16;have tb6:=tb.same S06;exact⟨zl,λq hq=>fin B6 S06 tb6.pl (((i2.take 1).same S16).lst n2 ((S3.trans S36) _ _ e2 n2)) (((i3.take 1).same S16).lst n3 (S36 _ _ e3 n3)) (((i4.same S16).app (Z6.one n4 ((S5.trans S6) _ _ e4 n4))).lst n6 e6) (HE gw sg hzx) lp (by rw[aw];omega) (by rw[aw];omega) (by rw[ay];exact Nat.succ_le_succ lg) q hq⟩
end
end SX
namespace L2
open PySem PySem.Spec PyProof.Rows
theorem LH{c:TT}{a n:TS}{D:Ends}{σ:St}{H:Hp}(R:Hp->Prop)(hR:∀H',R H'->a D σ H')(h:∀a':TS,(∀H',R H'->a' D σ H')->tIfS c a' n D σ H):tIfS c a n D σ H:=h a hR
end L2
namespace SX
open PySem L2 PySem.Spec PyProof.Rows TB WD
def Tp(c:Cs):Sp:=λvs H Q _=>∃(b t pw sd l1 l2 l3 l4:Addr)(W:Wd)(bs:List Str)(s0 s1 s2 s3:Str),vs=[.ref b,.ref t,.ref pw,.ref sd]/\Zz H b/\Tel H c.C t (tbOf W)/\WorldAt b H pw W l1 l2 l3 l4/\GoodW W bs/\Strange W bs s0 s1 s2 s3/\sd≠b/\H sd=some (.lst [.str s0,.str s1,.str s2,.str s3]) /\∀H' q t' p m1 m2 m3 m4 T,Zz H' b->Zg b H H'->H' q=some (.lst [.ref t',.ref p])->Tel H' c.C t' T->TbAt b H' p T m1 m2 m3 m4->OkTb T->Fit T->Q (.ref q) H'
theorem Lj{H:Hp}{l:Addr}{xs:List V}{t:List (List V)}(e:H l=some (.lst xs))(r:ZZ H xs (t.map some)):Yz H (.ref l) (prs xs t):=⟨⟨l,rfl,.inl e⟩,r⟩
theorem Nn{H:Hp}{C t:Addr}{T:Tb}(h:Tel H C t T):∃dx fs,H t=some (.ins C dx fs)/\∀g,g∉fields->fs.lookup g=none:=by obtain⟨fs,x1,x2,x3,x4,k,tp,d⟩:=h;obtain⟨dx,e⟩:=tp.tab.tab.at_;exact⟨dx,fs,e,tp.tab.tab.only⟩
theorem MX{xs:List V}(h:RowG xs):cM (rowD xs)=true:=by unfold cM;rw[Qn h,Bool.true_and];exact decide_eq_true (Nat.le_trans (K5 h).dp (by decide))
theorem Tv{xs ys:List V}(h:RowG xs)(hx:at_ xs 0=.str (nameOf xs))(hy:at_ ys 0=.str (nameOf ys))(one:nameOf xs=nameOf ys->xs=ys):PyData.eqv (rowD xs) (rowD ys)=decide (nameOf xs=nameOf ys):=by
 by_cases e:nameOf xs=nameOf ys
 ·rw[decide_eq_true e,<-one e];exact SeqAt.eqv_refl _ (Qn h)
 ·rw[decide_eq_false e];generalize nameOf xs=a at hx e;generalize nameOf ys=c at hy e;cases xs with
 |nil=>cases hx
 |cons x xs=>
   cases ys with
  |nil=>cases hy
  |cons y ys=>have hx:x=.str a:=hx;have hy:y=.str c:=hy;subst hx hy;show PyData.eqv (.tuple (.str a::xs.map dF)) (.tuple (.str c::ys.map dF))=false;simp[PyData.eqv,PyData.eqvAll,e]
theorem Wi{bits:Int}(h:0<=bits)(i:Nat):bg (bits / 2 ^ i) 1=0↔bg bits (1*2 ^ i)=0:=by rw[Wj h i];have q:=Wj (bits:=bits / 2 ^ i) (Int.ediv_nonneg h (Int.le_of_lt (Int.pow_pos (by decide)))) 0;simpa using q
theorem V1{ps:Pl}{i:Nat}(hi:i<ps.length):Zx (ps.take (i+1))=Zx (ps.take i)++(if ps[i].2.isNone then[ps[i].1]else[]):=by unfold Zx;rw[aV,gE hi,eG,aE];congr 1;cases hn:ps[i].2.isNone<;>simp[hn]
section
variable {P:Program}{w:World}{K:aa}{mg:Str->Option Value}{base:Heap}{c:Cs}{Cn Ct Ch:Addr}
theorem Zt:FnScope [q_b,q_t,q_w,q_s,"_law_turns",q_p,"_law_rides","_law_ways","_law_groups","_law_way_here","_law_bits","_law_homes","_law_shut","_law_other","_law_rows","_law_row","_law_left","_law_moved","_law_later"] [q_b,q_t,q_w,q_s] (Zb T.f__law_otherwise):=scO
noncomputable def X6:Scope:=csx [(".0",.local),("_law_place",.local),("_law_room",.local)]
theorem Vs:CompScope X6 (Zb T.f__law_otherwise):=⟨rfl,by decide +kernel,by decide +kernel,by decide +kernel⟩
theorem Xf:(["_law_place","_law_room"]:List Str).Nodup:=by decide +kernel
theorem Vt:CompNames [q_b,q_t,q_w,q_s,"_law_turns",q_p,"_law_rides","_law_ways","_law_groups","_law_way_here","_law_bits","_law_homes","_law_shut","_law_other","_law_rows","_law_row","_law_left","_law_moved","_law_later"] X6 ["_law_place","_law_room"] [none,none]:=.mk' (by decide +kernel)
noncomputable def Y0:Scope:=csx [(".0",.local),("_law_place",.local),("_law_room",.local)]
theorem Vq:CompScope Y0 (Zb T.f__law_otherwise):=⟨rfl,by decide +kernel,by decide +kernel,by decide +kernel⟩
theorem Xe:(["_law_place","_law_room"]:List Str).Nodup:=by decide +kernel
theorem Vr:CompNames [q_b,q_t,q_w,q_s,"_law_turns",q_p,"_law_rides","_law_ways","_law_groups","_law_way_here","_law_bits","_law_homes","_law_shut","_law_other","_law_rows","_law_row","_law_left","_law_moved","_law_later"] Y0 ["_law_place","_law_room"] [none,none]:=.mk' (by decide +kernel)
noncomputable def X5:Scope:=csx [(".0",.local),("_law_k",.local),("_law_place",.local),("_law_bits",.free)]
theorem Vo:CompScope X5 (Zb T.f__law_otherwise):=⟨rfl,by decide +kernel,by decide +kernel,by decide +kernel⟩
theorem Xd:(["_law_k","_law_place","_law_bits"]:List Str).Nodup:=by decide +kernel
theorem Vp:CompNames [q_b,q_t,q_w,q_s,"_law_turns",q_p,"_law_rides","_law_ways","_law_groups","_law_way_here","_law_bits","_law_homes","_law_shut","_law_other","_law_rows","_law_row","_law_left","_law_moved","_law_later"] X5 ["_law_k","_law_place","_law_bits"] [none,none,some 10]:=.mk' (by decide +kernel)
noncomputable def YZ:Scope:=csx [(".0",.local),("_law_place",.local),("_law_room",.local),("_law_shut",.free)]
theorem Vm:CompScope YZ (Zb T.f__law_otherwise):=⟨rfl,by decide +kernel,by decide +kernel,by decide +kernel⟩
theorem Xb:(["_law_place","_law_room","_law_shut"]:List Str).Nodup:=by decide +kernel
theorem Vn:CompNames [q_b,q_t,q_w,q_s,"_law_turns",q_p,"_law_rides","_law_ways","_law_groups","_law_way_here","_law_bits","_law_homes","_law_shut","_law_other","_law_rows","_law_row","_law_left","_law_moved","_law_later"] YZ ["_law_place","_law_room","_law_shut"] [none,none,some 12]:=.mk' (by decide +kernel)
noncomputable def YY:Scope:=csx [(".0",.local),("_law_other",.local),("_law_row",.free)]
theorem Vj:CompScope YY (Zb T.f__law_otherwise):=⟨rfl,by decide +kernel,by decide +kernel,by decide +kernel⟩
theorem Vl:(["_law_other","_law_row"]:List Str).Nodup:=by decide +kernel
theorem Vk:CompNames [q_b,q_t,q_w,q_s,"_law_turns",q_p,"_law_rides","_law_ways","_law_groups","_law_way_here","_law_bits","_law_homes","_law_shut","_law_other","_law_rows","_law_row","_law_left","_law_moved","_law_later"] YY ["_law_other","_law_row"] [none,some 15]:=.mk' (by decide +kernel)
noncomputable def YX:Scope:=csx [(".0",.local),("_law_other",.local),("_law_moved",.free),("_law_row",.free)]
theorem Vg:CompScope YX (Zb T.f__law_otherwise):=⟨rfl,by decide +kernel,by decide +kernel,by decide +kernel⟩
theorem Vi:(["_law_other","_law_moved","_law_row"]:List Str).Nodup:=by decide +kernel
theorem Vh:CompNames [q_b,q_t,q_w,q_s,"_law_turns",q_p,"_law_rides","_law_ways","_law_groups","_law_way_here","_law_bits","_law_homes","_law_shut","_law_other","_law_rows","_law_row","_law_left","_law_moved","_law_later"] YX ["_law_other","_law_moved","_law_row"] [none,some 17,some 15]:=.mk' (by decide +kernel)
theorem Kc(B:∀x∈Blts,mg x=none)(Z:TCl K c.C)(CT:Can P w K mg base 1 "_law_take" [q_b,"_law_many"] Xy)(CR:Can P w K mg base 3 "_law_ride" [q_b,"_law_name","_law_turns",q_p] P9)(CG:Can P w K mg base 2 "_law_group" [q_b,"_law_name","_law_turns",q_p] Nu)(M1:CanM P w K mg base (CX1 P w) 9 c.C "with_homes" ["self","bits"] (Vw c.C c.Cb Ch))(M2:CanM P w K mg base (CX1 P w) 9 c.C "with_groups" ["self","rows"] (JT c.C c.Cb))(M3:CanM P w K mg base (CX1 P w) 10 c.C "with_ride" ["self","row"] (Uu c.C c.Cb))(M4:CanM P w K mg base (CX1 P w) 10 c.C "without_ride" ["self","name"] (G4 c.C c.Cb Cn))(M5:CanM P w K mg base (CX1 P w) 11 c.C "with_later" ["self","name","by"] (Vv c.C c.Cb Cn Ct))(D:Df K mg "_law_otherwise" T.f__law_otherwise [q_b,q_t,q_w,q_s]):Can P w K mg base 12 "_law_otherwise" [q_b,q_t,q_w,q_s] (Tp c):=by
 refine D.cn Zt λf cdv A outer s H vs Q E hr h=>?_;obtain⟨b,t,pw,sd,l1,l2,l3,l4,W,bs,s0,s1,s2,s3,rfl,hb,tel,wa,gw,sg,nsd,hsd,kq⟩:=h;refine' ⟨_,(@Ze _ _ _ _ _ ?h38 (@Ze _ _ _ _ _ ?h39 (@Ze _ _ _ _ _ ?h40 (@Ze _ _ _ _ _ ?h41 (@Ze _ _ _ _ _ ?h42 (@Ze _ _ _ _ _ ?h43 (@Ze _ _ _ _ _ ?h44 (@Ze _ _ _ _ _ ?h45 (@Ze _ _ _ _ _ ?h46 (@Zi _ _ _ ?h47)))))))))),?rd⟩;case' h47=>refine' (Zo ?h37)
 case' h46=>refine' (YD (i:=18) Zt.nd rfl (bw rfl) (scope:=YX) (N:=["_law_other","_law_moved","_law_row"]) (cp:=[none,some 17,some 15]) rfl Vg Vh (Z3 (pv 6)) (λC s H ex pn=>(nmT 0 Vi)) (λC s H ex pn=>ZV) (λC s H ex pn=>(VE (Zw (Fd hr.units) (pv 0) (pv 2) (ZC _)) (pv 1) (pv 0))))
 case' h45=>refine' (Z9 (i:=17) Zt.nd rfl (cQ rfl) ?h34)
 case' h44=>refine' (@ZO _ _ _ _ _ _ _ _ (PW.pt (JH (@Zw _ _ _ _ _ _ _ _ YR (pv 9) Zc (ZC _)) (Xj (@Zw _ _ _ _ _ _ _ _ YR ?h22 (pv 4) (ZC _))))) (@Ze _ _ _ _ _ ?h26 (@Zi _ _ _ ?h27)) Zy)
 case' h43=>refine' (Z9 (i:=15) Zt.nd rfl (cQ rfl) ?h21)
 case' h42=>refine' (@ZO _ _ _ _ _ _ _ _ (PW.pt (JH (@Zw _ _ _ _ _ _ _ _ YR (pv 9) Zc (ZC _)) (Xj (@Zw _ _ _ _ _ _ _ _ (Ln hr.units) (pv 6) ?h14 (ZC _))))) (@Ze _ _ _ _ _ ?h19 (@Zi _ _ _ ?h20)) Zy)
 case' h41=>refine' (@ZO _ _ _ _ _ _ _ _ (@Zw _ _ _ _ _ _ _ _ YR (pv 9) Zc (ZC _)) (@Ze _ _ _ _ _ ?h12 (@Zi _ _ _ ?h13)) Zy)
 case' h40=>refine' (@ZO _ _ _ _ _ _ _ _ (@Zw _ _ _ _ _ _ _ _ YR (pv 9) Zc (ZC _)) (@Ze _ _ _ _ _ ?h3 (@Ze _ _ _ _ _ ?h4 (@Ze _ _ _ _ _ ?h5 (@Ze _ _ _ _ _ ?h6 (@Zi _ _ _ ?h7))))) Zy)
 case' h39=>refine' (@st _ _ _ _ 9 _ _ Zt.nd (cn CT hr (@pa2 _ _ _ _ _ (pv 0) Zc (by rfl))) (by rfl) (by exact bw rfl) (by rfl) (by exact .inl rfl))
 case' h38=>refine' (Jt (pv 2) (Ma rfl (Zl (nmT 4 Zt.nd) (Zl (nmT 5 Zt.nd) (Zl (nmT 6 Zt.nd) (Zl (nmT 7 Zt.nd) (Zl (nmT 8 Zt.nd) ZL)))))))
 case' h37=>refine' (@ZA _ _ _ _ (@pa2 _ _ _ _ _ (Z4 M5 Z.cl Md hr.m (pv 1) (@pa2 _ _ _ _ _ ?h36 Zc (by rfl))) ?h35 (by rfl)))
 case' h36=>refine' (@it _ _ _ _ _ _ K (pv 15) Zc (by rfl) (by exact λ_ _=>rfl))
 case' h35=>refine' (@ZA _ _ _ _ (@Za _ _ _ _ _ (pv 4) (@Za _ _ _ _ _ (pv 5) (@pa3 _ _ _ _ _ _ _ (pv 18) (pv 7) (pv 8) (by rfl)) (by rfl)) (by rfl)))
 case' h34=>refine' (@ZE _ _ _ _ _ (@Za _ _ _ _ _ ?h33 (@Za _ _ _ _ _ ?h32 (@Za _ _ _ _ _ (Zv ZT ?h31 Zc) (@pa3 _ _ _ _ _ _ _ ?h30 (Zv ZT ?h29 Zc) ?h28 (by rfl)) (by rfl)) (by rfl)) (by rfl)))
 case' h33=>refine' (@it _ _ _ _ _ _ K (pv 15) Zc (by rfl) (by exact λ_ _=>rfl))
 case' h32=>refine' (@it _ _ _ _ _ _ K (pv 15) Zc (by rfl) (by exact λ_ _=>rfl))
 case' h31=>refine' (@it _ _ _ _ _ _ K (pv 15) Zc (by rfl) (by exact λ_ _=>rfl))
 case' h30=>refine' (@it _ _ _ _ _ _ K (pv 15) Zc (by rfl) (by exact λ_ _=>rfl))
 case' h29=>refine' (@it _ _ _ _ _ _ K (pv 15) Zc (by rfl) (by exact λ_ _=>rfl))
 case' h28=>refine' (@it _ _ _ _ _ _ K (pv 15) Zc (by rfl) (by exact λ_ _=>rfl))
 case' h27=>refine' (Zo ?h25)
 case' h26=>refine' (YD (i:=16) Zt.nd rfl (bw rfl) (scope:=YY) (N:=["_law_other","_law_row"]) (cp:=[none,some 15]) rfl Vj Vk (Z3 (pv 6)) (λC s H ex pn=>(nmT 0 Vl)) (λC s H ex pn=>(Xq (Zw (R5 hr.units) (pv 0) (pv 1) (ZC _)))) (λC s H ex pn=>(pv 0)))
 case' h25=>refine' (@ZA _ _ _ _ (@pa2 _ _ _ _ _ (Z4 M4 Z.cl Md hr.m (pv 1) (@pa1 _ _ _ ?h24 (by rfl))) ?h23 (by rfl)))
 case' h24=>refine' (@it _ _ _ _ _ _ K (pv 15) Zc (by rfl) (by exact λ_ _=>rfl))
 case' h23=>refine' (@ZA _ _ _ _ (@Za _ _ _ _ _ (pv 4) (@Za _ _ _ _ _ (pv 5) (@pa3 _ _ _ _ _ _ _ (pv 16) (pv 7) (pv 8) (by rfl)) (by rfl)) (by rfl)))
 case' h22=>refine' (@it _ _ _ _ _ _ K (pv 15) Zc (by rfl) (by exact λ_ _=>rfl))
 case' h21=>refine' (@il _ _ _ _ _ _ K (pv 6) (cn CT hr (@pa2 _ _ _ _ _ (pv 0) (ZG (r:=rLen K) YB rfl (bm B) bC (@pa1 _ _ _ (pv 6) (by rfl))) (by rfl))) (by rfl) (by exact λ_ _=>rfl))
 case' h20=>refine' (Zo ?h18)
 case' h19=>refine' (Z9 (i:=15) Zt.nd rfl (cQ rfl) (cn CR hr (@Za _ _ _ _ _ (pv 0) (@pa3 _ _ _ _ _ _ _ ?h15 (pv 4) (pv 5) (by rfl)) (by rfl))))
 case' h18=>refine' (@ZA _ _ _ _ (@pa2 _ _ _ _ _ (Z4 M3 Z.cl Md hr.m (pv 1) (@pa1 _ _ _ (pv 15) (by rfl))) ?h17 (by rfl)))
 case' h17=>refine' (@ZA _ _ _ _ (@Za _ _ _ _ _ (pv 4) (@Za _ _ _ _ _ (pv 5) (@pa3 _ _ _ _ _ _ _ (Zv Uz (pv 6) ?h16) (pv 7) (pv 8) (by rfl)) (by rfl)) (by rfl)))
 case' h16=>refine' (@ZA _ _ _ _ (@pa1 _ _ _ (pv 15) (by rfl)))
 case' h15=>refine' (@il _ _ _ _ _ _ K (pv 3) Zc (by rfl) (by exact λ_ _=>rfl))
 case' h14=>refine' (@ZA _ _ _ _ Zf)
 case' h13=>refine' (Zo ?h11)
 case' h12=>refine' (@st _ _ _ _ 14 _ _ Zt.nd (Zv Uz ?h9 (YQ (r:=rSlL K) JU (pv 8) Xs (Xr Zc))) (by rfl) (by exact bw rfl) (by rfl) (by exact .inl rfl))
 case' h11=>refine' (@ZA _ _ _ _ (@pa2 _ _ _ _ _ (Z4 M2 Z.cl Md hr.m (pv 1) (@pa1 _ _ _ (pv 14) (by rfl))) ?h10 (by rfl)))
 case' h10=>refine' (@ZA _ _ _ _ (@Za _ _ _ _ _ (pv 4) (@Za _ _ _ _ _ (pv 5) (@pa3 _ _ _ _ _ _ _ (pv 6) (pv 7) (pv 14) (by rfl)) (by rfl)) (by rfl)))
 case' h9=>refine' (@ZA _ _ _ _ (@pa1 _ _ _ (cn CG hr (@Za _ _ _ _ _ (pv 0) (@pa3 _ _ _ _ _ _ _ ?h8 (pv 4) (pv 5) (by rfl)) (by rfl))) (by rfl)))
 case' h8=>refine' (@il _ _ _ _ _ _ K (pv 3) Zc (by rfl) (by exact λ_ _=>rfl))
 case' h7=>refine' (Zo ?h2)
 case' h6=>refine' (YD (i:=13) Zt.nd rfl (bw rfl) (scope:=YZ) (N:=["_law_place","_law_room","_law_shut"]) (cp:=[none,none,some 12]) rfl Vm Vn (Z3 (pv 5)) (λC s H ex pn=>(Y8 (K:=K) (n:=2) rfl rfl (Zl (nmT 0 Xb) (Zl (nmT 1 Xb) ZL)))) (λC s H ex pn=>ZV) (λC s H ex pn=>(ZE (Za (pv 0) (Za (VE (Zw (Lk (K:=K) rfl) (pv 0) (pv 2) (by with_unfolding_all rfl)) Zc (pv 1)) Zf)))))
 case' h5=>refine' (Z9 (i:=12) Zt.nd rfl (cQ rfl) (Z7 rfl Vo Vp (Q6 rfl (bm B) (@pa1 _ _ _ (pv 11) (by rfl)) (by decide +kernel)) (λC s H ex pn=>(Y8 (K:=K) (n:=2) rfl rfl (Zl (nmT 0 Xd) (Zl (nmT 1 Xd) ZL)))) (λC s H ex pn=>(Xq (Zw YR (Zv Lo (Zv E9 (pv 2) (pv 0)) Zc) Zc (ZC _)))) (λC s H ex pn=>(pv 1))))
 case' h4=>refine' (YD (i:=11) Zt.nd rfl (bw rfl) (scope:=Y0) (N:=["_law_place","_law_room"]) (cp:=[none,none]) rfl Vq Vr (Z3 (pv 5)) (λC s H ex pn=>(Y8 (K:=K) (n:=2) rfl rfl (Zl (nmT 0 Xe) (Zl (nmT 1 Xe) ZL)))) (λC s H ex pn=>(Xq (Zw NJ (pv 1) Yc (ZC _)))) (λC s H ex pn=>(pv 0)))
 case' h3=>refine' (Z9 (i:=10) Zt.nd rfl (cQ rfl) (cn CT hr (@pa2 _ _ _ _ _ (pv 0) (Zv R4 Zc (ZG (r:=rLen K) YB rfl (bm B) bC (@pa1 _ _ _ (Z7 rfl Vs Vt (Z3 (pv 5)) (λC s H ex pn=>(Y8 (K:=K) (n:=2) rfl rfl (Zl (nmT 0 Xf) (Zl (nmT 1 Xf) ZL)))) (λC s H ex pn=>(Xq (Zw NJ (pv 1) Yc (ZC _)))) (λC s H ex pn=>(pv 0))) (by rfl)))) (by rfl))))
 case' h2=>refine' (@ZA _ _ _ _ (@pa2 _ _ _ _ _ (Z4 M1 Z.cl Md hr.m (pv 1) (@pa1 _ _ _ (pv 10) (by rfl))) ?h1 (by rfl)))
 case' h1=>refine' (@ZA _ _ _ _ (@Za _ _ _ _ _ (pv 4) (@Za _ _ _ _ _ (pv 13) (@pa3 _ _ _ _ _ _ _ (pv 6) (pv 7) (pv 8) (by rfl)) (by rfl)) (by rfl)))
 have tb:=wa.tb;have li:=drawn gw sg;have od:=li.ok;obtain⟨f1,f2,f3,f4⟩:=Mm gw sg;refine⟨_,rfl,pw,_,rfl,SqL.of wa.at_,rfl,_,_,rfl,_,_,rfl,_,_,rfl,_,_,rfl,_,_,rfl,rfl,?_⟩;refine tkC hb (λr H1 h0 h1 B1 S1=>?_);have tb1:=tb.same S1;have tel1:=tel.box hb od S1;refine⟨_,rfl,rfl,_,rfl,?_⟩;have hsd1:=S1 _ _ hsd nsd;have lp:(W.ps.map plRow).length<=6:=by rw[lm];exact f1
 have lr:(W.rs.map rdRow).length<=12:=by rw[lm];exact f2
 have lw:(W.ws.map wyRow).length<=12:=by rw[lm];exact f3
 have lg:(W.gs.map grRow).length<=12:=by rw[lm];exact f4
 have lr':=Nat.le_trans lr (by decide:12<=13);have lw':=Nat.le_trans lw (by decide:12<=13);have lg':=Nat.le_trans lg (by decide:12<=13);have fin:∀{H':Hp}{t1 t2 t3 t4:List (List V)}{m1 m2 m3 m4 t':Addr},Zz H' b->Zg b H H'->Tel H' c.C t' ⟨W.n,t1,t2,t3,t4⟩->RowsAt b H' m1 t1->RowsAt b H' m2 t2->RowsAt b H' m3 t3->RowsAt b H' m4 t4->OkTb ⟨W.n,t1,t2,t3,t4⟩->t1.length<=6->t2.length<=13->t3.length<=13->t4.length<=13 ->∀p,H' p=none->∀q,upd H' p (.lst [.int W.n,.ref m1,.ref m2,.ref m3,.ref m4]) q=none->Q (.ref q) (upd (upd H' p (.lst [.int W.n,.ref m1,.ref m2,.ref m3,.ref m4])) q (.lst [.ref t',.ref p])):=λ{H' t1 t2 t3 t4 m1 m2 m3 m4 t'}B' S' tl r1 r2 r3 r4 o' a1 a2 a3 a4 p hp q hq=>by have B8:=B'.new (o:=.lst [.int W.n,.ref m1,.ref m2,.ref m3,.ref m4]) hp;have S8:=(Zg.refl b H').new' (o:=.lst [.int W.n,.ref m1,.ref m2,.ref m3,.ref m4]) hp;have S9:=S8.new' (o:=.lst [.ref t',.ref p]) hq;have np:=B'.ne hp;exact kq _ q t' p m1 m2 m3 m4 ⟨W.n,t1,t2,t3,t4⟩ (B8.new hq) (S'.trans S9) Zd (tl.box B' o' S9) ⟨np,(by rw[Zh (Zk (Zd (H:=H') (a:=p)) hq)];exact Zd),r1.same S9,r2.same S9,r3.same S9,r4.same S9⟩ o' ⟨a1,a2,a3,a4⟩
 refine YS (λe=>?_) (λe=>?_)
 ·have hpl:(W.ps.map plRow).length<=sizeLine:=Nat.le_trans lp (by decide);have hhl:(Zx W.ps).length<=6:=by unfold Zx;rw[lm];exact Nat.le_trans (bu _ _) f1
  have cp:∀m:Nat,m<=14->CPow 1 (m:Int):=λm hm=>⟨by omega,by omega,by decide⟩;have pw:∀m:Nat,m<=6->(1:Int)<=1*2 ^ m/\(1:Int)*2 ^ m<=64:=by decide
  obtain⟨pw1,pw2⟩:=pw _ hhl;have plx:RowsAt b H1 l1 (W.ps.map plRow):=tb1.pl;refine⟨_,rfl,_,rfl,l1,rfl,⟨_,SqL.of plx.2.choose_spec.1⟩,?_⟩;refine Y9 (J:=Itl K l1) (W.ps.map plRow).length hpl (λi ys τ H'=>H1=H'/\ys=(Zx (W.ps.take i)).map V.str/\ys.length<=i/\∃v1 v2,τ=[v1,v2]) ⟨rfl,rfl,Nat.le_refl _,none,none,rfl⟩ (λi ys τ H' p=>p.2.2.1) (λi ys τ H' hi p=>by obtain⟨rfl,_⟩:=p;exact plx.go hi) (λys τ H' p=>by obtain⟨rfl,_⟩:=p;exact plx.stop) (λi ys τ H' x H2 hi p yl=>?_) (λys τ H2 p cx hcx=>?_)
  ·obtain⟨rfl,rfl,hz,v1,v2,rfl⟩:=p;have hi':i<W.ps.length:=by simpa using hi
   obtain⟨rfl,a,rfl,na,ha⟩:=plx.item (r:=plRow W.ps[i]) (by rw[ah,gE hi'];rfl) yl;refine⟨a,_,rfl,SqT.of ha,rfl,_,_,rfl,_,_,rfl,rfl,_,rfl,rfl,_,rfl,?_⟩;rw[G8];refine YS (λe=>?_) (λe=>?_)
   ·refine⟨_,rfl,rfl,?_,by rw[ay];exact Nat.add_le_add hz (Nat.le_refl _),_,_,rfl⟩;rw[V1 hi',e,if_pos rfl,aE];rfl
   ·refine⟨rfl,?_,by omega,_,_,rfl⟩;rw[V1 hi',e,if_neg (by decide),aT]
  obtain⟨rfl,rfl,hz,v1,v2,rfl⟩:=p;rw[show W.ps.take (W.ps.map plRow).length=W.ps from by rw[lm,aF]]at hz ⊢;refine al2 B1 hcx λH3 B3 S3 e3 n3=>?_;refine⟨cx,_,rfl,.inl (SqL.of e3),_,_,rfl,rfl,cp _ (by rw[lm];omega),b,_,rfl,B3,?_,?_,λbits H4 g0 g1 B4 S4=>?_⟩
  ·rw[lm,Int.toNat_natCast];omega
  ·rw[lm,Int.toNat_natCast];exact Yg (by omega) (by omega)
  rw[lm,Int.toNat_natCast]at g1;have S14:=S3.trans S4;have tb4:=tb1.same S14;clear plx;have plx:RowsAt b H4 l1 (W.ps.map plRow):=tb4.pl;refine⟨_,rfl,l1,rfl,⟨_,SqL.of plx.2.choose_spec.1⟩,?_⟩;refine Y9 (J:=Itl K l1) (W.ps.map plRow).length hpl (λi ys τ H'=>H4=H'/\ys=(Zx (W.ps.take i)).map V.str/\ys.length<=i/\∃v1 v2,τ=[v1,v2]) ⟨rfl,rfl,Nat.le_refl _,none,none,rfl⟩ (λi ys τ H' p=>p.2.2.1) (λi ys τ H' hi p=>by obtain⟨rfl,_⟩:=p;exact plx.go hi) (λys τ H' p=>by obtain⟨rfl,_⟩:=p;exact plx.stop) (λi ys τ H' x H2 hi p yl=>?_) (λys τ H2 p cy hcy=>?_)
  ·obtain⟨rfl,rfl,hz,v1,v2,rfl⟩:=p;have hi':i<W.ps.length:=by simpa using hi
   obtain⟨rfl,a,rfl,na,ha⟩:=plx.item (r:=plRow W.ps[i]) (by rw[ah,gE hi'];rfl) yl;refine⟨a,_,rfl,SqT.of ha,rfl,_,_,rfl,_,_,rfl,rfl,_,rfl,rfl,_,rfl,?_⟩;rw[G8];refine YS (λe=>?_) (λe=>?_)
   ·refine⟨_,rfl,rfl,?_,by rw[ay];exact Nat.add_le_add hz (Nat.le_refl _),_,_,rfl⟩;rw[V1 hi',e,if_pos rfl,aE];rfl
   ·refine⟨rfl,?_,by omega,_,_,rfl⟩;rw[V1 hi',e,if_neg (by decide),aT]
  obtain⟨rfl,rfl,hz,v1,v2,rfl⟩:=p;rw[show W.ps.take (W.ps.map plRow).length=W.ps from by rw[lm,aF]]at hz ⊢;refine al2 B4 hcy λH5 B5 S5 e5 n5=>?_;have S15:=S14.trans S5;refine⟨_,rfl,cy,_,rfl,e5,?_⟩;refine Y9 (J:=Wm cy) (Zx W.ps).length (Nat.le_trans hhl (by decide)) (λi zs τ H'=>Same H5 H'/\zs=(ZQ bits 0 ((Zx W.ps).take i)).map V.str/\zs.length<=i/\∃v1 v2,τ=[v1,v2,some (.int bits)]) ⟨Same.refl _,rfl,Nat.le_refl _,none,none,rfl⟩ (λi zs τ H' p=>p.2.2.1) (λi zs τ H' hi p=>⟨_,p.1 _ _ e5,by rw[lm];exact hi⟩) (λzs τ H' p=>⟨_,p.1 _ _ e5,by rw[lm]⟩) (λi zs τ H' x' H2 hi p yl=>?_) (λzs τ H6 p ls hls=>?_)
  ·obtain⟨sm,rfl,hz,v1,v2,rfl⟩:=p;obtain⟨Tt,ys,y,hT,hy,gy,rfl,rfl⟩:=yl;rw[sm _ _ e5]at hy;cases hy;rw[ah,gE hi]at gy;cases gy;have sm2:=sameNew (o:=.tup [.int i,.str (Zx W.ps)[i]]) sm hT;have stp:ZQ bits 0 ((Zx W.ps).take (i+1))=ZQ bits 0 ((Zx W.ps).take i)++(if bg bits (1*2 ^ i)=0 then[(Zx W.ps)[i]]else[]):=by
    have:(Zx W.ps).take (i+1)=(Zx W.ps).take i++[(Zx W.ps)[i]]:=by rw[aV,gE hi];rfl
    rw[this,VP,Nat.zero_add,aw,show min i (Zx W.ps).length=i from by omega]
   refine⟨Tt,_,rfl,SqT.of Zd,rfl,_,_,rfl,_,_,rfl,rfl,_,rfl,_,rfl,_,_,rfl,rfl,(by omega),_,_,rfl,rfl,rfl,_,rfl,?_⟩;rw[Int.toNat_natCast];refine YS (λe=>?_) (λe=>?_)
   ·have e0:bg bits (1*2 ^ i)=0:=(Wi g0 i).mp (by simpa using e);refine⟨_,rfl,sm2,?_,by rw[ay];exact Nat.add_le_add hz (Nat.le_refl _),_,_,rfl⟩;rw[stp,if_pos e0,aE];rfl
   ·have e0:¬bg bits (1*2 ^ i)=0:=λq=>(by simpa using e:¬bg (bits / 2 ^ i) 1=0) ((Wi g0 i).mpr q);refine⟨sm2,?_,by omega,_,_,rfl⟩;rw[stp,if_neg e0,aT]
  obtain⟨sm,rfl,_,v1,v2,rfl⟩:=p;rw[aF];generalize hcl:ZQ bits 0 (Zx W.ps)=cl;have B6:=B5.same sm;refine al2 B6 hls λH7 B7 S7 e7 n7=>?_;have S17:=S15.trans ((Zg.of (b:=b) sm).trans S7);have tb7:=tb1.same S17;have pl7:RowsAt b H7 l1 (W.ps.map plRow):=tb7.pl;refine⟨_,rfl,l1,rfl,⟨_,SqL.of pl7.2.choose_spec.1⟩,?_⟩;have bl:(ZF bits W.ps).length=W.ps.length:=by unfold ZF;rw[lm]
  refine ZI (J:=Itl K l1) (W.ps.map plRow).length hpl (λi zs τ H'=>Zz H' b/\Zg b H7 H'/\Z6 b H' zs (((ZF bits W.ps).take i).map plRow)/\∃v1 v2,τ=[v1,v2,some (.ref ls)]) ⟨B7,Zg.refl _ _,YW,none,none,rfl⟩ (λi zs τ H' p=>by rw[p.2.2.1.1,lm,aw];omega) (λi zs τ H' hi p=>(pl7.same p.2.1).go hi) (λzs τ H' p=>(pl7.same p.2.1).stop) (λi zs τ H' x' H8 hi p yl=>?_) (λzs τ H8 p lo hlo=>?_)
  ·obtain⟨bx,sm8,its,v1,v2,rfl⟩:=p;have hi':i<W.ps.length:=by simpa using hi
   have e0:W.ps[i]?=some W.ps[i]:=gE hi';obtain⟨rfl,a,rfl,na,ha⟩:=(pl7.same sm8).item (r:=plRow W.ps[i]) (by rw[ah,e0];rfl) yl;have stp:(ZF bits W.ps).take (i+1)=(ZF bits W.ps).take i++[if W.ps[i].1∈cl then(W.ps[i].1,some 0)else W.ps[i]]:=by rw[aV];unfold ZF;rw[ah,e0,hcl];rfl
   have fin2:∀(r:Option Int)(cc:Addr),(if W.ps[i].1∈cl then(W.ps[i].1,some 0)else W.ps[i])=(W.ps[i].1,r)->H8 cc=none->Zz (upd H8 cc (.tup [.str W.ps[i].1,Yx r])) b/\Zg b H7 (upd H8 cc (.tup [.str W.ps[i].1,Yx r]))/\Z6 b (upd H8 cc (.tup [.str W.ps[i].1,Yx r])) (zs++[.ref cc]) (((ZF bits W.ps).take (i+1)).map plRow):=λr cc e hc=>by refine⟨bx.new hc,sm8.new' hc,?_⟩;rw[stp,aE,e];exact(its.same ((Zg.refl b _).new' hc)).app (Z6.one (bx.ne hc) Zd)
   refine⟨a,_,rfl,SqT.of ha,rfl,_,_,rfl,_,_,rfl,rfl,_,rfl,_,rfl,_,rfl,ls,_,rfl,.inl (SqL.of (sm8 _ _ e7 n7)),rfl,by simp[Uj],_,rfl,?_⟩;rw[if_neg (by decide),TY];refine YS (λe=>?_) (λe=>?_)
   ·have hm:W.ps[i].1∈cl:=by simpa using e
    refine⟨zl,λcc hc=>?_⟩;obtain⟨f1,f2,f3⟩:=fin2 (some 0) cc (by rw[if_pos hm]) hc;exact⟨f1,f2,f3,_,_,rfl⟩
   ·have hm:¬W.ps[i].1∈cl:=by simpa using e
    refine⟨_,rfl,zl,λcc hc=>?_⟩;obtain⟨f1,f2,f3⟩:=fin2 W.ps[i].2 cc (by rw[if_neg hm]) hc;exact⟨f1,f2,f3,_,_,rfl⟩
  obtain⟨bx,sm8,its,v1,v2,rfl⟩:=p;rw[show(ZF bits W.ps).take (W.ps.map plRow).length=ZF bits W.ps from aO (by rw[bl,lm];exact Nat.le_refl _)]at its;refine al2 bx hlo λH9 B9 S9 e9 n9=>?_;have S19:=S17.trans (sm8.trans S9);have tel9:=tel1.box B1 od S19;obtain⟨dx,fs,ht,hno⟩:=Nn tel9;refine⟨_,rfl,t,dx,fs,rfl,ht,hno _ (by decide +kernel),_,rfl,?_⟩;try dsimp only[tNil]
  have ok5:=(li.homes bits).ok;refine Ly li tel9 (Ym g0 (by omega)) λHa t' Sa tl=>?_;have sa:=Zg.of (b:=b) Sa;have Ba:=B9.same Sa;have tba:=tb1.same (S19.trans sa);exact⟨_,rfl,_,rfl,_,rfl,_,rfl,_,rfl,zl,λp hp=>⟨zl,λq hq=>fin Ba (S1.trans (S19.trans sa)) tl ((its.same (S9.trans sa)).lst n9 (Sa _ _ e9)) tba.rd tba.wy tba.gr ok5 (by rw[lm,bl];exact f1) lr' lw' lg' p hp q hq⟩⟩
 refine⟨_,rfl,rfl,_,rfl,?_⟩;refine YS (λe=>?_) (λe=>?_)
 ·obtain⟨x4,k4,i4⟩:=tb1.gr.its;refine⟨_,rfl,ixL 3 hsd1 rfl ⟨_,rfl,_,rfl,b,l1,s3,W.n,W.ps,rfl,B1,sg.g.snm.short,tb1.pl,gw.pl,od.n0,od.n1,λH2 g r2 B2 S2 hg ng gd=>?_⟩⟩;refine⟨zl,λc1 hc1=>?_⟩;refine al2 B2 hc1 λH3 B3 S3 e3 n3=>?_;have k4':=(S2.trans S3) _ _ k4 tb1.gr.1;refine⟨_,rfl,_,rfl,l4,_,rfl,SqL.of k4',λc2 hc2=>?_⟩;rw[cut0];refine al2 B3 hc2 λH4 B4 S4 e4 n4=>?_;refine⟨c1,c2,_,_,rfl,rfl,S4 _ _ e3 n3,e4,Nat.le_trans (by rw[aw];show 1+min 1 x4.length<=2;omega:_<=2) (by decide),λc3 hc3=>?_⟩;refine al2 B4 hc3 λH5 B5 S5 e5 n5=>?_;have S25:=S3.trans (S4.trans S5);have S15:=S2.trans S25;have S05:=S1.trans S15;have tb5:=tb.same S05;have its:Z6 b H5 ([.ref g]++x4.take 1) ([grRow r2]++(W.gs.map grRow).take 1):=(Z6.one ng (S25 _ _ hg ng)).app ((i4.take 1).same S15);have ok1:=HC gw sg gd;have tel5:=tel1.box B1 od S15;obtain⟨dx,fs,ht,hno⟩:=Nn tel5;refine⟨_,rfl,t,dx,fs,rfl,ht,hno _ (by decide +kernel),_,rfl,?_⟩;try dsimp only[tNil]
  refine WK od tel5 (Lj e5 (its.part (ok1.flat (.inr (.inr (.inr rfl)))))) ok1 λH6 t' S6 tl=>?_;have B6:=B5.same S6;have s6:=Zg.of (b:=b) S6;have tb6:=tb5.same s6;exact⟨_,rfl,_,rfl,_,rfl,_,rfl,_,rfl,zl,λp hp=>⟨zl,λq hq=>fin B6 (S05.trans s6) tl tb6.pl tb6.rd tb6.wy ((its.same s6).lst n5 (S6 _ _ e5)) ok1 lp lr' lw' (by rw[ay,aw];show 1+min 1 (W.gs.map grRow).length<=13;omega) p hp q hq⟩⟩
 dsimp only[KC];refine tqr λD2 hk2 hr2=>?_;obtain⟨x2,k2,i2⟩:=tb1.rd.its;refine LH (λH'=>Zz H' b/\Zg b H1 H') (λH2 hh=>?_) λa' ha'=>?_
 ·obtain⟨B2,S2⟩:=hh;have S02:=S1.trans S2;have tb2:=tb.same S02;refine⟨_,rfl,ixL 1 (S02 _ _ hsd nsd) rfl ⟨_,rfl,_,rfl,b,l1,s1,W.n,W.ps,rfl,B2,tb2.pl,gw.pl,od.n0,od.n1,λH3 g r2 B3 S3 hg ng gn gd=>?_⟩⟩;have S03:=S02.trans S3;have tb3:=tb.same S03;have tel3:=tel1.box B1 od (S2.trans S3);have ok2:=HB gw sg gd gn;obtain⟨dx,fs,ht,hno⟩:=Nn tel3;have fl:∀y∈rdRow r2,Flat y:=(ok2.flat (.inr (.inl rfl))) (rdRow r2) (aW _ (aQ.mpr rfl));refine⟨_,rfl,t,dx,fs,rfl,ht,hno _ (by decide +kernel),_,rfl,?_⟩;try dsimp only[tNil]
  refine DZ od tel3 (ys:=rdRow r2) ⟨g,rfl,hg,λy hy=>NY (fl y hy)⟩ ok2 λH4 t' S4 tl=>?_;have s4:=Zg.of (b:=b) S4;have B4:=B3.same S4;have S34:=S3.trans s4;have S14:=S2.trans S34;refine⟨_,rfl,_,rfl,_,rfl,_,rfl,zl,λc1 hc1=>?_⟩;refine al2 B4 hc1 λH5 B5 S5 e5 n5=>?_;have S15:=S14.trans S5;have k5:=S15 _ _ k2 tb1.rd.1;have x2l:x2.length<=12:=by rw[i2.1];exact lr
  refine⟨l2,c1,x2,_,rfl,rfl,k5,e5,Nat.le_trans (Nat.add_le_add x2l (Nat.le_refl 1)) (by decide),λc2 hc2=>?_⟩;refine al2 B5 hc2 λH6 B6 S6 e6 n6=>?_;have S16:=S15.trans S6;have tb6:=tb1.same S16;have S46:=S5.trans S6;refine⟨_,rfl,_,rfl,zl,λp hp=>⟨zl,λq hq=>hr2 _ _ (fin B6 (S1.trans S16) (tl.box B4 ok2 S46) tb6.pl (((i2.same S16).app (Z6.one ng ((s4.trans S46) _ _ hg ng))).lst n6 e6) tb6.wy tb6.gr ok2 lp ?_ lw' lg' p hp q hq)⟩⟩;rw[ay];exact Nat.succ_le_succ lr
 refine⟨_,rfl,rfl,_,rfl,?_⟩;refine YS (λe=>?_) (λe=>?_)
 ·exact iteT (ha' _ ⟨B1,Zg.refl _ _⟩)
 refine⟨_,rfl,zl,λc1 hc1=>?_⟩;refine al2 B1 hc1 λH2 B2 S2 e2 n2=>?_;refine⟨l2,c1,x2,rfl,rfl,SqL.of (S2 _ _ k2 tb1.rd.1),e2,_,rfl,?_⟩;refine YS (λe=>?_) (λe=>?_)
 ·exact ha' _ ⟨B2,S2⟩
 refine hk2 _ _ ?_;have xne:x2≠[]:=of_decide_eq_false e;have xl:x2.length=(W.rs.map rdRow).length:=i2.1;have xpos:0<x2.length:=List.length_pos_iff.mpr xne;have k2':=S2 _ _ k2 tb1.rd.1;refine tqr λD3 hk3 hr3=>?_;refine⟨_,rfl,_,rfl,_,rfl,l2,_,rfl,.inl (SqL.of k2'),b,_,rfl,B2,by omega,Yg (by omega) (by omega),λr3 H3 g0 g1 B3 S3=>?_⟩;have S13:=S2.trans S3;have i3:=i2.same S13;obtain⟨a,ys,hat,na,ha,hy⟩:=i3.at_ g0 (by rw[<-i2.1];exact g1);refine⟨l2,x2,r3,_,rfl,rfl,SqL.of (S13 _ _ k2 tb1.rd.1),hat,?_⟩;refine hk3 _ _ ?_;have hy:(W.rs.map rdRow)[r3.toNat]?=some ys:=hy;have nd2:((W.rs.map rdRow).map nameOf).Nodup:=(od.part 2 (.inr (.inl rfl))).2.nd;have rg:∀z∈W.rs.map rdRow,RowG z:=λz hz=>Q1 od (j:=2) (.inr (.inl rfl)) hz;have ra:∀z∈W.rs.map rdRow,at_ z 0=.str (nameOf z):=λz hz=>(XN od (j:=2) (.inr (.inl rfl)) hz).1;have ym:=aK hy;have isy:∀{H':Hp},Zg b H3 H'->Is H' (.ref a) (rowD ys):=λs=>.tup (s _ _ ha na) (XG (rg _ ym).2);have S03:=S1.trans S13;refine tqr λD4 hk4 hr4=>?_;refine LH (λH'=>H'=H3) (λH4 hh=>?_) λa' ha'=>?_
 ·subst hh;have k3:=S13 _ _ k2 tb1.rd.1;refine⟨_,rfl,l2,rfl,⟨_,SqL.of k3⟩,?_⟩;refine Y9 (J:=Itl K l2) x2.length (Nat.le_trans (by omega:_<=12) (by decide)) (λi zs τ H'=>H'=H4/\Z6 b H4 zs (outR (nameOf ys) ((W.rs.map rdRow).take i))/\zs.length<=i/\∃o1,τ=[o1,some (.ref a)]) ⟨rfl,YW,Nat.le_refl _,_,rfl⟩ (λi zs τ H' q=>q.2.2.1) (λi zs τ H' hi q=>?_) (λzs τ H' q=>?_) (λi zs τ H' x H5 hi q yl=>?_) (λzs τ H5 q lc hlc=>?_)
  ·rw[q.1];exact⟨_,_,SqL.of k3,gE hi⟩
  ·rw[q.1];exact⟨_,SqL.of k3,Nat.le_refl _⟩
  ·obtain⟨rfl,its,zlen,o1,rfl⟩:=q;obtain⟨rfl,hx⟩:=yl;have hx:=hx _ (SqL.of k3);have hi':i<(W.rs.map rdRow).length:=by omega
   have er:=gE hi';obtain⟨ai,rfl,nai,hai⟩:=i3.2 i x _ hx er;have zm:(W.rs.map rdRow)[i]∈W.rs.map rdRow:=aG hi';have stp:outR (nameOf ys) ((W.rs.map rdRow).take (i+1))=outR (nameOf ys) ((W.rs.map rdRow).take i)++(if decide (nameOf (W.rs.map rdRow)[i]≠nameOf ys)=true then[(W.rs.map rdRow)[i]]else[]):=by
    unfold outR;rw[aV,er,eG];congr 1;by_cases z:decide (nameOf (W.rs.map rdRow)[i]≠nameOf ys)=true
    ·rw[if_pos z];simp only[gj,List.filter_cons,z,if_true,List.filter_nil]
    ·rw[if_neg z];simp only[gj,List.filter_cons,z,List.filter_nil];rfl
   have one:nameOf (W.rs.map rdRow)[i]=nameOf ys->(W.rs.map rdRow)[i]=ys:=λe=>by have:=NM nd2 er hy e;subst this;rw[er]at hy;exact ar hy
   have ev:=Tv (rg _ zm) (ra _ zm) (ra _ ym) one;generalize (W.rs.map rdRow)[i]=z at er hai zm stp one ev;rw[stp];refine⟨_,rfl,_,rfl,rowD z,rowD ys,.tup hai (XG (rg _ zm).2),isy (Zg.refl _ _),MX (rg _ zm),MX (rg _ ym),_,rfl,?_⟩;rw[ev];by_cases e:nameOf z=nameOf ys
   ·rw[decide_eq_true e,if_neg (by simp[e])];refine iteF ⟨rfl,?_,by omega,_,rfl⟩;rw[aT];exact its
   ·rw[decide_eq_false e,if_pos (by simp[e])];refine iteT ⟨_,rfl,rfl,its.app (Z6.one nai hai),?_,_,rfl⟩;rw[ay];exact Nat.succ_le_succ zlen
  obtain⟨rfl,its,zlen,o1,rfl⟩:=q;rw[show(W.rs.map rdRow).take x2.length=W.rs.map rdRow from by rw[xl,aF]]at its;refine al2 B3 hlc λH6 B6 S6 e6 n6=>?_;have S16:=S13.trans S6;have S06:=S1.trans S16;have tel6:=tel1.box B1 od S16;obtain⟨dx,fs,ht,hno⟩:=Nn tel6;obtain⟨rr,hrr,ey⟩:=aq.mp ym;have ha6:H6 a=some (.tup (rdRow rr)):=by rw[ey];exact S6 _ _ ha na
  refine⟨_,rfl,t,dx,fs,rfl,ht,hno _ (by decide +kernel),ixT 0 ha6 rfl ?_⟩;try dsimp only[tNil]
  have hy':(tbOf W).t2[r3.toNat]?=some (rdRow rr):=by rw[ey];exact hy
  refine D7 (y:=rdRow rr) od tel6 hy' λok3 H7 t' S7 tl=>?_;rw[ey]at ok3 tl;have s7:=Zg.of (b:=b) S7;have B7:=B6.same S7;have tb7:=tb1.same (S16.trans s7);exact⟨_,rfl,_,rfl,_,rfl,_,rfl,_,rfl,zl,λp hp=>⟨zl,λq hq=>hr4 _ _ (fin B7 (S06.trans s7) tl tb7.pl ((its.same (S6.trans s7)).lst n6 (S7 _ _ e6)) tb7.wy tb7.gr ok3 lp (Nat.le_trans (bu _ _) lr') lw' lg' p hp q hq)⟩⟩
 obtain⟨rr,hrr,ey⟩:=aq.mp ym;have ha3:H3 a=some (.tup (rdRow rr)):=by rw[ey];exact ha
 refine⟨_,rfl,rfl,_,rfl,?_⟩;refine YS (λe=>?_) (λe=>?_)
 ·exact iteT (ha' _ rfl)
 refine ixT 4 ha3 rfl ⟨_,rfl,rfl,_,rfl,?_⟩;refine YS (λe4=>?_) (λe4=>?_)
 ·exact ha' _ rfl
 refine hk4 _ _ ?_;have hrr':=gw.rd rr hrr;have hcm:rr.cm+1<=W.n:=by have h1:=hrr'.cm1;have h2:rr.cm≠W.n:=λq=>of_decide_eq_false e4 (by rw[q]);omega
 refine ixT 0 ha3 rfl (ixT 1 ha3 rfl (ixT 2 ha3 rfl ⟨_,_,rfl,rfl,ixT 3 ha3 rfl (ixT 4 ha3 rfl ⟨_,_,rfl,rfl,ixT 5 ha3 rfl ⟨zl,λc1 hc1=>?_⟩⟩)⟩));refine al2 B3 hc1 λH4 B4 S4 e4' n4=>?_;have S14:=S13.trans S4;have i4:=i2.same S14;have k4:=S14 _ _ k2 tb1.rd.1;refine⟨_,rfl,l2,rfl,⟨_,SqL.of k4⟩,?_⟩;refine ZI (J:=Itl K l2) x2.length (Nat.le_trans (by omega:_<=12) (by decide)) (λi zs τ H'=>H'=H4/\Z6 b H4 zs (((W.rs.map rdRow).set r3.toNat [.str rr.nm,.str rr.st,.int (rr.lv+1),.str rr.gl,.int (rr.cm+1),.int rr.se]).take i)/\∃o1,τ=[o1,some (.ref c1),some (.ref a)]) ⟨rfl,YW,_,rfl⟩ (λi zs τ H' q=>by rw[q.2.1.1,aw];omega) (λi zs τ H' hi q=>?_) (λzs τ H' q=>?_) (λi zs τ H' x H5 hi q yl=>?_) (λzs τ H5 q lc hlc=>?_)
 ·rw[q.1];exact⟨_,_,SqL.of k4,gE hi⟩
 ·rw[q.1];exact⟨_,SqL.of k4,Nat.le_refl _⟩
 ·obtain⟨rfl,its,o1,rfl⟩:=q;obtain⟨rfl,hx⟩:=yl;have hx:=hx _ (SqL.of k4);have hi':i<(W.rs.map rdRow).length:=by omega
  have er:=gE hi';obtain⟨ai,rfl,nai,hai⟩:=i4.2 i x _ hx er;have zm:(W.rs.map rdRow)[i]∈W.rs.map rdRow:=aG hi';have one:nameOf (W.rs.map rdRow)[i]=nameOf ys->(W.rs.map rdRow)[i]=ys:=λe=>by have:=NM nd2 er hy e;subst this;rw[er]at hy;exact ar hy
  have idx:nameOf (W.rs.map rdRow)[i]=nameOf ys->i=r3.toNat:=λe=>NM nd2 er hy e;have idx':i=r3.toNat->nameOf (W.rs.map rdRow)[i]=nameOf ys:=λe=>by rw[<-e,er]at hy;rw[ar hy]
  have ev:=Tv (rg _ zm) (ra _ zm) (ra _ ym) one;generalize (W.rs.map rdRow)[i]=z at er hai zm one ev idx idx';refine⟨_,rfl,_,rfl,rowD z,rowD ys,.tup hai (XG (rg _ zm).2),isy S4,MX (rg _ zm),MX (rg _ ym),_,rfl,?_⟩;rw[ev];by_cases e:nameOf z=nameOf ys
  ·rw[decide_eq_true e];have ei:=idx e;refine iteT ⟨_,rfl,rfl,?_,_,rfl⟩;rw[aV,List.getElem?_set,if_pos ei.symm,if_pos (by rw[<-ei];exact hi')];exact its.app (Z6.one n4 e4')
  ·rw[decide_eq_false e];refine iteF ⟨_,rfl,rfl,?_,_,rfl⟩;rw[aV,List.getElem?_set,if_neg (λq=>e (idx' q.symm)),er];exact its.app (Z6.one nai hai)
 obtain⟨rfl,its,o1,rfl⟩:=q;rw[show x2.length=((W.rs.map rdRow).set r3.toNat [.str rr.nm,.str rr.st,.int (rr.lv+1),.str rr.gl,.int (rr.cm+1),.int rr.se]).length from by rw[fL];exact xl,aF]at its;refine al2 B4 hlc λH6 B6 S6 e6 n6=>?_;have S16:=S14.trans S6;have S06:=S1.trans S16;have tel6:=tel1.box B1 od S16;obtain⟨dx,fs,ht,hno⟩:=Nn tel6;have ha6:H6 a=some (.tup (rdRow rr)):=(S4.trans S6) _ _ ha3 na;refine⟨_,rfl,t,dx,fs,rfl,ht,hno _ (by decide +kernel),ixT 0 ha6 rfl ?_⟩;try dsimp only[tNil]
 have hy':(tbOf W).t2[r3.toNat]?=some [.str rr.nm,.str rr.st,.int rr.lv,.str rr.gl,.int rr.cm,.int rr.se]:=by rw[show([.str rr.nm,.str rr.st,.int rr.lv,.str rr.gl,.int rr.cm,.int rr.se]:List V)=ys from ey];exact hy
 refine Lx (i:=1) od tel6 hy' (by decide) hcm λok3 H7 t' S7 tl=>?_;have s7:=Zg.of (b:=b) S7;have B7:=B6.same S7;have tb7:=tb1.same (S16.trans s7);exact⟨_,rfl,_,rfl,_,rfl,_,rfl,_,rfl,zl,λp hp=>⟨zl,λq hq=>fin B7 (S06.trans s7) tl tb7.pl ((its.same (S6.trans s7)).lst n6 (S7 _ _ e6)) tb7.wy tb7.gr ok3 lp (by rw[fL];exact lr') lw' lg' p hp q hq⟩⟩
end
def QQ(K:aa):Sp:=λvs H Q _=>∃(a:Addr)(ns:List Int),vs=[.ref a]/\SqL K H a (ns.map V.int)/\ns.length<=63/\∀H',Q (.bl true) H'
theorem LZ(ns:List Int)(lo hi:Option Int):∀v∈cutV (ns.map V.int) lo hi,∃c,v=.int c:=λv hv=>by unfold cutV at hv;have:=List.mem_of_mem_drop (dm hv);obtain⟨c,_,rfl⟩:=aq.mp this;exact⟨c,rfl⟩
section
variable {P:Program}{w:World}{K:aa}{mg:Str->Option Value}{base:Heap}{c:Cs}
theorem JW:FnScope ["_law_script","_law_cell_here",q_b,q_w,q_s,q_t,"_law_beside_here","_law_other","_law_changed"] ["_law_script"] (Zb T.f_law):=scO
theorem Ff{f:Addr}{fd:bN}(CB:Can P w K mg base 1 "_law_box" ["_law_cell_here"] Ew)(CW:Can P w K mg base 4 "_law_world" [q_b] Tc)(CT:Can P w K mg base 9 "_law_table" [q_w] (QR c.C))(CE:Can P w K mg base 2 "_law_beside" [q_b,q_w,q_s] QU)(CR:Can P w K mg base 7 "_law_right" [q_t,q_w] (Tn c.C))(CO:Can P w K mg base 12 "_law_otherwise" [q_b,q_t,q_w,q_s] (Tp c))(F:Fun K "law" "law" T.f_law f fd):FnOk P w K mg base CX0 13 f fd ["_law_script"] (QQ K):=by
 refine F.ok JW (λvs H Q E h=>?_) (λcdv A outer s H vs Q E hr h=>?_)
 ·obtain⟨a,ns,rfl,_⟩:=h;rfl
 ·obtain⟨a,ns,rfl,hS,hlen,k⟩:=h;refine' ⟨_,(@Ze _ _ _ _ _ ?h11 (@Zi _ _ _ ?h12)),?rd⟩;case' h12=>refine' (Zo MM)
  case' h11=>refine' (YJ bq rfl (Z3 (Zv Uz (YQ (r:=rSlL K) JU (pv 0) Xs (Xr Zc)) ?h1)) (nmT 1 JW.nd) (@Ze _ _ _ _ _ ?h4 (@Ze _ _ _ _ _ ?h5 (@Ze _ _ _ _ _ ?h6 (@Ze _ _ _ _ _ ?h7 (@Ze _ _ _ _ _ ?h8 (@Ze _ _ _ _ _ ?h9 (@Zi _ _ _ ?h10))))))))
  case' h10=>refine' (@ZO _ _ _ _ _ _ _ _ (PW.pt (JH (Z8 (Z1 (cn CR hr (@pa2 _ _ _ _ _ (pv 7) (pv 8) (by rfl))))) (Xj (Z8 (Z1 (cn CR hr (@pa2 _ _ _ _ _ (pv 5) (pv 3) (by rfl)))))))) (@Zi _ _ _ ?h3) Zy)
  case' h9=>refine' (Jt (cn CO hr (@Za _ _ _ _ _ (pv 2) (@pa3 _ _ _ _ _ _ _ (pv 5) (pv 3) (pv 4) (by rfl)) (by rfl))) (Ma rfl (Zl (nmT 7 JW.nd) (Zl (nmT 8 JW.nd) ZL))))
  case' h8=>refine' (@ZO _ _ _ _ _ _ _ _ (PW.pt (JH (Z8 (Z1 (cn CR hr (@pa2 _ _ _ _ _ (pv 5) (pv 3) (by rfl))))) (Xj (Z8 (Z1 (cn CR hr (@pa2 _ _ _ _ _ (cn CT hr (@pa1 _ _ _ (pv 6) (by rfl))) (pv 6) (by rfl)))))))) (@Zi _ _ _ ?h2) Zy)
  case' h7=>refine' (@st _ _ _ _ 6 _ _ JW.nd (cn CE hr (@pa3 _ _ _ _ _ _ _ (pv 2) (pv 3) (pv 4) (by rfl))) (by rfl) (by exact bw rfl) (by rfl) (by exact .inl rfl))
  case' h6=>refine' (@st _ _ _ _ 5 _ _ JW.nd (cn CT hr (@pa1 _ _ _ (pv 3) (by rfl))) (by rfl) (by exact bw rfl) (by rfl) (by exact .inl rfl))
  case' h5=>refine' (Jt (cn CW hr (@pa1 _ _ _ (pv 2) (by rfl))) (Ma rfl (Zl (nmT 3 JW.nd) (Zl (nmT 4 JW.nd) ZL))))
  case' h4=>refine' (@st _ _ _ _ 2 _ _ JW.nd (cn CB hr (@pa1 _ _ _ (pv 1) (by rfl))) (by rfl) (by exact bw rfl) (by rfl) (by exact .inl rfl))
  case' h3=>refine' (Zo MM)
  case' h2=>refine' (Zo MM)
  case' h1=>refine' (@ZA _ _ _ _ (@pa1 _ _ _ Zc (by rfl)))
  refine tq λD1 hk1=>?_;refine⟨_,rfl,_,rfl,a,_,rfl,hS,λp1 e1=>?_⟩;refine⟨zl,λp2 e2=>?_⟩;have n12:p1≠p2:=Zk (Zd (H:=H) (a:=p1)) e2;have hcl:(cutV (ns.map V.int) none (some 8)).length+1<=sizeLine:=by
   have h1:=MS (ns.map V.int) none (some 8);rw[lm]at h1;have:(100:Nat)<=sizeLine:=by decide
   omega
  refine⟨p1,p2,_,_,rfl,rfl,(by rw[Zh n12,Zd]),Zd,hcl,λp3 e3=>⟨p3,rfl,⟨_,SqL.of Zd⟩,?_⟩⟩;have hxs:∀v∈cutV (ns.map V.int) none (some 8)++[V.int 5],∃c,v=.int c:=λv hv=>by
   rcases aP.mp hv with hv|hv
   ·exact LZ ns _ _ v hv
   ·rw[aQ]at hv;exact⟨_,hv⟩
  have L0:upd (upd (upd H p1 (.lst (cutV (ns.map V.int) none (some 8)))) p2 (.lst [V.int 5])) p3 (.lst (cutV (ns.map V.int) none (some 8)++[V.int 5])) p3=some (.lst (cutV (ns.map V.int) none (some 8)++[V.int 5])):=Zd;generalize upd (upd (upd H p1 (.lst (cutV (ns.map V.int) none (some 8)))) p2 (.lst [V.int 5])) p3 (.lst (cutV (ns.map V.int) none (some 8)++[V.int 5]))=H0 at L0;generalize cutV (ns.map V.int) none (some 8)++[V.int 5]=xs at L0 hxs;clear e1 e2 e3 n12 hcl;refine LQ (K:=K) (a:=p3) (xs:=xs) (λi σ H1=>H1 p3=some (.lst xs)/\∃o:Nat->Option V,σ=[some (.ref a),o 1,o 2,o 3,o 4,o 5,o 6,o 7,o 8]) ⟨L0,shp rfl⟩ (λi σ H1 _ p=>SqL.of p.1) (λi v σ H1 hi p=>?_) (λσ H1 p=>?_)
  ·obtain⟨L1,o,rfl⟩:=p;obtain⟨cl,rfl⟩:=hxs v (aK hi);dsimp only[XQ];refine td λD' hdd=>?_;refine⟨_,rfl,cl,rfl,λb H2 hb bx sm2=>?_⟩;refine⟨_,rfl,b,rfl,bx,λH3 q pw sd l1 l2 l3 l4 W bs s0 s1 s2 s3 bx3 sm3 nq hq nsd hsd wa gw sg=>⟨q,_,rfl,SqL.of hq,rfl,_,_,rfl,_,_,rfl,rfl,?_⟩⟩;have s13:Same H1 H3:=λc o e=>sm3 _ _ (sm2 _ _ e) (Zk e hb);have ok:=(drawn gw sg).ok;obtain⟨f1,f2,f3,f4⟩:=Mm gw sg;have fit:Fit (tbOf W):=⟨by show(W.ps.map plRow).length<=6;rw[lm];exact f1,by show(W.rs.map rdRow).length<=13;rw[lm];omega,by show(W.ws.map wyRow).length<=13;rw[lm];omega,by show(W.gs.map grRow).length<=13;rw[lm];omega⟩;have wsame:∀{H':Hp},Zg b H3 H'->WorldAt b H' pw W l1 l2 l3 l4:=λs=>⟨wa.ne,s _ _ wa.at_ wa.ne,wa.pl.same s,wa.rd.same s,wa.wy.same s,wa.gr.same s⟩;refine⟨_,rfl,b,pw,l1,l2,l3,l4,tbOf W,rfl,wa.tb,ok,λH4 t S4 tel=>?_⟩;have b4:=Zg.of (b:=b) S4;refine⟨_,rfl,_,rfl,_,rfl,b,pw,sd,l1,l2,l3,l4,W,bs,s0,s1,s2,s3,rfl,bx3.same S4,wsame b4,gw,sg,nsd,S4 _ _ hsd,λH5 pb m1 m2 m3 m4 Tb B5 S5 tb5 okb fitb=>?_⟩;have b5:=b4.trans S5;have tel5:=tel.box (bx3.same S4) ok S5;refine⟨_,rfl,_,rfl,b,t,pw,l1,l2,l3,l4,tbOf W,rfl,tel5,(wsame b5).tb,ok,fit.len ok,λH6 S6=>⟨true,rfl,?_⟩⟩;refine iteF ?_;have b6:=Zg.of (b:=b) S6;refine⟨_,rfl,b,pb,m1,m2,m3,m4,Tb,rfl,tb5.same b6,okb,λH7 t2 S7 tel7=>?_⟩;have b67:=Zg.of (b:=b) (S6.trans S7);refine⟨_,rfl,b,t2,pb,m1,m2,m3,m4,Tb,rfl,tel7,tb5.same b67,okb,fitb.len okb,λH8 S8=>⟨true,rfl,?_⟩⟩;refine iteF ?_;have S58:=S6.trans (S7.trans S8);have b58:=Zg.of (b:=b) S58;have b8:=b5.trans b58;have B8:=B5.same S58;have tel8:=tel5.same S58;refine⟨_,rfl,_,rfl,_,rfl,_,rfl,b,t,pw,sd,l1,l2,l3,l4,W,bs,s0,s1,s2,s3,rfl,B8,tel8,wsame b8,gw,sg,nsd,b8 _ _ hsd nsd,λH9 qo t3 po n1 n2 n3 n4 To B9 S9 hqo tel9 tb9 oko fito=>⟨qo,_,rfl,SqL.of hqo,rfl,_,_,rfl,_,_,rfl,rfl,?_⟩⟩;have b9:=b8.trans S9;have telt:=tel8.box B8 ok S9;refine⟨_,rfl,_,rfl,b,t3,po,n1,n2,n3,n4,To,rfl,tel9,tb9,oko,fito.len oko,λHa Sa=>⟨true,rfl,?_⟩⟩;refine iteF ?_;have ba:=Zg.of (b:=b) Sa;refine⟨_,rfl,_,rfl,b,t,pw,l1,l2,l3,l4,tbOf W,rfl,telt.same Sa,(wsame (b9.trans ba)).tb,ok,fit.len ok,λHb Sb=>⟨true,rfl,?_⟩⟩;refine iteF ?_;have bb:=b9.trans (ba.trans (Zg.of (b:=b) Sb));exact hdd _ _ ⟨bb _ _ (s13 _ _ L1) (Zk L1 hb),shp rfl⟩
  obtain⟨L1,o,rfl⟩:=p;exact hk1 _ _ (k _)
end
end SX
namespace L2
open PySem PySem.Spec PyProof.Rows
section
variable {K:aa}{h:Heap}{mg:Str->Option Value}{x:Str}
theorem HZ{st:Stmt}{ps:List Str}{f:Addr}{oc:Value}{od an:Option Addr}{osl:Array (Option Value)}{kV doc pm cdv ct:Value}(X:K.In h)(G:h.Ns aR mg)(a:bc K aR x=some (some (.ref f)))(l:K.lookup f=some ⟨oc,od,.func (bf x x (Yw st) (ZH st) (Zb st) .none kV doc pm an cdv ct),osl⟩)(c:b7 K cdv x=true)(k:aU K (.ref f)=true)(hb:∀(kV doc pm:Value)(an:Option Addr)(cdv ct:Value)(us:List Value),us.length=ps.length->bindArgs (bf x x (Yw st) (ZH st) (Zb st) .none kV doc pm an cdv ct) ⟨us,[]⟩=pure (ps.zip us)):Df K mg x st ps:=⟨f,_,J3 l c k,cO X G a,(J3 l c k).binds hb⟩
theorem LX{C:Addr}{m qual:Str}{st:Stmt}{ps:List Str}{f:Addr}{oc:Value}{od an:Option Addr}{osl:Array (Option Value)}{kV doc pm cdv ct:Value}(a:ax K (.ref C) m=some (some (.ref f)))(i:dQ K (.ref f)=true)(l:K.lookup f=some ⟨oc,od,.func (bf m qual (Yw st) (ZH st) (Zb st) .none kV doc pm an cdv ct),osl⟩)(c:b7 K cdv qual=true)(k:aU K (.ref f)=true)(hb:∀(kV doc pm:Value)(an:Option Addr)(cdv ct:Value)(us:List Value),us.length=ps.length->bindArgs (bf m qual (Yw st) (ZH st) (Zb st) .none kV doc pm an cdv ct) ⟨us,[]⟩=pure (ps.zip us)):DfM K C m qual st ps:=⟨f,_,J3 l c k,⟨a,i,k⟩,(J3 l c k).binds hb⟩
theorem str_mk{z:Str}{t:Tok}(X:K.In h)(G:h.Ns aR mg)(a:bc K aR x=some (some (.str z t))):∃t,mg x=some (.str z t):=⟨t,cO X G a⟩
theorem int_mk{z:Int}{t:Tok}(X:K.In h)(G:h.Ns aR mg)(a:bc K aR x=some (some (.int z t))):∃t,mg x=some (.int z t):=⟨t,cO X G a⟩
theorem T8{w:World}{a:Addr}{es:Array dB}{n:Nat}{n1 n2 n3 n4:Int}{t1 t2 t3 t4:Tok}(X:K.In h)(G:h.Ns aR mg)(ha:bc K aR x=some (some (.ref a)))(hl:K.lookup a=some ⟨.type "dict",none,.dict es n,#[]⟩)(hk:PySem.W.KeysLit w.params es.toList)(h1:bc K a "places"=some (some (.int n1 t1)))(h2:bc K a "rides"=some (some (.int n2 t2)))(h3:bc K a "ways"=some (some (.int n3 t3)))(h4:bc K a "groups"=some (some (.int n4 t4))):∃a,mg x=some (.ref a)/\Jg K w a "places" (.int n1)/\Jg K w a "rides" (.int n2)/\Jg K w a "ways" (.int n3)/\Jg K w a "groups" (.int n4):=⟨a,cO X G ha,⟨es,n,_,hl,hk,h1,⟨t1,rfl⟩⟩,⟨es,n,_,hl,hk,h2,⟨t2,rfl⟩⟩,⟨es,n,_,hl,hk,h3,⟨t3,rfl⟩⟩,⟨es,n,_,hl,hk,h4,⟨t4,rfl⟩⟩⟩
end
end L2
namespace SX
open PySem L2 PySem.Spec PyProof.Rows TB WD
theorem Hq:FnScope ["self","part","at","why"] ["self","part","at","why"] (Zb T.m_BadTable___init__):=scO
structure ErF(K:aa)(mg:Str->Option Value)(x qual:Str)(st:Stmt)(C Qa:Addr)(ps:List Str):Prop where
 at_:∃fI fd,XK1 K mg x C fI Qa/\Fun K "__init__" qual st fI fd/\Binds K fd ps []
section
variable {P:Program}{w:World}{K:aa}{mg:Str->Option Value}{base:Heap}{C Cb Qa:Addr}
abbrev BadF(K:aa)(mg:Str->Option Value)(Cb Qa:Addr):Prop:=ErF K mg "BadTable" "BadTable.__init__" T.m_BadTable___init__ Cb Qa ["self","part","at","why"]/\ax K (.ref Cb) "part"=some none/\ax K (.ref Cb) "at"=some none/\ax K (.ref Cb) "why"=some none
theorem Em(b:BadF K mg Cb Qa):Err P w K mg base "BadTable" ["part","at","why"] Cb:=by obtain⟨⟨fI,fd,X,F,bd⟩,n1,n2,n3⟩:=b;exact⟨⟨fI,Qa,fd,["self","part","at","why"],X.xc,HR F Hq rfl ⟨by decide,by decide⟩ ⟨by decide,by decide⟩ ⟨by decide,by decide⟩ X.xc n1 n2 n3 (by decide) (by decide) (by decide),by decide,bd⟩,X.xr,X.mg,X.kp⟩
abbrev NoF(K:aa)(mg:Str->Option Value)(x qual:Str)(st:Stmt)(C Qa:Addr)(fl:Str):Prop:=ErF K mg x qual st C Qa ["self",fl]/\ax K (.ref C) fl=some none
theorem R8{x qual fl:Str}{st:Stmt}{p1 p2 p3 p4:Pos}(b:NoF K mg x qual st C Qa fl)(S:FnScope ["self",fl] ["self",fl] (Zb st))(hb:ZH st=[UQ fl fl p1 p2 p3 p4])(pl:Plain fl):Err P w K mg base x [fl] C:=by obtain⟨⟨fI,fd,X,F,bd⟩,na⟩:=b;exact⟨⟨fI,Qa,fd,["self",fl],X.xc,HS F S hb pl X.xc na,by show 2<=1000;decide,bd⟩,X.xr,X.mg,X.kp⟩
theorem KZ:FnScope ["self","name"] ["self","name"] (Zb T.m_NoRide___init__):=scO
theorem KY:FnScope ["self","found"] ["self","found"] (Zb T.m_NoTurn___init__):=scO
theorem Wv:FnScope ["self","found"] ["self","found"] (Zb T.m_NoHomes___init__):=scO
structure Errs(K:aa)(mg:Str->Option Value)(Qa Cb Cn Ct Ch:Addr):Prop where
 b:BadF K mg Cb Qa
 NoRide:NoF K mg "NoRide" "NoRide.__init__" T.m_NoRide___init__ Cn Qa "name"
 NoTurn:NoF K mg "NoTurn" "NoTurn.__init__" T.m_NoTurn___init__ Ct Qa "found"
 NoHomes:NoF K mg "NoHomes" "NoHomes.__init__" T.m_NoHomes___init__ Ch Qa "found"
structure Meths(K:aa)(C:Addr):Prop where
 take_places:DfM K C "take_places" "Table.take_places" T.m_Table_take_places ["self","places"]
 take_rides:DfM K C "take_rides" "Table.take_rides" T.m_Table_take_rides ["self","rides"]
 take_ways:DfM K C "take_ways" "Table.take_ways" T.m_Table_take_ways ["self","ways"]
 take_groups:DfM K C "take_groups" "Table.take_groups" T.m_Table_take_groups ["self","groups"]
 is_place:DfM K C "is_place" "Table.is_place" T.m_Table_is_place ["self","thing"]
 is_home:DfM K C "is_home" "Table.is_home" T.m_Table_is_home ["self","thing"]
 is_ride:DfM K C "is_ride" "Table.is_ride" T.m_Table_is_ride ["self","thing"]
 homes:DfM K C "homes" "Table.homes" T.m_Table_homes ["self"]
 ride_row:DfM K C "ride_row" "Table.ride_row" T.m_Table_ride_row ["self","name"]
 with_rides:DfM K C "with_rides" "Table.with_rides" T.m_Table_with_rides ["self","rides"]
 with_ride_as:DfM K C "with_ride_as" "Table.with_ride_as" T.m_Table_with_ride_as ["self","changed"]
 with_ride:DfM K C "with_ride" "Table.with_ride" T.m_Table_with_ride ["self","row"]
 with_groups:DfM K C "with_groups" "Table.with_groups" T.m_Table_with_groups ["self","rows"]
 without_ride:DfM K C "without_ride" "Table.without_ride" T.m_Table_without_ride ["self","name"]
 with_later:DfM K C "with_later" "Table.with_later" T.m_Table_with_later ["self","name","by"]
 with_homes:DfM K C "with_homes" "Table.with_homes" T.m_Table_with_homes ["self","bits"]
structure TabF(K:aa)(mg:Str->Option Value)(C:Addr):Prop where
 cl:TCl K C
 init:∃f fd,Mk K C f/\Fun K "__init__" "Table.__init__" T.m_Table___init__ f fd/\Binds K fd ["self","turns","places","rides","ways","groups"] []
 mg:mg "Table"=some (.ref C)
 ms:Meths K C
structure SMeths(K:aa)(C:Addr):Prop where
 key:DfM K C "key" "Step.key" T.m_Step_key ["self"]
 tail:DfM K C "tail" "Step.tail" T.m_Step_tail ["self"]
 head:DfM K C "head" "Step.head" T.m_Step_head ["self"]
 room:DfM K C "room" "Step.room" T.m_Step_room ["self"]
 price:DfM K C "price" "Step.price" T.m_Step_price ["self"]
structure StF(K:aa)(mg:Str->Option Value)(x qual:Str)(st:Stmt)(ps:List Str)(C:Addr):Prop where
 cl:SCl K C
 ty:∀(H:Hp)(a dx:Addr)(fs:List (Str×V)),H a=some (.ins C dx fs)->TyOf K H (.ref a) (.ref C)
 init:∃f fd,Mk K C f/\Fun K "__init__" qual st f fd/\Binds K fd ps []
 mg:mg x=some (.ref C)
 ms:SMeths K C
structure AllSt(K:aa)(mg:Str->Option Value)(c0 c1 c2 c3 cb:Addr):Prop where
 s0:StF K mg "SetOut" "SetOut.__init__" T.m_SetOut___init__ ["self","row","turn"] c0
 s1:StF K mg "Ride" "Ride.__init__" T.m_Ride___init__ ["self","row"] c1
 s2:StF K mg "Walk" "Walk.__init__" T.m_Walk___init__ ["self","row","turn"] c2
 s3:StF K mg "Wait" "Wait.__init__" T.m_Wait___init__ ["self","row","turn"] c3
 k00:ak K (.ref c0) (.ref c0)=some true
 k10:ak K (.ref c1) (.ref c0)=some false
 k20:ak K (.ref c2) (.ref c0)=some false
 k30:ak K (.ref c3) (.ref c0)=some false
 k01:ak K (.ref c0) (.ref c1)=some false
 k11:ak K (.ref c1) (.ref c1)=some true
 k21:ak K (.ref c2) (.ref c1)=some false
 k31:ak K (.ref c3) (.ref c1)=some false
 k02:ak K (.ref c0) (.ref c2)=some false
 k12:ak K (.ref c1) (.ref c2)=some false
 k22:ak K (.ref c2) (.ref c2)=some true
 k32:ak K (.ref c3) (.ref c2)=some false
 k03:ak K (.ref c0) (.ref c3)=some false
 k13:ak K (.ref c1) (.ref c3)=some false
 k23:ak K (.ref c2) (.ref c3)=some false
 k33:ak K (.ref c3) (.ref c3)=some true
 kb0:ak K (.ref c0) (.ref cb)=some true
 kb1:ak K (.ref c1) (.ref cb)=some true
 kb2:ak K (.ref c2) (.ref cb)=some true
 kb3:ak K (.ref c3) (.ref cb)=some true
 base:∃f fd,Fun K "__init__" "Step.__init__" T.m_Step___init__ f fd/\BaseM K cb "__init__" f/\Binds K fd ["self","key","tail","head","room","price"] []
 mb:mg "Step"=some (.ref cb)
structure Defs(K:aa)(mg:Str->Option Value):Prop where
 is_whole:Df K mg "is_whole" T.f_is_whole ["thing"]
 is_within:Df K mg "is_within" T.f_is_within ["thing","low","high"]
 is_text_of:Df K mg "is_text_of" T.f_is_text_of ["thing","longest","signs"]
 is_name:Df K mg "is_name" T.f_is_name ["thing"]
 is_group_name:Df K mg "is_group_name" T.f_is_group_name ["thing"]
 set_outs_of:Df K mg "set_outs_of" T.f_set_outs_of ["table"]
 walks_of:Df K mg "walks_of" T.f_walks_of ["table"]
 waits_of:Df K mg "waits_of" T.f_waits_of ["table"]
 moves_of:Df K mg "moves_of" T.f_moves_of ["table"]
 steps_of:Df K mg "steps_of" T.f_steps_of ["table"]
 is_known:Df K mg "is_known" T.f_is_known ["thing","names"]
 rows_of:Df K mg "rows_of" T.f_rows_of ["part","rows"]
 wrong_beginning:Df K mg "wrong_beginning" T.f_wrong_beginning ["part","row","names_ahead"]
 wrong_ends:Df K mg "wrong_ends" T.f_wrong_ends ["table","start","goal"]
 wrong_place:Df K mg "wrong_place" T.f_wrong_place ["row"]
 wrong_ride:Df K mg "wrong_ride" T.f_wrong_ride ["table","row"]
 wrong_way:Df K mg "wrong_way" T.f_wrong_way ["table","row"]
 wrong_group:Df K mg "wrong_group" T.f_wrong_group ["table","row","people_ahead"]
 refuse_row:Df K mg "refuse_row" T.f_refuse_row ["part","at","why"]
 _law_box:Df K mg "_law_box" T.f__law_box ["_law_cell_here"]
 _law_take:Df K mg "_law_take" T.f__law_take [q_b,"_law_many"]
 _law_names:Df K mg "_law_names" T.f__law_names [q_b,"_law_many"]
 _law_places:Df K mg "_law_places" T.f__law_places [q_b]
 _law_size:Df K mg "_law_size" T.f__law_size [q_b]
 _law_ends:Df K mg "_law_ends" T.f__law_ends [q_b,q_p]
 _law_ride:Df K mg "_law_ride" T.f__law_ride [q_b,"_law_name","_law_turns",q_p]
 _law_way:Df K mg "_law_way" T.f__law_way [q_b,"_law_name",q_p]
 _law_group:Df K mg "_law_group" T.f__law_group [q_b,"_law_name","_law_turns",q_p]
 _law_world:Df K mg "_law_world" T.f__law_world [q_b]
 _law_steps:Df K mg "_law_steps" T.f__law_steps [q_w]
 _law_table:Df K mg "_law_table" T.f__law_table [q_w]
 _law_kind:Df K mg "_law_kind" T.f__law_kind ["_law_step"]
 _law_right:Df K mg "_law_right" T.f__law_right [q_t,q_w]
 _law_otherwise:Df K mg "_law_otherwise" T.f__law_otherwise [q_b,q_t,q_w,q_s]
 _law_beside:Df K mg "_law_beside" T.f__law_beside [q_b,q_w,q_s]
theorem RI(W:K1.Txt K mg)(G:TB.Txt K mg)(Zs:Sizes K w mg)(Zm:Mosts K w mg)(he:mg "enumerate"=none)(D:Defs K mg)(t:TabF K mg C)(b:BadF K mg Cb Qa):TMk P w K mg base C Cb:=by obtain⟨f,fd,M,F,bd⟩:=t.init;have B:=Em (P:=P) (w:=w) (base:=base) b;have cW:=K1.PQ (P:=P) (w:=w) (base:=base) W D.is_whole;have cI:=K1.N4 (P:=P) (w:=w) (base:=base) D.is_within cW;have cX:=K1.Sz (P:=P) (w:=w) (base:=base) W D.is_text_of;have cN:=K1.L9 (P:=P) (w:=w) (base:=base) W D.is_name cX;have cG:=K1.Ki (P:=P) (w:=w) (base:=base) W D.is_group_name cX;have cK:=PU (P:=P) (w:=w) (base:=base) G D.is_known;have cP:=Ru (P:=P) (w:=w) (base:=base) t.cl t.ms.is_place cK;have cH:=SI (P:=P) (w:=w) (base:=base) t.cl t.ms.is_home cP;have cE:=Dg (P:=P) (w:=w) (base:=base) t.cl D.wrong_ends cP cH;have cB:=Sy (P:=P) (w:=w) (base:=base) G Zs D.wrong_beginning cN cG;have cR:=TB.SA (P:=P) (w:=w) (base:=base) B D.refuse_row;have cRo:=L5 (P:=P) (w:=w) (base:=base) G Zm B D.rows_of;have c1:=W8 (P:=P) (w:=w) (base:=base) t.cl he t.ms.take_places cB (Su G D.wrong_place cI) cR;have c2:=W7 (P:=P) (w:=w) (base:=base) t.cl he t.ms.take_rides cB (L6 G t.cl D.wrong_ride cI cE) cR;have c3:=W6 (P:=P) (w:=w) (base:=base) t.cl he t.ms.take_ways cB (Eh G t.cl D.wrong_way cI cE) cR;have c4:=W9 (P:=P) (w:=w) (base:=base) t.cl he t.ms.take_groups cB (Sw G t.cl D.wrong_group cI cP) cR;refine⟨⟨f,fd,M,F.okX DC (λvs H Q E h=>?_) λcdv A outer s H vs Q E hr h=>SM G t.cl B (cI.mono (by decide)) (cRo.mono (by decide)) (c1.mono (by decide)) (c2.mono (by decide)) (c3.mono (by decide)) (c4.mono (by decide)) hr h,bd⟩,t.mg⟩;obtain⟨t',dx,vT,T',v1,v2,v3,v4,r1,r2,r3,r4,rfl,_⟩:=h;rfl
theorem all4{R:Nat->Prop}(h0:R 0)(h1:R 1)(h2:R 2)(h3:R 3):∀j,j<4->R j:=λj hj=>by
 have e:j=0\/j=1\/j=2\/j=3:=by omega
 rcases e with rfl|rfl|rfl|rfl<;>assumption
noncomputable def c4(c0 c1 c2 c3:Addr)(i:Nat):Addr:=[c0,c1,c2,c3].getD i 0
theorem AllSt.sty{c0 c1 c2 c3 cb:Addr}(a:AllSt K mg c0 c1 c2 c3 cb):STy K mg (c4 c0 c1 c2 c3) cb where
 ty:=all4 a.s0.ty a.s1.ty a.s2.ty a.s3.ty
 kk:=λi j hi hj=>by
  revert i
  refine all4 (R:=λj=>∀i,i<4->ak K (.ref (c4 c0 c1 c2 c3 j)) (.ref (c4 c0 c1 c2 c3 i))=some (decide (j=i))) ?_ ?_ ?_ ?_ j hj
  ·exact all4 a.k00 a.k01 a.k02 a.k03
  ·exact all4 a.k10 a.k11 a.k12 a.k13
  ·exact all4 a.k20 a.k21 a.k22 a.k23
  ·exact all4 a.k30 a.k31 a.k32 a.k33
 kb:=all4 a.kb0 a.kb1 a.kb2 a.kb3
 m0:=a.s0.mg
 m1:=a.s1.mg
 m2:=a.s2.mg
 m3:=a.s3.mg
 m4:=a.mb
theorem Ea{f Cn Ct Ch c0 c1 c2 c3 cb:Addr}{fd:bN}(W:K1.Txt K mg)(G:TB.Txt K mg)(Zs:Sizes K w mg)(Zm:Mosts K w mg)(B:∀x∈Blts,mg x=none)(hmin:mg "min"=none)(D:Defs K mg)(t:TabF K mg C)(n:Errs K mg Qa Cb Cn Ct Ch)(a:AllSt K mg c0 c1 c2 c3 cb)(F:Fun K "law" "law" T.f_law f fd):FnOk P w K mg base CX0 13 f fd ["_law_script"] (QQ K):=by have tm:=RI (P:=P) (base:=base) W G Zs Zm (bm B) D t n.b;have Z:=t.cl;have cT:=L3 (P:=P) (w:=w) (base:=base) (mg:=mg) D._law_take;have cS:=L4 (P:=P) (w:=w) (base:=base) (mg:=mg) cT D._law_size;have cN:=Kd (P:=P) (w:=w) (base:=base) (mg:=mg) B cT D._law_names;have cE:=Kg (P:=P) (w:=w) (base:=base) (mg:=mg) B cT D._law_ends;have cRi:=Kf (P:=P) (w:=w) (base:=base) (mg:=mg) B cT cS cE D._law_ride;have cGr:=SH (P:=P) (w:=w) (base:=base) (mg:=mg) B cT D._law_group;have cWo:=W3 (P:=P) (w:=w) (base:=base) (mg:=mg) B cT cN (SD B cT cN cS D._law_places) cRi (Dd B cT cS cE D._law_way) cGr D._law_world;have cI:=K1.N4 (P:=P) (w:=w) (base:=base) (mg:=mg) D.is_within (K1.PQ W D.is_whole);have cK:=PU (P:=P) (w:=w) (base:=base) (mg:=mg) G D.is_known;have iR:=Rv (P:=P) (w:=w) (base:=base) (mg:=mg) Z t.ms.is_ride cK;have mR:=Qz (P:=P) (w:=w) (base:=base) (mg:=mg) Z (R8 n.NoRide KZ rfl ⟨by decide,by decide⟩) t.ms.ride_row iR;have mH:=Kh (P:=P) (w:=w) (base:=base) (mg:=mg) Z t.ms.homes;have wR:=Pc (P:=P) (w:=w) (base:=base) (mg:=mg) Z tm t.ms.with_rides;have wA:=Sv (P:=P) (w:=w) (base:=base) (mg:=mg) Z wR t.ms.with_ride_as;have w1:=Qy (P:=P) (w:=w) (base:=base) (mg:=mg) Z wR t.ms.with_ride;have w2:=Rt (P:=P) (w:=w) (base:=base) (mg:=mg) Z wR mR t.ms.without_ride;have w4:=Pd (P:=P) (w:=w) (base:=base) (mg:=mg) Z (R8 n.NoTurn KY rfl ⟨by decide,by decide⟩) cI wA mR t.ms.with_later;have w5:=N5 (P:=P) (w:=w) (base:=base) (mg:=mg) Z tm t.ms.with_groups;have w6:=Pe (P:=P) (w:=w) (base:=base) (mg:=mg) B Z tm (R8 n.NoHomes Wv rfl ⟨by decide,by decide⟩) cI mH t.ms.with_homes;have ZS:∀j,j<4->SCl K (c4 c0 c1 c2 c3 j):=all4 a.s0.cl a.s1.cl a.s2.cl a.s3.cl;obtain⟨fb,fdb,Fb,bm,bb⟩:=a.base;have CB:CanB P w K mg base cb:=⟨⟨fb,fdb,Lq Fb,bm,bb⟩,a.mb⟩;obtain⟨f0,g0,M0,F0,b0⟩:=a.s0.init;obtain⟨f1,g1,M1,F1,b1⟩:=a.s1.init;obtain⟨f2,g2,M2,F2,b2⟩:=a.s2.init;obtain⟨f3,g3,M3,F3,b3⟩:=a.s3.init;have m0:SMk P w K mg base "SetOut" (c4 c0 c1 c2 c3 0) ["self","row","turn"] (spMk K (c4 c0 c1 c2 c3) 0 K8):=⟨⟨f0,g0,M0,Fe CB F0,b0⟩,a.s0.mg⟩;have m1:SMk P w K mg base "Ride" (c4 c0 c1 c2 c3 1) ["self","row"] (spMk K (c4 c0 c1 c2 c3) 1 RW):=⟨⟨f1,g1,M1,DU CB F1,b1⟩,a.s1.mg⟩;have m2:SMk P w K mg base "Walk" (c4 c0 c1 c2 c3 2) ["self","row","turn"] (spMk K (c4 c0 c1 c2 c3) 2 RU):=⟨⟨f2,g2,M2,DS CB F2,b2⟩,a.s2.mg⟩;have m3:SMk P w K mg base "Wait" (c4 c0 c1 c2 c3 3) ["self","row","turn"] (spMk K (c4 c0 c1 c2 c3) 3 RV):=⟨⟨f3,g3,M3,DT CB F3,b3⟩,a.s3.mg⟩;have cSt:=Ka (P:=P) (w:=w) (base:=base) (mg:=mg) (L8 B Z ZS m0 D.set_outs_of) (Ke B Z ZS m1 (W4 B Z ZS m2 D.walks_of) (W5 B Z ZS m3 D.waits_of) D.moves_of) D.steps_of;have cRt:=Kb (P:=P) (w:=w) (base:=base) (mg:=mg) B ZS (all4 (GU a.s0.ms.key) (GU a.s1.ms.key) (GU a.s2.ms.key) (GU a.s3.ms.key)) (all4 (V7 a.s0.ms.tail) (V7 a.s1.ms.tail) (V7 a.s2.ms.tail) (V7 a.s3.ms.tail)) (all4 (V9 a.s0.ms.head) (V9 a.s1.ms.head) (V9 a.s2.ms.head) (V9 a.s3.ms.head)) (all4 (V8 a.s0.ms.room) (V8 a.s1.ms.room) (V8 a.s2.ms.room) (V8 a.s3.ms.room)) (all4 (J5 a.s0.ms.price) (J5 a.s1.ms.price) (J5 a.s2.ms.price) (J5 a.s3.ms.price)) (SG B D._law_steps) cSt (De B a.sty D._law_kind) D._law_right;exact Ff (c:=⟨C,Cb⟩) (Ei B D._law_box) cWo (SE B tm D._law_table) (SJ B hmin cT D._law_beside) cRt (Kc (c:=⟨C,Cb⟩) B Z cT cRi cGr w6 w5 w1 w2 w4 D._law_otherwise) F
theorem law_fd{l:gQ}{h:Heap}{fa f:Addr}(X:K.In h)(G:h.Ns aR mg)(hfa:mg "law"=some (.ref fa))(Wt:K1.Txt K mg)(Gt:TB.Txt K mg)(Zs:Sizes K w mg)(Zm:Mosts K w mg)(B:∀x∈Blts,mg x=none)(D:Defs K mg)(ht:∃C,TabF K mg C)(hmin:mg "min"=none)(hn:∃Qa Cb Cn Ct Ch,Errs K mg Qa Cb Cn Ct Ch)(hS:∃c0 c1 c2 c3 cb,AllSt K mg c0 c1 c2 c3 cb){oc:Value}{od an:Option Addr}{osl:Array (Option Value)}{kV doc pm cdv ct:Value}(a:bc K aR "law"=some (some (.ref f)))(lk:K.lookup f=some ⟨oc,od,.func (bf "law" "law" (Yw T.f_law) (ZH T.f_law) (Zb T.f_law) .none kV doc pm an cdv ct),osl⟩)(c:b7 K cdv "law"=true)(k:aU K (.ref f)=true):∃fd:bN,(∀(s:ag)(v:Value),BindsTo s fd ⟨[v],[]⟩ [("_law_script",v)])/\∀base:Heap,K.In base->base.Ns aR mg->FnOk l.prog w K mg base CX0 13 fa fd ["_law_script"] (QQ K):=by have e:=hfa.symm.trans (cO X G a);cases e;obtain⟨C,t⟩:=ht;obtain⟨Qa,Cb,Cn,Ct,Ch,nf⟩:=hn;obtain⟨c0,c1,c2,c3,cb,al⟩:=hS;have F:=J3 (st:=T.f_law) lk c k;exact⟨bf "law" "law" (Yw T.f_law) (ZH T.f_law) (Zb T.f_law) .none kV doc pm an cdv ct,λs v=>.of_eq rfl,λbase _ _=>Ea Wt Gt Zs Zm B hmin D t nf al F⟩
end
theorem tail_mk{K:aa}{Qa NQ:Addr}{c2 c3:Value}{d2 d3:Option Addr}{cdQ:ClassData}{sl2 sl3:Array (Option Value)}{es3:Array dB}{ep3:Nat}(lq:K.lookup Qa=some ⟨c2,d2,.cls cdQ,sl2⟩)(eq:cdQ.ns=NQ)(nq:K.lookup NQ=some ⟨c3,d3,.dict es3 ep3,sl3⟩)(nqe:(es3.toList.all λe=>match e.key with|.str _ _=>true|_=>false)=true)(iq:bc K NQ "__init__"=some none):dW K bmV (.ref Qa::bmV)=true:=by
 have nq':dX K NQ=true:=by unfold dX;rw[nq];dsimp only;rw[<-Array.all_toList];exact nqe
 subst eq;unfold dW;rw[Bool.or_eq_true];refine .inr ?_;dsimp only;rw[lq];dsimp only;rw[nq',iq];unfold dW;rw[show(bmV==bmV)=true from by decide];rfl
theorem er_one{ps:List Str}{K:aa}{h:Heap}{mg:Str->Option Value}{x qual:Str}{st:Stmt}{C fI Qa N:Addr}{nm q:Str}{bs:List Value}{sn:List Str}{sub:List Value}{ab:Bool}{col:Option Bool}{dd:Option Addr}{k0 k1 k2 k3 k5:Option Value}{c1 oc:Value}{d1 od an:Option Addr}{es1:Array dB}{ep1:Nat}{sl1 osl:Array (Option Value)}{kV doc pm cdv ct:Value}(KX:K.In h)(G:h.Ns aR mg)(a:bc K aR x=some (some (.ref C)))(l:K.lookup C=some (excClassObj nm q C N bs (.ref Qa::bmV) true sn sub ab col dd k0 k1 k2 k3 k5 "ValueError.__new__"))(n1:K.lookup N=some ⟨c1,d1,.dict es1 ep1,sl1⟩)(n1e:(es1.toList.all λe=>match e.key with|.str _ _=>true|_=>false)=true)(n2:bc K N "__init__"=some (some (.ref fI)))(tl:dW K bmV (.ref Qa::bmV)=true)(lf:K.lookup fI=some ⟨oc,od,.func (bf "__init__" qual (Yw st) (ZH st) (Zb st) .none kV doc pm an cdv ct),osl⟩)(cf:oc=.type "function")(cc:b7 K cdv qual=true)(ck:aU K (.ref fI)=true)(sa:ax K (.ref C) "__setattr__"=some (some (.builtin "object.__setattr__")))(ob:da K C (.type "object")=some true)(ga:ax K (.ref C) "__getattribute__"=some (some (.builtin "BaseException.__getattribute__")))(gg:ax K (.ref C) "__getattr__"=some none)(hd:cD K C=true)(be:da K C (.type "BaseException")=some true)(kp:aU K (.ref C)=true)(hb:∀(kV doc pm:Value)(an:Option Addr)(cdv ct:Value)(us:List Value),us.length=ps.length->bindArgs (bf "__init__" qual (Yw st) (ZH st) (Zb st) .none kV doc pm an cdv ct) ⟨us,[]⟩=pure (ps.zip us)):ErF K mg x qual st C Qa ps:=by
 have n1':dX K N=true:=by unfold dX;rw[n1];dsimp only;rw[<-Array.all_toList];exact n1e
 have F:=J3 (st:=st) lf cc ck;have X:XK1 K mg x C fI Qa:=⟨⟨⟨nm,q,N,bs,sn,sub,ab,col,dd,k0,k1,k2,k3,k5,l,n1',n2⟩,tl,⟨_,lf,cf⟩,sa,ob⟩,⟨ga,gg,hd,be⟩,⟨nm,q,N,bs,_,true,sn,sub,ab,col,dd,k0,k1,k2,k3,k5,_,l,by rw[gB];exact Bool.or_eq_true_iff.mpr (.inr (by decide))⟩,cO KX G a,kp⟩;exact⟨fI,_,X,F,F.binds hb⟩
theorem tab_mk{K:aa}{h:Heap}{mg:Str->Option Value}{C f1:Addr}{oc1:Value}{od1 an1:Option Addr}{osl1:Array (Option Value)}{kV1 doc1 pm1 cdv1 ct1:Value}(X:K.In h)(G:h.Ns aR mg)(aC:bc K aR "Table"=some (some (.ref C)))(pg:dj K C Str.empty=true)(hd:cD K C=true)(po:eB K C=true)(sa:ax K (.ref C) "__setattr__"=some (some (.builtin "object.__setattr__")))(mk:ft K C=true)(kc:aU K (.ref C)=true)(y1:ax K (.ref C) "turns"=some none)(y2:ax K (.ref C) "places"=some none)(y3:ax K (.ref C) "room_by_place"=some none)(y4:ax K (.ref C) "rides"=some none)(y5:ax K (.ref C) "ride_by_name"=some none)(y6:ax K (.ref C) "ways"=some none)(y7:ax K (.ref C) "way_by_name"=some none)(y8:ax K (.ref C) "groups"=some none)(y9:ax K (.ref C) "group_by_name"=some none)(a1:ax K (.ref C) "__init__"=some (some (.ref f1)))(i1:dQ K (.ref f1)=true)(l1:K.lookup f1=some ⟨oc1,od1,.func (bf "__init__" "Table.__init__" (Yw T.m_Table___init__) (ZH T.m_Table___init__) (Zb T.m_Table___init__) .none kV1 doc1 pm1 an1 cdv1 ct1),osl1⟩)(c1:b7 K cdv1 "Table.__init__"=true)(k1:aU K (.ref f1)=true)(ms:Meths K C):∃C,TabF K mg C:=by have F:=J3 (st:=T.m_Table___init__) l1 c1 k1;refine⟨C,⟨⟨pg,hd,po,sa⟩,λf hf=>?_⟩,⟨f1,_,⟨mk,a1,i1,kc⟩,F,F.binds λ_ _ _ _ _ _ us hl=>by obtain⟨_,_,_,_,_,_,rfl⟩:=len6 hl;rfl⟩,cO X G aC,ms⟩;unfold fields at hf;simp only[aA,aJ,or_false]at hf;rcases hf with rfl|rfl|rfl|rfl|rfl|rfl|rfl|rfl|rfl<;>assumption
theorem kit_mk{K:aa}{t:Value}{C:Addr}{b:Bool}(hne:(t==.ref C)=false)(hm:da K C (.type "object")=some true)(ht:PySem.W.typeIn K (.ref C)=some (.type "type"))(hs:PySem.W.subIn K t (.ref C)=some b):ak K t (.ref C)=some b:=by
 have hc:(PySem.W.clsIn K C).isSome=true:=by
  unfold da at hm;cases h:PySem.W.clsIn K C with
 |none=>rw[h]at hm;cases hm
 |some _=>rfl
 unfold ak PySem.W.kitCls;rw[if_neg (by rw[hne];exact Bool.false_ne_true)];dsimp only;rw[hc,ht,if_pos (by decide)];exact hs
theorem st_mk{K:aa}{h:Heap}{mg:Str->Option Value}{x qual:Str}{st:Stmt}{ps:List Str}{C f1:Addr}{oc1:Value}{od1 an1:Option Addr}{osl1:Array (Option Value)}{kV1 doc1 pm1 cdv1 ct1:Value}(X:K.In h)(G:h.Ns aR mg)(aC:bc K aR x=some (some (.ref C)))(pg:dj K C Str.empty=true)(hd:cD K C=true)(po:eB K C=true)(sa:ax K (.ref C) "__setattr__"=some (some (.builtin "object.__setattr__")))(mk:ft K C=true)(kc:aU K (.ref C)=true)(y1:ax K (.ref C) "its_key"=some none)(y2:ax K (.ref C) "its_tail"=some none)(y3:ax K (.ref C) "its_head"=some none)(y4:ax K (.ref C) "its_room"=some none)(y5:ax K (.ref C) "its_price"=some none)(a1:ax K (.ref C) "__init__"=some (some (.ref f1)))(i1:dQ K (.ref f1)=true)(l1:K.lookup f1=some ⟨oc1,od1,.func (bf "__init__" qual (Yw st) (ZH st) (Zb st) .none kV1 doc1 pm1 an1 cdv1 ct1),osl1⟩)(c1:b7 K cdv1 qual=true)(k1:aU K (.ref f1)=true)(hb:∀(kV doc pm:Value)(an:Option Addr)(cdv ct:Value)(us:List Value),us.length=ps.length->bindArgs (bf "__init__" qual (Yw st) (ZH st) (Zb st) .none kV doc pm an cdv ct) ⟨us,[]⟩=pure (ps.zip us))(ha:ax K (.ref C) "__class__"=some (some (.builtin "object.__class__")))(hn:ej K (.builtin "object.__class__") "__get__"=some (some (.builtin "getset_descriptor.__get__")))(htk:PySem.W.takesIn K (.builtin "object.__class__")=some true)(hm:da K C (.type "object")=some true)(ms:SMeths K C):StF K mg x qual st ps C:=by have F:=J3 (st:=st) l1 c1 k1;refine⟨⟨⟨pg,hd,po,sa⟩,λf hf=>?_⟩,λH a dx fs e=>.ins e ⟨pg,hd,po,sa⟩ ha hn htk hm,⟨f1,_,⟨mk,a1,i1,kc⟩,F,F.binds hb⟩,cO X G aC,ms⟩;unfold fnames at hf;simp only[aA,aJ,or_false]at hf;rcases hf with rfl|rfl|rfl|rfl|rfl<;>assumption
theorem base_mk{K:aa}{C f1:Addr}{oc1:Value}{od1 an1:Option Addr}{osl1:Array (Option Value)}{kV1 doc1 pm1 cdv1 ct1 mc:Value}(ga:ej K (.ref C) "__getattribute__"=some (some (.builtin "type.__getattribute__")))(rd:PySem.W.readsIn K C mc=true)(fc:PySem.W.findCls K (.ref C) mc "__init__"=some (.val (.ref f1)))(l1:K.lookup f1=some ⟨oc1,od1,.func (bf "__init__" "Step.__init__" (Yw T.m_Step___init__) (ZH T.m_Step___init__) (Zb T.m_Step___init__) .none kV1 doc1 pm1 an1 cdv1 ct1),osl1⟩)(c1:b7 K cdv1 "Step.__init__"=true)(k1:aU K (.ref f1)=true):∃f fd,Fun K "__init__" "Step.__init__" T.m_Step___init__ f fd/\BaseM K C "__init__" f/\Binds K fd ["self","key","tail","head","room","price"] []:=by have F:=J3 (st:=T.m_Step___init__) l1 c1 k1;exact⟨f1,_,F,⟨ga,⟨mc,rd,fc⟩,k1⟩,F.binds λ_ _ _ _ _ _ us hl=>by obtain⟨_,_,_,_,_,_,rfl⟩:=len6 hl;rfl⟩
theorem walk{l:gQ}{q:Program}{loose:List Str}{XP:(Str->Option Value)->Heap->Prop}{YP:World->Heap->Prop}{d:DefRec}{K:Params->aa}(hn:l.most=some 63)(hdf:d.params.defaults=[])(hY:∀(w:World)(h:Heap),YP w h->(K w.params).In h)(F:∀(w:World)(mg:Str->Option Value)(fa:Addr)(h:Heap),(K w.params).In h->h.Ns aR mg->mg d.name=some (.ref fa) ->∃fd:bN,(∀(s:ag)(u:Value),BindsTo s fd ⟨[u],[]⟩ [("_law_script",u)])/\∀base:Heap,(K w.params).In base->base.Ns aR mg->FnOk l.prog w (K w.params) mg base CX0 13 fa fd ["_law_script"] (QQ (K w.params))):PySem.W.WalkO q loose XP YP l.row.toRowW d [] (λf vs=>PySem.call f vs):=L2.Dr (n:=63) (k:=13) (x:="_law_script") (CX:=λ_=>CX0) (sp:=λw=>QQ (K w.params)) hn (by decide) hdf ⟨rfl,by decide,by decide,rfl⟩ hY F (λ_ _ a ns hl _ hS=>⟨a,ns,rfl,hS,hl,λ_=>rfl⟩) λ_ _ _ _ _ z=>z
end SX
open PySem PySem.W PyProof.Rows
set_option hygiene false in
local macro_rules
|`(tactic| o_head $H)=>`(tactic| (
   refine holds_open (q:=RG.QV) (loose:=RG.LO) (Xt:=RG.XT) (XP:=XL RG.QV [])
    (Yf:=Hook.obs $H) (Ya:=Hook.val $H) (YP:=Hook.says $H) (N:=12000) ?hl (Hook.of $H) (Hook.keeps $H) (λs e=>xl_of s (Bool.and_eq_true_iff.mp e).1)
    XL.keeps (by rfl) (by rfl) (by rfl) (λs e=>recFacts_of (Bool.and_eq_true_iff.mp e).2) (by rfl) (by first|assumption|decide +kernel) (by decide +kernel)
    ⟨rfl,rfl,rfl,rfl,rfl,by decide +kernel⟩ ?hw ?hc
   case' hl=>exact RG.HQ (by kernel_rfl) (λs=>by kernel_rfl) RG.kfE (λw=>rfl)))
set_option maxRecDepth 100000 in
set_option maxHeartbeats 0 in
theorem PySem.Challenge.cw_homequay_k12_all_steps_holds : PySem.Challenge.rw_homequay_k12_all_steps.Holds := by
 w_on;o_law;o_head (kHook RG.hk.heap_39 RG.AS RG.eK);(case hw=>w_witness2);k_fill;refine SX.walk (l:=bL) rfl rfl (λw h Y=>PySem.W.kIn_of Y) ?F;case F=>
  intro w mg fa h KX G hmg;have D:SX.Defs (L2.KOf KX) mg:=by dsimp only[L2.KOf];constructor<;>(refine' L2.HZ KX G ?a ?l ?c ?k ?b;(case a|l|c|k=>k_is);(case b=>exact λ_ _ _ _ _ _ us hl=>by first|(obtain⟨_,rfl⟩:=L2.len1 hl;rfl)|(obtain⟨_,_,rfl⟩:=L2.len2 hl;rfl)|(obtain⟨_,_,_,rfl⟩:=L2.len3 hl;rfl)|(obtain⟨_,_,_,_,rfl⟩:=L2.len4 hl;rfl)|(obtain⟨_,_,_,_,_,rfl⟩:=L2.len5 hl;rfl)))
  have B:∀x∈WD.Blts,mg x=none:=by intro x hx;unfold WD.Blts at hx;simp only[aA,aJ,or_false]at hx;rcases hx with rfl|rfl|rfl|rfl|rfl|rfl|rfl|rfl|rfl|rfl|rfl|rfl|rfl<;>(refine' dY KX G ?a;(case a=>k_is))
  have W:K1.Txt (L2.KOf KX) mg:=by constructor<;>((first|refine' dY KX G ?a|refine' L2.str_mk KX G ?a|refine' L2.int_mk KX G ?a);(case a=>k_is))
  have Gt:TB.Txt (L2.KOf KX) mg:=by constructor<;>((first|refine' dY KX G ?a|refine' L2.str_mk KX G ?a|refine' L2.int_mk KX G ?a);(case a=>k_is))
  have Zs:TB.Sizes (L2.KOf KX) w mg:=by refine⟨?_⟩;dsimp only[L2.KOf];refine' L2.T8 KX G ?a ?l ?k ?h1 ?h2 ?h3 ?h4;(case a|l=>k_is);(case k=>k_keys);(case h1|h2|h3|h4=>k_is)
  have Zm:TB.Mosts (L2.KOf KX) w mg:=by refine⟨?_⟩;dsimp only[L2.KOf];refine' L2.T8 KX G ?a ?l ?k ?h1 ?h2 ?h3 ?h4;(case a|l=>k_is);(case k=>k_keys);(case h1|h2|h3|h4=>k_is)
  have hmin:mg "min"=none:=by refine' dY KX G ?a;(case a=>k_is)
  have hn:∃Qa Cb Cn Ct Ch,SX.Errs (L2.KOf KX) mg Qa Cb Cn Ct Ch:=by
   dsimp only[L2.KOf];refine' ⟨_,_,_,_,_,⟨⟨SX.er_one KX G ?a_0 ?l_0 ?n1_0 ?n1e_0 ?n2_0 ?tl ?lf_0 ?cf_0 ?cc_0 ?ck_0 ?sa_0 ?ob_0 ?ga_0 ?gg_0 ?hd_0 ?be_0 ?kp_0 ?bb_0,?y1_0,?y2_0,?y3_0⟩,⟨SX.er_one KX G ?a_1 ?l_1 ?n1_1 ?n1e_1 ?n2_1 ?tl ?lf_1 ?cf_1 ?cc_1 ?ck_1 ?sa_1 ?ob_1 ?ga_1 ?gg_1 ?hd_1 ?be_1 ?kp_1 ?bb_1,?y1_1⟩,⟨SX.er_one KX G ?a_2 ?l_2 ?n1_2 ?n1e_2 ?n2_2 ?tl ?lf_2 ?cf_2 ?cc_2 ?ck_2 ?sa_2 ?ob_2 ?ga_2 ?gg_2 ?hd_2 ?be_2 ?kp_2 ?bb_2,?y1_2⟩,⟨SX.er_one KX G ?a_3 ?l_3 ?n1_3 ?n1e_3 ?n2_3 ?tl ?lf_3 ?cf_3 ?cc_3 ?ck_3 ?sa_3 ?ob_3 ?ga_3 ?gg_3 ?hd_3 ?be_3 ?kp_3 ?bb_3,?y1_3⟩⟩⟩;(case a_0=>k_is);(case l_0=>k_is);(case n1_0=>k_is);(case n1e_0=>rfl);(case n2_0=>k_is);(case lf_0=>k_is);(case cf_0=>rfl);(case cc_0=>k_is);(case ck_0=>k_is);(case sa_0=>k_is);(case ob_0=>k_is);(case ga_0=>k_is);(case gg_0=>k_is);(case hd_0=>k_is);(case be_0=>k_is);(case kp_0=>k_is);(case y1_0=>k_is);(case y2_0=>k_is);(case y3_0=>k_is);(case bb_0=>exact λ_ _ _ _ _ _ us hl=>by obtain⟨_,_,_,_,rfl⟩:=L2.len4 hl;rfl);(case tl=>refine' SX.tail_mk ?lq ?eq ?nq ?nqe ?iq;(case lq=>k_is);(case eq=>rfl);(case nq=>k_is);(case nqe=>rfl);(case iq=>k_is));(case a_1=>k_is);(case l_1=>k_is);(case n1_1=>k_is);(case n1e_1=>rfl);(case n2_1=>k_is);(case lf_1=>k_is);(case cf_1=>rfl);(case cc_1=>k_is);(case ck_1=>k_is);(case sa_1=>k_is);(case ob_1=>k_is);(case ga_1=>k_is);(case gg_1=>k_is);(case hd_1=>k_is);(case be_1=>k_is);(case kp_1=>k_is);(case y1_1=>k_is);(case bb_1=>exact λ_ _ _ _ _ _ us hl=>by obtain⟨_,_,rfl⟩:=L2.len2 hl;rfl);(case a_2=>k_is);(case l_2=>k_is);(case n1_2=>k_is);(case n1e_2=>rfl);(case n2_2=>k_is);(case lf_2=>k_is);(case cf_2=>rfl);(case cc_2=>k_is);(case ck_2=>k_is);(case sa_2=>k_is);(case ob_2=>k_is);(case ga_2=>k_is);(case gg_2=>k_is);(case hd_2=>k_is);(case be_2=>k_is);(case kp_2=>k_is);(case y1_2=>k_is);(case bb_2=>exact λ_ _ _ _ _ _ us hl=>by obtain⟨_,_,rfl⟩:=L2.len2 hl;rfl);(case a_3=>k_is);(case l_3=>k_is);(case n1_3=>k_is);(case n1e_3=>rfl);(case n2_3=>k_is);(case lf_3=>k_is);(case cf_3=>rfl);(case cc_3=>k_is);(case ck_3=>k_is);(case sa_3=>k_is);(case ob_3=>k_is);(case ga_3=>k_is);(case gg_3=>k_is);(case hd_3=>k_is);(case be_3=>k_is);(case kp_3=>k_is);(case y1_3=>k_is);(case bb_3=>exact λ_ _ _ _ _ _ us hl=>by obtain⟨_,_,rfl⟩:=L2.len2 hl;rfl)
  have ht:∃C,SX.TabF (L2.KOf KX) mg C:=by
   dsimp only[L2.KOf];refine' SX.tab_mk KX G ?aC ?pg ?hd ?po ?sa ?mk ?kc ?y1 ?y2 ?y3 ?y4 ?y5 ?y6 ?y7 ?y8 ?y9 ?a1 ?i1 ?l1 ?c1 ?k1 ?ms;(case aC|pg|hd|po|sa|mk|kc|y1|y2|y3|y4|y5|y6|y7|y8|y9|a1|i1|l1|c1|k1=>k_is)
   (case ms=>constructor<;>(refine' L2.LX ?za ?zi ?zl ?zc ?zk ?zb;(case za|zi|zl|zc|zk=>k_is);(case zb=>exact λ_ _ _ _ _ _ us hl=>by first|(obtain⟨_,rfl⟩:=L2.len1 hl;rfl)|(obtain⟨_,_,rfl⟩:=L2.len2 hl;rfl)|(obtain⟨_,_,_,rfl⟩:=L2.len3 hl;rfl)|(obtain⟨_,_,_,_,rfl⟩:=L2.len4 hl;rfl)|(obtain⟨_,_,_,_,_,rfl⟩:=L2.len5 hl;rfl))))
  have hS:∃c0 c1 c2 c3 cb,SX.AllSt (L2.KOf KX) mg c0 c1 c2 c3 cb:=by
   dsimp only[L2.KOf];refine' ⟨_,_,_,_,_,⟨SX.st_mk KX G ?aC_0 ?pg_0 ?hd_0 ?po_0 ?sa_0 ?mk_0 ?kc_0 ?y1_0 ?y2_0 ?y3_0 ?y4_0 ?y5_0 ?a1_0 ?i1_0 ?l1_0 ?c1_0 ?k1_0 ?bb_0 ?ha_0 ?hn_0 ?htk_0 ?hm_0 ?ms_0,SX.st_mk KX G ?aC_1 ?pg_1 ?hd_1 ?po_1 ?sa_1 ?mk_1 ?kc_1 ?y1_1 ?y2_1 ?y3_1 ?y4_1 ?y5_1 ?a1_1 ?i1_1 ?l1_1 ?c1_1 ?k1_1 ?bb_1 ?ha_1 ?hn_1 ?htk_1 ?hm_1 ?ms_1,SX.st_mk KX G ?aC_2 ?pg_2 ?hd_2 ?po_2 ?sa_2 ?mk_2 ?kc_2 ?y1_2 ?y2_2 ?y3_2 ?y4_2 ?y5_2 ?a1_2 ?i1_2 ?l1_2 ?c1_2 ?k1_2 ?bb_2 ?ha_2 ?hn_2 ?htk_2 ?hm_2 ?ms_2,SX.st_mk KX G ?aC_3 ?pg_3 ?hd_3 ?po_3 ?sa_3 ?mk_3 ?kc_3 ?y1_3 ?y2_3 ?y3_3 ?y4_3 ?y5_3 ?a1_3 ?i1_3 ?l1_3 ?c1_3 ?k1_3 ?bb_3 ?ha_3 ?hn_3 ?htk_3 ?hm_3 ?ms_3,?kk_0,SX.kit_mk ?e_10 ?hm_0 ?t_0 ?u_10,SX.kit_mk ?e_20 ?hm_0 ?t_0 ?u_20,SX.kit_mk ?e_30 ?hm_0 ?t_0 ?u_30,SX.kit_mk ?e_01 ?hm_1 ?t_1 ?u_01,?kk_1,SX.kit_mk ?e_21 ?hm_1 ?t_1 ?u_21,SX.kit_mk ?e_31 ?hm_1 ?t_1 ?u_31,SX.kit_mk ?e_02 ?hm_2 ?t_2 ?u_02,SX.kit_mk ?e_12 ?hm_2 ?t_2 ?u_12,?kk_2,SX.kit_mk ?e_32 ?hm_2 ?t_2 ?u_32,SX.kit_mk ?e_03 ?hm_3 ?t_3 ?u_03,SX.kit_mk ?e_13 ?hm_3 ?t_3 ?u_13,SX.kit_mk ?e_23 ?hm_3 ?t_3 ?u_23,?kk_3,SX.kit_mk ?eb_0 ?hmb ?tb ?ub_0,SX.kit_mk ?eb_1 ?hmb ?tb ?ub_1,SX.kit_mk ?eb_2 ?hmb ?tb ?ub_2,SX.kit_mk ?eb_3 ?hmb ?tb ?ub_3,SX.base_mk (mc:=.type "type") ?bga ?brd ?bfc ?bl1 ?bc1 ?bk1,cO KX G ?mb⟩⟩;(case aC_0|aC_1|aC_2|aC_3|mb=>k_is)
   (case ms_0|ms_1|ms_2|ms_3=>constructor<;>(refine' L2.LX ?za ?zi ?zl ?zc ?zk ?zb;(case za|zi|zl|zc|zk=>k_is);(case zb=>exact λ_ _ _ _ _ _ us hl=>by first|(obtain⟨_,rfl⟩:=L2.len1 hl;rfl)|(obtain⟨_,_,rfl⟩:=L2.len2 hl;rfl)|(obtain⟨_,_,_,rfl⟩:=L2.len3 hl;rfl)|(obtain⟨_,_,_,_,rfl⟩:=L2.len4 hl;rfl)|(obtain⟨_,_,_,_,_,rfl⟩:=L2.len5 hl;rfl))))
   (case bb_0|bb_1|bb_2|bb_3=>exact λ_ _ _ _ _ _ us hl=>by first|(obtain⟨_,rfl⟩:=L2.len1 hl;rfl)|(obtain⟨_,_,rfl⟩:=L2.len2 hl;rfl)|(obtain⟨_,_,_,rfl⟩:=L2.len3 hl;rfl)|(obtain⟨_,_,_,_,rfl⟩:=L2.len4 hl;rfl)|(obtain⟨_,_,_,_,_,rfl⟩:=L2.len5 hl;rfl))
   (case e_01|e_02|e_03|e_10|e_12|e_13|e_20|e_21|e_23|e_30|e_31|e_32|eb_0|eb_1|eb_2|eb_3=>decide)
   (case kk_0|kk_1|kk_2|kk_3=>unfold ak;rw[if_pos (by simp)])
   (case pg_0|hd_0|po_0|sa_0|mk_0|kc_0|y1_0|y2_0|y3_0|y4_0|y5_0|a1_0|i1_0|l1_0|c1_0|k1_0|ha_0|hn_0|htk_0|hm_0|pg_1|hd_1|po_1|sa_1|mk_1|kc_1|y1_1|y2_1|y3_1|y4_1|y5_1|a1_1|i1_1|l1_1|c1_1|k1_1|ha_1|hn_1|htk_1|hm_1|pg_2|hd_2|po_2|sa_2|mk_2|kc_2|y1_2|y2_2|y3_2|y4_2|y5_2|a1_2|i1_2|l1_2|c1_2|k1_2|ha_2|hn_2|htk_2|hm_2|pg_3|hd_3|po_3|sa_3|mk_3|kc_3|y1_3|y2_3|y3_3|y4_3|y5_3|a1_3|i1_3|l1_3|c1_3|k1_3|ha_3|hn_3|htk_3|hm_3|t_0|t_1|t_2|t_3|u_01|u_02|u_03|u_10|u_12|u_13|u_20|u_21|u_23|u_30|u_31|u_32|hmb|tb|ub_0|ub_1|ub_2|ub_3|bga|brd|bfc|bl1|bc1|bk1=>k_is)
  refine' SX.law_fd KX G hmg W Gt Zs Zm B D ht hmin hn hS ?fa ?fl ?fc ?fk;(case fa|fl|fc|fk=>k_is)
