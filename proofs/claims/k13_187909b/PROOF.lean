import PyProof.Rows.All
import Wide.All
import OpenK.AllK
import Wide.FinOn
import Lean
import PyProof.EqAt
import PyProof.EqKinds
import PyProof.TupleCall
import KE.KIntText
import KE.IntTextLaws
import PyProof.ExcClass3
import PyProof.InstStoreFacts
import PyProof.ExcBaseAll.ValueError
import PyProof.NsDelKeeps
import PyProof.ExcAttrAll.ValueError
import OpenK.KTop
import PyProof.ZipIter
import PyProof.ListNew
import PyProof.ListRange
import PyProof.ReprRoads
import PyProof.Rows.FactsT3
import PyProof.Rows.SumAny
import PyProof.CompUse
import PyProof.EqLayable
import PyProof.CallFns
import PyProof.StrBlock
import PyProof.ReprLen
import PyProof.MeetsDict
import PyProof.DictWalks
import PySem.Challenge.RW_homequay_k13_webs
open PySem renaming wpAny_bind→ae,Shared→ah,wpAny_pure→ai,Spec→ay,starEach→aA,mainGlobals→aK,Around→aL,wpAny_holding→aW,wpAny_field→bc,wpAny_callSpecial?_slot→br,wpAny_newObj_type→bt,wpAny_setField→bz,OsState→bA,wpAny_call_entry→bB,rawInt→bC,FuncData→bH,wpAny_dictEpoch→bJ,wpAny_truthy_bool→bS,compareOp→bU,bootBuiltins→bX,boot_len→b6,backTo→b8,wpAny_loadPart_at→b_,wpAny_dictEntries→cg,Paired→cz,Builtin→cC,wpAny_mono→cM,keywordEach→cU,tupleKind→cY,assignEach→c_,mem_of_lookup→df,attributeBase→dq,wpAny_typeNameOfWhole_itemiter→dG,wpAny_typeNameOfWhole_keyiter→dJ,wpAny_Call_Name_kw→dM,wpAny_attempt→dN,behindInMarks→dQ,Within→dR,NameKind→dW,backToKw→d6,wpAny_rule→d8,wpAny_getItem_str_slice→d9,firstArgMember→et,plainObj_wpAny_Assign_Attribute→eM,getMethod→eQ,holding→eS,wpAny_standAt→eU,binaryOp→eZ,sliceBounds→e_,sizeLine_eq→fe,pyNext→fq,wpAny_passesOwn→fu,wpAny_isSubtype_exc→fB,codeAny_mono→fD,swapsWith→fG,wpAny_seqItems→fL,codeAny→fS,foldedSetIterable→fU,ExceptHandler→fX,callWith→f_,ZipApart→gf,standAt→gu,wpAny_call→gv,wpAny_nextOf_list_item→gy,wpAny_isOneOf_itemiter→gA,wpAny_updateSeq→gD,wpAny_specialOf→gF,wpAny_loadPart'→gG,wpAny_execs_nil→gH,post_val_or_str→gI,letOwnedTupleGo→gK,wpAny_notOrdered_dict→gM,Thread→gT,IsPair→gU,strIterType→gV,wpAny_fieldsOf→gW,placesWithHash→gX,Keyword→gZ,typeLookup→ig,wpAny_pyIter_tuple→ik,tupleKind_room_in1→ip
open PySem.W renaming Frag→af,kitOne→aj,findIn→ak,keepIn→aJ,nsIn→aX,fnOf→a9,codeIn→bN,kia_one→bP,hasDictIn→bZ,emptyDict→b5,mg_of→cj,mroIn→cL,nsOkIn→cO,instObj→cV,tailIn→da,plainGet→de,callWith_K→du,kia_tup→dA,methodCall_KW→dE,isFn→dZ,plainOver→d5,looks_findIn→eh,makesIn→eB,specialIn→fj,hideAll→fN,notCls→fY,lookIn→fZ,hideAll_none→f6,plainGet_of→gh,mg_none_of→gB,methodObj→gN,kitx_list→gO,kitx_dict→gP,handedIn→gY,takerIn→g_,OpenLaw→hG,kitAny→ir,InstAt→iu
open PySem.Challenge renaming pw_homequay_k13_webs→ag,rw_homequay_k13_webs→cv
open Option.some renaming inj→ao
open List renaming mem_cons_of_mem→aq,size_toArray→ar,mem_cons→au,mem_map→av,getElem?_eq_some_iff→aw,length_append→ax,mem_cons_self→az,length_take→aB,getElem?_map→aD,not_mem_nil→aG,getElem_mem→aH,map_cons→aI,mem_append→aN,take_length→aO,length_cons→aP,mem_of_getElem?→aQ,range→aT,mem_singleton→aU,take_of_length_le→aV,mem_append_right→aZ,map_append→a8,mem_append_left→ba,mem_iff_getElem?→bj,append_nil→bo,getD_eq_getElem?_getD→bp,length_map→bu,take_succ→bE,length_zip→bF,append_assoc→bO,length_filter_le→bQ,all_eq_true→bV,length_range→b7,mem_filter→b9,mem_range→cA,nodup_cons→cF,find?_cons→cJ,getElem?_append_left→cZ,drop_eq_getElem_cons→c8,mem_flatMap→dh,lookup_cons→di,map_map→dB,contains_cons→dC,of_mem_zip→dH,getElem?_eq_none→dI,zip_cons_cons→dY,lookup→eI,eq_nil_of_length_eq_zero→eJ,range_succ→eN,filterMap_cons→eR,nodup_nil→fh,getElem?_append_right→fo,sum_cons→fH,any_cons→fJ,getElem_inj→fO,map_nil→fT,length_pos_of_mem→fV,getElem?_set_self→fW,pairwise_flatMap→f7,length_singleton→f9,set→gi,pairwise_append→gj,mem_of_mem_take→gk,getElem?_set_ne→gm,drop_eq_nil_iff→gq,mem_filterMap→gR,filter_append→gS,pairwise_map→g7,nodup_append→g8,length_drop→hV,getElem_zip→hX,cons_append→hZ,any_eq_true→h_,range'→ij
open PySem.W.Fast renaming tw5923862056798008813→aE,tw4187177175401517315→aF
open PySem.F renaming plainAttrs_list→aR,type_list_append→cq,slot_list_append→cu,slot_dict_setdefault→eG,type_list_extend→fz,slot_list_extend→fA,type_list_clear→fE,slot_list_clear→fF,slot_dict_get→fR,type_dict_setdefault→hJ
open PySem.PassesOwn renaming never→aY,leaving→eV
open Option renaming map_eq_some_iff→a_,isSome_iff_exists→dU,map_some→fQ
open PySem.Builtin.SmallTypes renaming nextOf→bg,ownedTupleIsFree→cy
open Or renaming inl→bh,inr→dX
open PySem.Paired renaming length→bq,snoc→ft
open Ne renaming symm→bw
open True renaming intro→bD
open PySem.SeqAt renaming shaped→bG
open Array renaming getElem?_eq_getElem→bI,length_toList→dg,getElem?_toList→d_,mem_toList_iff→eF,getElem?_eq_some_iff→ff,all_toList→fM
open PyProof.Rows renaming boot_isinstance→bK,callWith_type1→bR,envOfC→dD,AllBare→fC,boot_repr→ia
open False renaming elim→bL
open PySem.NameKind renaming free→bY,cell→fg
open Sum renaming inr→cD,inl→gC
open PySem.Builtin.ObjectAttr renaming storeInDict→cQ,newKeyGuard→fP
open PySem.Builtin.List renaming listExtendWith→dw,listTooLong→eO,listSameRef→g9,listItems→ie
open PySem.Builtin.Str renaming strSliceIndices→dz,occurrences→ic
open ForInStep renaming yield→dS
open PySem.Calls renaming callWith_builtin→d7
open Prod.mk renaming injEq→fv
open PySem.Builtin.Dict_items renaming pairFromOwner→fK
open PySem.StrLaws renaming glued_eq_join→gL
open PySem.Around renaming under→gQ
open Classical renaming byContradiction→ib
open PySem.Builtin.Dict renaming showsAll→iw
open PySem in
abbrev q_b:Str:="_law_box_here"
open PySem in
abbrev q_w:Str:="_law_world_here"
open PySem in
abbrev q_p:Str:="_law_places_here"
open PySem in
abbrev q_s:Str:="_law_strange"
open PySem in
abbrev q_n:Str:="_law_name_here"
open PySem in
abbrev q_t:Str:="_law_table_here"
namespace RG
open PySem PySem.W PyProof.Rows
noncomputable def runG(thr ok:gT->Bool)(st:SharedT->gT->Option (SharedT×gT))(n:Nat):SharedT->gT->Option SharedT:=@Nat.rec (λ_=>SharedT->gT->Option SharedT) (λ_ _=>none) (λ_ ih s t=>@Bool.rec (λ_=>Option SharedT) (@Bool.rec (λ_=>Option SharedT) none (@Option.rec (SharedT×gT) (λ_=>Option SharedT) none (λx=>@Prod.rec SharedT gT (λ_=>Option SharedT) (λs' t'=>ih s' t') x) (st s t)) (ok t)) (some s) (thr t)) n
theorem Qf{tb:String->Option cC}{p:Program}{w:World}{m:Nat}{ann:Option Value}:∀{n:Nat}{s r:SharedT}{t:gT},runG through (stepOk m ann) (stepT (denote tb) p w) n s t=some r->topRun tb p w m ann n s.abs t=some r.abs
|0,_,_,_,h=>by cases h
|n+1,s,r,t,h=>by
  have h':@Bool.rec (λ_=>Option SharedT) (@Bool.rec (λ_=>Option SharedT) none (@Option.rec (SharedT×gT) (λ_=>Option SharedT) none (λx=>@Prod.rec SharedT gT (λ_=>Option SharedT) (λs' t'=>runG through (stepOk m ann) (stepT (denote tb) p w) n s' t') x) (stepT (denote tb) p w s t)) (stepOk m ann t)) (some s) (through t)=some r:=h;unfold topRun;cases ht:through t with
 |true=>rw[ht]at h';cases h';rfl
 |false=>
   rw[ht]at h';cases ho:stepOk m ann t with
  |false=>rw[ho]at h';cases h'
  |true=>
    rw[ho]at h';cases hs:stepT (denote tb) p w s t with
   |none=>rw[hs]at h';cases h'
   |some x=>obtain⟨s',t'⟩:=x;rw[hs]at h';rw[stepT_spec hs];exact Qf (n:=n) h'
noncomputable def mkT(l:List Obj):BT:=(l.foldl (λ(x:BT×Nat)o=>(x.1.ins x.2 o,x.2+1)) (BT.nil,0)).1
noncomputable def T0(w:World)(os:bA):SharedT:=⟨mkT (boot_heap w.params).objs.toList,11,(boot_heap w.params).life,⟨[]⟩,boot_drawn,boot_toks,os⟩
theorem EK(w:World)(os:bA):(T0 w os).abs=⟨boot_heap w.params,⟨[]⟩,boot_drawn,boot_toks,os⟩:=by kernel_rfl
theorem sz(w:World):((boot_heap w.params).isNs aK&&((⟨[]⟩:Array GenState).size==0),(boot_heap w.params).objs.size,(boot_heap w.params).nsMap aK "__annotations__")=(true,11,some (.ref 6)):=by kernel_rfl
noncomputable def go(p:Program)(n:Nat)(w:World)(os:bA):Option SharedT:=runG through (PySem.W.Fast.tw6613529449190102663 11 (some (.ref 6))) (PySem.W.Fast.tw10156331382660048174 (PySem.W.Fast.tw11892475500146522536 PySem.W.Fast.tw14364793385576792824) p w) n (T0 w os) (topStub p)
theorem go_eq(p:Program)(n:Nat)(w:World)(os:bA):go p n w os=runG through (stepOk 11 (some (.ref 6))) (stepT (denote treeTable) p w) n (T0 w os) (topStub p):=by unfold go;rw[PySem.W.Fast.te6613529449190102663,PySem.W.Fast.te10156331382660048174,PySem.W.Fast.te11892475500146522536,PySem.W.Fast.te14364793385576792824]
noncomputable def chk(p:Program)(w:World)(s:ah):Bool:=staticsOk (importedModules p.main.body) (boot_heap w.params) s.heap&&namesBound p s.heap&&gensDone s&&laidKept (boot_heap w.params) s.heap
noncomputable def lk(p:Program){α:Type}(F:ah->α)(n:Nat)(w:World)(os:bA):Option α:=@Option.rec SharedT (λ_=>Option α) none (λr=>some (F r.abs)) (go p n w os)
noncomputable abbrev lkS(p q:Program)(loose:List Str)(Xt:ah->Bool)(n:Nat)(w:World)(os:bA):=lk p (λs=>(chk p w s,aF q loose (aE p.main.body) Xt true s)) n w os
theorem left{p q:Program}{loose:List Str}{Xt:ah->Bool}{α:Type}{Yf:ah->α}{Ya:World->α}{N:Nat}(row:String)(e1:opening p=plainProg p.main.scope.names)(e2:Nat.ble 600 N=true)(e3:∀s:ah,fenceModules? p s=some s)(hf:∀(w:World)(os:bA),lkS p q loose Xt N (w.withFollow row false) os=some (true,openGood q loose))(ht:∀(w:World)(os:bA),lkS p q loose Xt N (w.withFollow row true) os=some (true,openGood q loose))(kf:∀(w:World)(os:bA),lk p Yf N (w.withFollow row false) os=some (Ya (w.withFollow row false)))(kt:∀(w:World)(os:bA),lk p Yf N (w.withFollow row true) os=some (Ya (w.withFollow row true))):LeftO p q loose Xt Yf Ya N:=λw=>by
 have hw:∀os:bA,lkS p q loose Xt N w os=some (true,openGood q loose):=byRow2 row (P:=λw=>∀os:bA,lkS p q loose Xt N w os=some (true,openGood q loose)) hf ht w;have kw:∀os:bA,lk p Yf N w os=some (Ya w):=byRow2 row (P:=λw=>∀os:bA,lk p Yf N w os=some (Ya w)) kf kt w;obtain⟨⟨h,gs,d,k,os⟩,e,e'⟩:=a_.mp (boot_open e1 e2 e3 w);obtain⟨rfl,rfl,rfl,rfl⟩:h=boot_heap w.params/\gs=⟨[]⟩/\d=boot_drawn/\k=boot_toks:=by simpa using e'
 obtain⟨z1,z2,z3⟩:_/\_/\_:=by simpa only[fv]using sz w
 have hl:=hw os;have kl:=kw os;unfold lkS lk at hl;unfold lk at kl;rw[<-PySem.W.Fast.te4187177175401517315,<-PySem.W.Fast.te5923862056798008813]at hl;cases hg:go p N w os with
|none=>rw[hg]at hl;cases hl
|some r=>
  rw[hg]at hl kl;have hl':(chk p w r.abs,openSeen q loose (importedModules p.main.body) Xt true r.abs)=(true,openGood q loose):=ao hl;have kl':Yf r.abs=Ya w:=ao kl;obtain⟨l1,l2⟩:=Prod.mk.inj hl';rw[go_eq]at hg;have hr:=Qf hg;rw[EK]at hr;have t:topFrom treeTable p w N ⟨boot_heap w.params,⟨[]⟩,boot_drawn,boot_toks,os⟩=some r.abs:=by
   unfold topFrom;dsimp only;rw[z1,z2,z3,hr];show(match chk p w r.abs with|true=>some r.abs|false=>none)=_
   rw[l1]
  unfold openEnds;rw[e];show(topFrom treeTable p w N _).map _=_;rw[t];exact congrArg some (Prod.ext l2 kl')
end RG
set_option Elab.async false
set_option linter.all false
set_option maxRecDepth 100000
set_option maxHeartbeats 4000000
namespace RG
open PySem PySem.W PyProof.Rows
noncomputable def tp(i:Nat):Stmt:=ag.main.body.getD i (.Pass ⟨0,0,0,0⟩)
noncomputable def QV:Program:={ag with main:={ag.main with body:=[tp 0,tp 2,tp 3,tp 4,tp 6,tp 7,tp 8,tp 9,tp 10,tp 11,tp 12,tp 13,tp 14,tp 15,tp 17,tp 18,tp 19,tp 20,tp 21,tp 22,tp 23,tp 24,tp 25,tp 26,tp 28,tp 29,tp 31,tp 32,tp 33,tp 34,tp 35,tp 36,tp 37,tp 38,tp 39,tp 40,tp 41,tp 42,tp 43,tp 44,tp 45,tp 46,tp 48,tp 49,tp 50,tp 51,tp 52,tp 53,tp 54,tp 55,tp 56,tp 57,tp 58,tp 59,tp 60,tp 61,tp 62,tp 63,tp 64,tp 65,tp 66,tp 67]}}
noncomputable abbrev LO:List Str:=["MOST_ROWS","ROW_SIZES"]
noncomputable abbrev XT:ah->Bool:=λs=>xlAt QV [] s&&recOk (RowW.records (OpenRow.toRowW (cv.row))) s
noncomputable def p1{α β:Type}(x:α×β):α:=@Prod.rec α β (λ_=>α) (λa _=>a) x
noncomputable def p2{α β:Type}(x:α×β):β:=@Prod.rec α β (λ_=>β) (λ_ b=>b) x
theorem u5(w:World)(os:bA):lk ag (λs=>p1 (p2 (p2 (p2 (p2 (p2 (aF QV LO (aE ag.main.body) XT true s))))))) 12000 (w.withFollow "special-get-raises" false) os=some ((openGood QV LO).2.2.2.2.2.1):=by kernel_rfl
theorem u2(w:World)(os:bA):lk ag (λs=>p1 (p2 (p2 (aF QV LO (aE ag.main.body) XT true s)))) 12000 (w.withFollow "special-get-raises" false) os=some ((openGood QV LO).2.2.1):=by kernel_rfl
theorem u0(w:World)(os:bA):lk ag (λs=>p1 (aF QV LO (aE ag.main.body) XT true s)) 12000 (w.withFollow "special-get-raises" false) os=some ((openGood QV LO).1):=by kernel_rfl
theorem u3(w:World)(os:bA):lk ag (λs=>p1 (p2 (p2 (p2 (aF QV LO (aE ag.main.body) XT true s))))) 12000 (w.withFollow "special-get-raises" false) os=some ((openGood QV LO).2.2.2.1):=by kernel_rfl
theorem u7(w:World)(os:bA):lk ag (λs=>p1 (p2 (p2 (p2 (p2 (p2 (p2 (p2 (aF QV LO (aE ag.main.body) XT true s))))))))) 12000 (w.withFollow "special-get-raises" false) os=some ((openGood QV LO).2.2.2.2.2.2.2.1):=by kernel_rfl
theorem uA(w:World)(os:bA):lk ag (λs=>(p1 (p2 (p2 (p2 (p2 (aF QV LO (aE ag.main.body) XT true s))))),p1 (p2 (p2 (p2 (p2 (p2 (p2 (aF QV LO (aE ag.main.body) XT true s))))))),p2 (p2 (p2 (p2 (p2 (p2 (p2 (p2 (aF QV LO (aE ag.main.body) XT true s)))))))))) 12000 (w.withFollow "special-get-raises" false) os=some (((openGood QV LO).2.2.2.2.1,(openGood QV LO).2.2.2.2.2.2.1,(openGood QV LO).2.2.2.2.2.2.2.2)):=by kernel_rfl
theorem uB(w:World)(os:bA):lk ag (λs=>(chk ag (w.withFollow "special-get-raises" false) s,p1 (p2 (aF QV LO (aE ag.main.body) XT true s)))) 12000 (w.withFollow "special-get-raises" false) os=some ((true,(openGood QV LO).2.1)):=by kernel_rfl
theorem gE(w:World)(os:bA):go ag 12000 (w.withFollow "special-get-raises" true) os=go ag 12000 (w.withFollow "special-get-raises" false) os:=by kernel_rfl
theorem nine{A B C D E F G H I:Type}(x y:A×B×C×D×E×F×G×H×I)(h0:p1 x=y.1)(h1:p1 (p2 x)=y.2.1)(h2:p1 (p2 (p2 x))=y.2.2.1)(h3:p1 (p2 (p2 (p2 x)))=y.2.2.2.1)(h4:p1 (p2 (p2 (p2 (p2 x))))=y.2.2.2.2.1)(h5:p1 (p2 (p2 (p2 (p2 (p2 x)))))=y.2.2.2.2.2.1)(h6:p1 (p2 (p2 (p2 (p2 (p2 (p2 x))))))=y.2.2.2.2.2.2.1)(h7:p1 (p2 (p2 (p2 (p2 (p2 (p2 (p2 x)))))))=y.2.2.2.2.2.2.2.1)(h8:p2 (p2 (p2 (p2 (p2 (p2 (p2 (p2 x)))))))=y.2.2.2.2.2.2.2.2):x=y:=by obtain⟨a,b,c,d,e,f,g,h,i⟩:=x;obtain⟨a',b',c',d',e',f',g',h',i'⟩:=y;obtain rfl:a=a':=h0;obtain rfl:b=b':=h1;obtain rfl:c=c':=h2;obtain rfl:d=d':=h3;obtain rfl:e=e':=h4;obtain rfl:f=f':=h5;obtain rfl:g=g':=h6;obtain rfl:h=h':=h7;obtain rfl:i=i':=h8;rfl
section
variable {p:Program}{n:Nat}{w:World}{os:bA}{α β:Type}
theorem DX{F:ah->α}{G:ah->β}{x:α}{y:β}(h1:lk p F n w os=some x)(h2:lk p G n w os=some y):lk p (λs=>(F s,G s)) n w os=some (x,y):=by
 unfold lk at h1 h2 ⊢;cases hg:go p n w os with
|none=>rw[hg]at h1;cases h1
|some r=>rw[hg]at h1 h2;exact congrArg some (congr (congrArg Prod.mk (ao h1)) (ao h2))
theorem RC{F:ah->α}{G:ah->β}{x:α}{y:β}(h:lk p (λs=>(F s,G s)) n w os=some (x,y)):lk p F n w os=some x:=by
 unfold lk at h ⊢;cases hg:go p n w os with
|none=>rw[hg]at h;cases h
|some r=>rw[hg]at h;exact congrArg some (Prod.mk.inj (ao h)).1
theorem Px{F:ah->α}{G:ah->β}{x:α}{y:β}(h:lk p (λs=>(F s,G s)) n w os=some (x,y)):lk p G n w os=some y:=by
 unfold lk at h ⊢;cases hg:go p n w os with
|none=>rw[hg]at h;cases h
|some r=>rw[hg]at h;exact congrArg some (Prod.mk.inj (ao h)).2
theorem DY{A B C D E F G H I:Type}{X:ah->A×B×C×D×E×F×G×H×I}{y:A×B×C×D×E×F×G×H×I}(h0:lk p (λs=>p1 (X s)) n w os=some y.1)(h1:lk p (λs=>p1 (p2 (X s))) n w os=some y.2.1)(h2:lk p (λs=>p1 (p2 (p2 (X s)))) n w os=some y.2.2.1)(h3:lk p (λs=>p1 (p2 (p2 (p2 (X s))))) n w os=some y.2.2.2.1)(h4:lk p (λs=>p1 (p2 (p2 (p2 (p2 (X s)))))) n w os=some y.2.2.2.2.1)(h5:lk p (λs=>p1 (p2 (p2 (p2 (p2 (p2 (X s))))))) n w os=some y.2.2.2.2.2.1)(h6:lk p (λs=>p1 (p2 (p2 (p2 (p2 (p2 (p2 (X s)))))))) n w os=some y.2.2.2.2.2.2.1)(h7:lk p (λs=>p1 (p2 (p2 (p2 (p2 (p2 (p2 (p2 (X s))))))))) n w os=some y.2.2.2.2.2.2.2.1)(h8:lk p (λs=>p2 (p2 (p2 (p2 (p2 (p2 (p2 (p2 (X s))))))))) n w os=some y.2.2.2.2.2.2.2.2):lk p X n w os=some y:=by
 unfold lk at *;cases hg:go p n w os with
|none=>rw[hg]at h0;cases h0
|some r=>rw[hg]at h0 h1 h2 h3 h4 h5 h6 h7 h8;exact congrArg some (nine _ _ (ao h0) (ao h1) (ao h2) (ao h3) (ao h4) (ao h5) (ao h6) (ao h7) (ao h8))
end
theorem lg(w:World)(os:bA):lk ag (λs=>aF QV LO (aE ag.main.body) XT true s) 12000 (w.withFollow "special-get-raises" false) os=some (openGood QV LO):=DY (u0 w os) (Px (uB w os)) (u2 w os) (u3 w os) (RC (uA w os)) (u5 w os) (RC (Px (uA w os))) (u7 w os) (Px (Px (uA w os)))
theorem lf(w:World)(os:bA):lkS ag QV LO XT 12000 (w.withFollow "special-get-raises" false) os=some (true,openGood QV LO):=DX (RC (uB w os)) (lg w os)
theorem HN{p:Program}{n:Nat}{w w':World}{os:bA}{α:Type}{F:ah->α}(h:go p n w os=go p n w' os):lk p F n w os=lk p F n w' os:=by unfold lk;rw[h]
theorem lkE{α:Type}(F:ah->α)(w:World)(os:bA):lk ag F 12000 (w.withFollow "special-get-raises" true) os=lk ag F 12000 (w.withFollow "special-get-raises" false) os:=HN (gE w os)
theorem chkE(w:World):chk ag (w.withFollow "special-get-raises" true)=chk ag (w.withFollow "special-get-raises" false):=rfl
theorem lt(w:World)(os:bA):lkS ag QV LO XT 12000 (w.withFollow "special-get-raises" true) os=some (true,openGood QV LO):=by have h:=lf w os;unfold lkS at h ⊢;rw[lkE,chkE];exact h
theorem HP{α:Type}{Yf:ah->α}{Ya:World->α}(e1:opening ag=plainProg ag.main.scope.names)(e3:∀s:ah,fenceModules? ag s=some s)(kf:∀(w:World)(os:bA),lk ag Yf 12000 (w.withFollow "special-get-raises" false) os=some (Ya (w.withFollow "special-get-raises" false)))(hv:∀w:World,Ya (w.withFollow "special-get-raises" true)=Ya (w.withFollow "special-get-raises" false)):LeftO ag QV LO XT Yf Ya 12000:=left "special-get-raises" e1 (by decide) e3 lf lt kf λw os=>by rw[lkE,kf w os,hv w]
end RG
section
open PySem PySem.W PyProof.Rows
set_option hygiene false in
local macro_rules
|`(tactic| o_head $H)=>`(tactic| (have HH:=$H;exact z.elim))
set_option maxRecDepth 100000 in
set_option maxHeartbeats 0 in
theorem RG.hk(z:False):cv.Holds:=by w_on;o_law;k_head
end
namespace RG
open PySem PySem.W PyProof.Rows
noncomputable def AS:List Addr:=[2,3,15,17,18,20,21,22,29,30,31,32,35,42,44,45,47,48,49,50,51,54,61,63,64,66,67,68,69,70,73,75,76,78,79,80,82,83,85,86,87,90,91,92,94,95,97,98,99,101,102,104,105,113,115,116,118,119,120,122,123,125,126,127,129,130,132,133,134,136,137,139,140,141,143,144,146,147,148,150,151,153,154,155,156,157,158,159,162,169,171,172,174,175,176,177,178,181,188,190,191,193,194,195,196,197,200,207,209,210,212,213,214,215,216,219,226,228,229,231,232,233,234,235,238,241,242,243,246,247,248,251,252,253,256,257,258,260,261,263,264,265,267,268,270,271,279,281,282,284,285,286,288,289,291,292,293,295,296,298,299,300,302,303,305,306,307,309,310,312,313,314,316,317,319,320,321,322,323,324,325,328,329,330,332,333,335,336,337,339,340,342,343,344,346,347,349,350,351,353,354,356,357,358,360,361,363,364,365,367,368,370,371,372,374,375,377,378,379,381,382,384,385,386,388,389,391,392,400,402,403,405,406,407,409,410,412,413,414,416,417,419,420,421,423,424,426,427,428,430,431,433,434,435,437,438,440,441,442,444,445,447,448,449,451,452,454,455,456,458,459,461,462,463,465,466,468,469,470,472,473,475,476,477,479,480,482,483,484,486,487,489,490,491,493,494,496,497,498,500,501,503,504,505,507,508,510,511,512,515,516,517,519,520,522,523,524,526,527,529,530,531,533,534,536,537,538,540,541,543,544,545,547,548,550,551,552,554,555,557,558,559,561,562,564,565,566,568,569,571,572,573,574,575,576,577,587,589,590,592,593,594,596,597,599,600,601,604,605,606,608,609,611,612,613,615,616,618,619,620,623,624,625,627,628,630,631,632,634,635,637,638,639,641,642,644,645,646,649,650,651,653,654,656,657,658,660,661,663,664,665,668,669,670,673,674,675,677,678,680,681,682,684,685,687,688,689,692,693,694,696,697,699,700,701,704,705]
theorem eK(P:Params):AS=(RG.hk.heap_39 P).map (·.1):=by kernel_rfl
theorem kfE(w:World)(os:bA):lk ag (λs=>AS.map s.heap.get?) 12000 (w.withFollow "special-get-raises" false) os=some ((RG.hk.heap_39 (w.withFollow "special-get-raises" false).params).map λp=>some p.2):=by kernel_rfl
end RG
namespace L2
open PySem PySem.Spec PyProof.Rows
noncomputable abbrev Key:=Sum Int Str
noncomputable def MC:Key->Value->Bool
|.inl k,v=>Value.isInt k v
|.inr x,v=>Value.isStrOf x v
noncomputable def keyH(w:World):Key->Int
|.inl k=>hashInt k
|.inr x=>hashStr w x
theorem ZM:∀{k:Key}{v:Value},MC k v=true->(∃i t,k=gC i/\v=Value.int i t)\/(∃x t,k=cD x/\v=Value.str x t)
|.inl i,v,h=>by obtain⟨t,e⟩:=Value.isInt_shape (k:=i) (v:=v) h;exact .inl ⟨i,t,rfl,e⟩
|.inr x,v,h=>by obtain⟨t,e⟩:=Value.isStrOf_shape (x:=x) (v:=v) h;exact .inr ⟨x,t,rfl,e⟩
theorem Wq(i:Int)(t:Tok):MC (.inl i) (.int i t)=true:=by simp[MC,Value.isInt]
theorem Wo(x:Str)(t:Tok):MC (.inr x) (.str x t)=true:=by simp[MC,Value.isStrOf]
theorem FG(a b:Int):decide ((gC a:Key)=gC b)=(a==b):=by
 by_cases e:a=b
 ·subst e;simp
 ·have h:¬(gC a:Key)=gC b:=λq=>e (Sum.inl.inj q);rw[decide_eq_false h];exact(beq_eq_false_iff_ne.mpr e).symm
theorem FC(a b:Str):decide ((cD a:Key)=cD b)=decide (a=b):=by
 by_cases e:a=b
 ·subst e;simp
 ·have h:¬(cD a:Key)=cD b:=λq=>e (Sum.inr.inj q);rw[decide_eq_false h,decide_eq_false e]
theorem FE(a:Int)(b:Str):decide ((gC a:Key)=cD b)=false:=decide_eq_false (λq=>nomatch q)
theorem FD(a:Str)(b:Int):decide ((cD a:Key)=gC b)=false:=decide_eq_false (λq=>nomatch q)
noncomputable def Zy(prog:Program)(w:World):PySem.KeyKind prog w Key where
 is:=MC
 hash:=keyH w
 inj:=λv a b ha hb=>by
  rcases ZM ha with⟨i,t,rfl,rfl⟩|⟨x,t,rfl,rfl⟩
  ·rcases ZM hb with⟨j,u,rfl,e⟩|⟨y,u,rfl,e⟩
   ·injection e with e1 _;rw[e1]
   ·exact nomatch e
  ·rcases ZM hb with⟨j,u,rfl,e⟩|⟨y,u,rfl,e⟩
   ·exact nomatch e
   ·injection e with e1 _;rw[e1]
 byValue:=λk v h=>by rcases ZM h with⟨i,t,rfl,rfl⟩|⟨x,t,rfl,rfl⟩<;>rfl
 pyHash:=λhv h=>by
  rcases ZM hv with⟨i,t,rfl,rfl⟩|⟨x,t,rfl,rfl⟩
  ·exact wpAny_pyHash_int h
  ·exact wpAny_pyHash_str h
 eqBool:=λhu hv h=>by
  rcases ZM hu with⟨i,t,rfl,rfl⟩|⟨x,t,rfl,rfl⟩
  ·rcases ZM hv with⟨j,u,rfl,rfl⟩|⟨y,u,rfl,rfl⟩
   ·rw[FG]at h;exact wpAny_eqBool_int h
   ·rw[FE]at h;exact SeqAt.EqAt.int_str i t y u _ _ _ _ h
  ·rcases ZM hv with⟨j,u,rfl,rfl⟩|⟨y,u,rfl,rfl⟩
   ·rw[FD]at h;exact SeqAt.EqAt.str_int x t j u _ _ _ _ h
   ·rw[FC]at h;exact wpAny_eqBool_str h
 «strs»:=λk x t v h=>by
  rcases ZM h with⟨i,u,rfl,e⟩|⟨y,u,rfl,e⟩
  ·exact nomatch e
  ·injection e with e1 _
   subst e1
   cases v<;>rfl
theorem Qu(prog:Program)(w:World)(i:Int)(t:Tok):(Zy prog w).is (.inl i) (.int i t)=true:=Wq i t
theorem Qt(prog:Program)(w:World)(x:Str)(t:Tok):(Zy prog w).is (.inr x) (.str x t)=true:=Wo x t
open PySem PySem.Spec PyProof.Rows
inductive V where
|non|bl (b:Bool)|int (i:Int)|str (x:Str)|byt (b:Array UInt8)|flt (b:UInt64)|ref (a:Addr)|ty (n:String)
 deriving DecidableEq
noncomputable def RelV:V->Value->Prop
|.non,u=>u=Value.none
|.bl b,u=>u=Value.bool b
|.int i,u=>∃t,u=Value.int i t
|.str x,u=>∃t,u=Value.str x t
|.byt b,u=>∃t,u=Value.bytes b t
|.flt b,u=>∃t,u=Value.float b t
|.ref a,u=>u=Value.ref a
|.ty n,u=>u=Value.type n
noncomputable abbrev Vals:List V->List Value->Prop:=cz RelV
theorem Vals.length{xs:List V}{us:List Value}(r:Vals xs us):xs.length=us.length:=bq r
theorem Vals.get:∀{xs:List V}{us:List Value}{i:Nat}{x:V},Vals xs us->xs[i]?=some x->∃u,us[i]?=some u/\RelV x u
|_,_,_,_,.nil,e=>by simp at e
|_,_,0,_,.cons r _,e=>by simp at e;subst e;exact⟨_,rfl,r⟩
|_,_,i+1,x,.cons _ t,e=>by obtain⟨u,h1,h2⟩:=Vals.get (i:=i) (x:=x) t (by simpa using e);exact⟨u,by simpa using h1,h2⟩
theorem Vals.set{x:V}{u:Value}(r:RelV x u):∀{xs:List V}{us:List Value}(i:Nat),Vals xs us->Vals (xs.set i x) (us.set i u)
|_,_,_,.nil=>.nil
|_,_,0,.cons _ t=>.cons r t
|_,_,i+1,.cons q t=>.cons q (Vals.set r i t)
theorem Vals.append:∀{xs ys:List V}{us ws:List Value},Vals xs us->Vals ys ws->Vals (xs++ys) (us++ws)
|_,_,_,_,.nil,s=>s
|_,_,_,_,.cons r t,s=>.cons r (Vals.append t s)
theorem Vals.take:∀{xs:List V}{us:List Value}(n:Nat),Vals xs us->Vals (xs.take n) (us.take n)
|_,_,0,_=>.nil
|_,_,_+1,.nil=>.nil
|_,_,n+1,.cons r t=>.cons r (Vals.take n t)
theorem Vals.drop:∀{xs:List V}{us:List Value}(n:Nat),Vals xs us->Vals (xs.drop n) (us.drop n)
|_,_,0,r=>r
|_,_,_+1,.nil=>.nil
|_,_,n+1,.cons _ t=>Vals.drop n t
noncomputable def RelO:Option V->Option Value->Prop
|some v,some u=>RelV v u
|none,none=>True
|_,_=>False
noncomputable def KV{κ:Type}:List (κ×V)->List (κ×Value)->Prop:=cz λ(p:κ×V)(q:κ×Value)=>p.1=q.1/\RelV p.2 q.2
noncomputable def kV:Key->V
|.inl i=>.int i
|.inr x=>.str x
inductive HO where
|lst (xs:List V)
|tup (xs:List V)
|dK (kvs:List (Key×V))|dT (kvs:List (List Key×V))
|set (S:Int->Bool) (n:Nat)
|ins (C dx:Addr) (fs:List (Str×V))
|own (x:Addr)
|xd (fs:List (Str×V))
|met (f x:Addr)
|rng (lo hi:Int)
|frz (o:Obj) (u:HO)
|tbl (ps:Array Value)
|ext (φ:Heap->Prop)
noncomputable abbrev Hp:=Addr->Option HO
noncomputable def upd(H:Hp)(a:Addr)(o:HO):Hp:=λb=>if b=a then some o else H b
theorem Zb{H:Hp}{a:Addr}{o:HO}:upd H a o a=some o:=by unfold upd;rw[if_pos rfl]
theorem Zg{H:Hp}{a b:Addr}{o:HO}(h:b≠a):upd H a o b=H b:=by unfold upd;rw[if_neg h]
theorem Dl{H:Hp}{a:Addr}{o u:HO}:upd (upd H a o) a u=upd H a u:=by funext b;unfold upd;split<;>rfl
theorem ne_of{H:Hp}{a b:Addr}{o u:HO}(h:H a=some o)(h':H b=some u)(d:o≠u):a≠b:=by intro e;subst e;rw[h]at h';exact d (ao h')
theorem Zf{H:Hp}{a b:Addr}{o:HO}(h:H a=some o)(h':H b=none):a≠b:=by intro e;subst e;rw[h]at h';cases h'
section
variable (P:Program)(w:World)
noncomputable def ZE(H:Hp)(h:Heap)(a:Addr):HO->Prop
|.lst xs=>xs.length<=sizeLine/\∃(its:List Value)(n:Nat),Vals xs its/\h.get? a=some {cls:=.type "list",data:=.seq its.toArray n}
|.tup xs=>xs.length<=sizeLine/\∃its:List Value,Vals xs its/\IsTup h a its.toArray
|.dK kvs=>kvs.length<=sizeLine/\(a==sysModules)=false/\∃vs,KV kvs vs/\h.DictOf (Zy P w) a vs
|.dT kvs=>kvs.length<=sizeLine/\(a==sysModules)=false/\∃xs:List (List Key×Addr×Value),cz (λ(p:List Key×V)(q:List Key×Addr×Value)=>p.1=q.1/\H q.2.1=some (.tup (p.1.map kV))/\RelV p.2 q.2.2) kvs xs /\∃o es ep,h.get? a=some o/\o.ExactDict/\o.data=.dict es ep/\es.toList=xs.map (entryOfKey (cY (Zy P w)))/\(xs.map (·.1)).Nodup
|.set S n=>h.SetOf (intKind P w) a S n
|.ins C dx fs=>H dx=some (.own a)/\fs.length<=1000/\dx≠a/\h.get? a=some (cV C dx) /\∃mA,h.Ns1 dx mA/\(∀f,RelO (fs.lookup f) (mA f))/\dR mA (fs.map (·.1))
|.own _=>∃o,h.get? a=some o
|.xd fs=>∃mA,h.Ns1 a mA/\∀f,RelO (fs.lookup f) (mA f)
|.rng lo hi=>∃t u v,h.get? a=some {cls:=.type "range",data:=.fields #[.int lo t,.int hi u,.int 1 v]}
|.frz o u=>h.get? a=some o/\ZE H h a u
|.tbl ps=>h.get? a=some {cls:=.none,data:=.fields ps}
|.met f x=>h.get? a=some (gN (.ref f) (.ref x))
|.ext φ=>φ h/\(∃o,h.get? a=some o)/\∀h1 h2:Heap,φ h1->(∀o,h1.get? a=some o->h2.get? a=some o)->φ h2
def HOk(H:Hp)(h:Heap):Prop:=∀a o,H a=some o->ZE P w H h a o
end
section
variable {P:Program}{w:World}{H H':Hp}{h h':Heap}{a:Addr}{o:HO}
theorem ZE.lt(x:ZE P w H h a o):a<h.objs.size:=by
 cases o with
|lst xs=>obtain⟨_,_,_,_,e⟩:=x;exact Heap.lt_size e
|tup xs=>obtain⟨_,_,_,p⟩:=x;exact p.lt
|dK kvs=>obtain⟨_,_,_,_,o,_,_,e,_⟩:=x;exact Heap.lt_size e
|dT kvs=>obtain⟨_,_,_,_,o,_,_,e,_⟩:=x;exact Heap.lt_size e
|set S n=>obtain⟨o,_,_,_,e,_⟩:=x;exact Heap.lt_size e
|ins C dx fs=>obtain⟨_,_,_,e,_⟩:=x;exact Heap.lt_size e
|own y=>obtain⟨_,e⟩:=x;exact Heap.lt_size e
|xd fs=>obtain⟨_,⟨_,_,_,e,_⟩,_⟩:=x;exact Heap.lt_size e
|rng lo hi=>obtain⟨_,_,_,e⟩:=x;exact Heap.lt_size e
|frz ob u=>obtain⟨e,_⟩:=x;exact Heap.lt_size e
|tbl ps=>exact Heap.lt_size (show h.get? a=some _ from x)
|met f y=>exact Heap.lt_size (show h.get? a=some _ from x)
|ext φ=>obtain⟨_,⟨_,e⟩,_⟩:=x;exact Heap.lt_size e
theorem Paired.mapP{α β:Type}{F G:α->β->Prop}:∀{l₁:List α}{l₂:List β},cz F l₁ l₂->(∀a b,F a b->G a b)->cz G l₁ l₂
|_,_,.nil,_=>.nil
|_,_,.cons r t,f=>.cons (f _ _ r) (Paired.mapP t f)
theorem ZE.stay(x:ZE P w H h a o)(k:∀b u,(b=a\/H b=some (.own a))->h.get? b=some u->h'.get? b=some u)(ho:∀b,H b=some (.own a)->H' b=some (.own a))(ht:∀b xs,H b=some (.tup xs)->H' b=some (.tup xs)):ZE P w H' h' a o:=by
 induction o with
|lst xs=>obtain⟨z,its,n,r,e⟩:=x;exact⟨z,its,n,r,k _ _ (.inl rfl) e⟩
|tup xs=>obtain⟨z,its,r,ob,e,c⟩:=x;exact⟨z,its,r,ob,k _ _ (.inl rfl) e,c⟩
|dK kvs=>obtain⟨z,y,vs,r,ob,es,ep,e,c⟩:=x;exact⟨z,y,vs,r,ob,es,ep,k _ _ (.inl rfl) e,c⟩
|dT kvs=>obtain⟨z,y,xs,r,ob,es,ep,e,c⟩:=x;exact⟨z,y,xs,Paired.mapP r λp q z=>⟨z.1,ht _ _ z.2.1,z.2.2⟩,ob,es,ep,k _ _ (.inl rfl) e,c⟩
|set S n=>obtain⟨ob,es,ep,t,e,c⟩:=x;exact⟨ob,es,ep,t,k _ _ (.inl rfl) e,c⟩
|ins C dx fs=>obtain⟨d,z,ne,e,mA,⟨od,es,ep,e2,c⟩,r⟩:=x;exact⟨ho _ d,z,ne,k _ _ (.inl rfl) e,mA,⟨od,es,ep,k _ _ (.inr d) e2,c⟩,r⟩
|own y=>obtain⟨ob,e⟩:=x;exact⟨ob,k _ _ (.inl rfl) e⟩
|xd fs=>obtain⟨mA,⟨od,es,ep,e,c⟩,r⟩:=x;exact⟨mA,⟨od,es,ep,k _ _ (.inl rfl) e,c⟩,r⟩
|rng lo hi=>obtain⟨t,u,v,e⟩:=x;exact⟨t,u,v,k _ _ (.inl rfl) e⟩
|frz ob u ih=>obtain⟨e,q⟩:=x;exact⟨k _ _ (.inl rfl) e,ih q⟩
|tbl ps=>have e:h.get? a=some {cls:=.none,data:=.fields ps}:=x;show h'.get? a=some {cls:=.none,data:=.fields ps};exact k a _ (.inl rfl) e
|met f y=>have e:h.get? a=some (gN (.ref f) (.ref y)):=x;show h'.get? a=some (gN (.ref f) (.ref y));exact k a _ (.inl rfl) e
|ext φ=>obtain⟨p,⟨o,e⟩,st⟩:=x;exact⟨st _ _ p λo q=>k _ _ (.inl rfl) q,⟨o,k _ _ (.inl rfl) e⟩,st⟩
theorem HOk.lt(x:HOk P w H h)(e:H a=some o):a<h.objs.size:=(x a o e).lt
theorem HOk.fresh(x:HOk P w H h)(e:h.objs.size<=a):H a=none:=by
 cases q:H a with
|none=>rfl
|some u=>exact absurd (Nat.lt_of_lt_of_le (x.lt q) e) (Nat.lt_irrefl _)
theorem HOk.kept(x:HOk P w H h)(k:∀b u,h.get? b=some u->h'.get? b=some u):HOk P w H h':=λa o e=>(x a o e).stay (λb u _ q=>k b u q) (λ_ q=>q) λ_ _ q=>q
theorem HOk.laid(x:HOk P w H h)(k:∀b u,h.get? b=some u->h'.get? b=some u)(hp:h.objs.size<=a)(new:ZE P w (upd H a o) h' a o):HOk P w (upd H a o) h':=λb u e=>by
 have hn:=x.fresh hp;by_cases hb:b=a
 ·subst hb;rw[Zb]at e;cases e;exact new
 ·rw[Zg hb]at e;exact(x b u e).stay (λc v _ q=>k c v q) (λc q=>by rw[Zg (Zf q hn)];exact q) λc xs q=>by rw[Zg (Zf q hn)];exact q
end
def Rd(H:Hp)(a:Addr)(u:HO):Prop:=H a=some u\/∃o,H a=some (.frz o u)
theorem Rd.ok{P:Program}{w:World}{H:Hp}{h:Heap}{a:Addr}{u:HO}(r:Rd H a u)(x:HOk P w H h):ZE P w H h a u:=by
 rcases r with r|⟨o,r⟩
 ·exact x a u r
 ·obtain⟨_,q⟩:=x a _ r;exact q
noncomputable def Mut:Option HO->Prop
|some (.lst _)=>True
|some (.dK _)=>True
|some (.dT _)=>True
|some (.set _ _)=>True
|some (.ins _ _ _)=>True
|some (.ext _)=>True
|_=>False
section
variable {P:Program}{w:World}{H:Hp}{h h':Heap}{x e:Addr}{o':HO}
theorem HOk.write(ok:HOk P w H h)(mu:Mut (H x))(he:e=x\/H e=some (.own x))(k:∀b u,b≠e->h.get? b=some u->h'.get? b=some u)(heo:∃u,h'.get? e=some u)(new:ZE P w (upd H x o') h' x o'):HOk P w (upd H x o') h':=λb u q=>by
 have nown:∀c y,H c=some (.own y)->c≠x:=λc y r z=>by subst z;rw[r]at mu;exact mu
 have ntup:∀c xs,H c=some (.tup xs)->c≠x:=λc xs r z=>by subst z;rw[r]at mu;exact mu
 by_cases hb:b=x
 ·subst hb;rw[Zb]at q;cases q;exact new
 ·rw[Zg hb]at q;by_cases hbe:b=e
  ·have q':H b=some (.own x):=by
    rcases he with z|z
    ·exact absurd (hbe.trans z) hb
    ·rw[hbe];exact z
   rw[q]at q';cases q';obtain⟨v,hv⟩:=heo;exact⟨v,by rw[hbe];exact hv⟩
  ·refine(ok b u q).stay (λc v hc r=>k c v ?_ r) (λc r=>by rw[Zg (nown c b r)];exact r) λc xs r=>by rw[Zg (ntup c xs r)];exact r
   rcases hc with rfl|hc
   ·exact hbe
   ·rintro rfl;rcases he with z|z
    ·exact nown c b hc z
    ·rw[hc]at z;cases z;exact hb rfl
end
structure Un(fs ex:List Addr)(H H':Hp)(h h':Heap):Prop where
 keep:∀b o,h.get? b=some o->H b=none->b∉fs->b∉ex->h'.get? b=some o
 slot:∀b o,h.get? b=some o->H b=none->b∈fs->b∉ex->∃sl,h'.get? b=some {o with slots:=sl}
 free:∀b o,h.get? b=some o->H b=none->b∉ex->H' b=none
 there:∀b o,h.get? b=some o->b∉ex->∃o',h'.get? b=some o'
 tups:∀b xs,H b=some (.tup xs)->H' b=some (.tup xs)
 frzs:∀b o u,H b=some (.frz o u)->H' b=some (.frz o u)
 tbls:∀b ps,H b=some (.tbl ps)->∃more,H' b=some (.tbl (ps++more))
section
variable {fs fs' ex ex':List Addr}{H H1 H2:Hp}{h h1 h2 h':Heap}{a x e:Addr}{o:HO}
theorem Un.any(u:Un fs ex H H1 h h1){b:Addr}{ob:Obj}(q:h.get? b=some ob)(n:H b=none)(hx:b∉ex):∃sl,h1.get? b=some {ob with slots:=sl}:=by
 by_cases hb:b∈fs
 ·exact u.slot b ob q n hb hx
 ·exact⟨ob.slots,u.keep b ob q n hb hx⟩
theorem Un.kept(k:∀b u,h.get? b=some u->h'.get? b=some u):Un fs ex H H h h':=⟨λb ob q _ _ _=>k b ob q,λb ob q _ _ _=>⟨ob.slots,k b ob q⟩,λ_ _ _ n _=>n,λb ob q _=>⟨ob,k b ob q⟩,λ_ _ q=>q,λ_ _ _ q=>q,λ_ ps q=>⟨#[],by rw[q];simp⟩⟩
theorem Un.refl:Un fs ex H H h h:=Un.kept λ_ _ q=>q
theorem Un.laid(k:∀b u,h.get? b=some u->h'.get? b=some u)(hp:h.objs.size<=a)(hn:H a=none):Un fs ex H (upd H a o) h h' where
 keep:=λb u q _ _ _=>k b u q
 slot:=λb u q _ _ _=>⟨u.slots,k b u q⟩
 free:=λb u q n _=>by rw[Zg (Nat.ne_of_lt (Nat.lt_of_lt_of_le (Heap.lt_size q) hp))];exact n
 there:=λb u q _=>⟨u,k b u q⟩
 tups:=λb xs q=>by rw[Zg (Zf q hn)];exact q
 frzs:=λb u xs q=>by rw[Zg (Zf q hn)];exact q
 tbls:=λb ps q=>⟨#[],by rw[Zg (Zf q hn),q];simp⟩
theorem Un.write(mu:Mut (H x))(he:e=x\/H e=some (.own x))(k:∀b u,b≠e->h.get? b=some u->h'.get? b=some u)(heo:∃u,h'.get? e=some u):Un fs ex H (upd H x o) h h':=by
 have hx:∀b,H b=none->b≠x:=λb n z=>by subst z;rw[n]at mu;exact mu
 have hb:∀b,H b=none->b≠e:=λb n z=>by
  subst z;rcases he with r|r
  ·exact hx b n r
  ·rw[n]at r;cases r
 have hm:∀b u,H b=some u->¬Mut (some u)->b≠x:=λb u q nm z=>by subst z;rw[q]at mu;exact nm mu
 refine⟨λb u q n _ _=>k b u (hb b n) q,λb u q n _ _=>⟨u.slots,k b u (hb b n) q⟩,λb u q n _=>by rw[Zg (hx b n)];exact n,λb u q _=>?_,
  λb xs q=>by rw[Zg (hm b _ q λz=>z)];exact q,λb u xs q=>by rw[Zg (hm b _ q λz=>z)];exact q,λb ps q=>⟨#[],by rw[Zg (hm b _ q λz=>z),q];simp⟩⟩;by_cases hbe:b=e
 ·subst hbe;exact heo
 ·exact⟨u,k b u hbe q⟩
end
noncomputable def trk(h:Heap)(H:Hp):List Addr:=(aT h.objs.size).filter λa=>(H a).isSome
noncomputable def hidT(h:Heap)(H:Hp):Heap:=fN h (trk h H)
theorem Wu(h:Heap)(H:Hp):(hidT h H).objs.size=h.objs.size:=PySem.W.hideAll_size _ _
theorem Ly{h:Heap}{H:Hp}{b:Addr}{o:Obj}(e:h.get? b=some o)(n:H b=none):(hidT h H).get? b=some o:=PySem.W.hideAll_get _ e λhm=>by have q:(H b).isSome=true:=(b9.mp hm).2;rw[n]at q;simp at q
theorem DR{h:Heap}{H:Hp}{b:Addr}{o:Obj}(e:(hidT h H).get? b=some o):h.get? b=some o/\H b=none:=by
 have e':h.get? b=some o:=PySem.W.of_hideAll (trk h H) e;refine⟨e',?_⟩;cases q:H b with
|none=>rfl
|some x=>have hm:b∈trk h H:=b9.mpr ⟨cA.mpr (Heap.lt_size e'),by simp[q]⟩;have z:(hidT h H).get? b=none:=f6 (trk h H) hm;rw[z]at e;cases e
noncomputable def Eg(g h:Heap)(L:Addr):List (Addr×Obj):=(aT h.objs.size).filterMap λa=>if a=L\/(g.get? a).isSome=true then none else(h.get? a).map λo=>(a,o)
noncomputable def rest(g h:Heap)(L d:Addr):List (Addr×Obj):=(Eg g h L).filter λp=>decide (p.1≠d)
open PySem PySem.Spec PyProof.Rows
structure Mod(K:af)(mg:Str->Option Value)(base:Heap):Prop where
 kin:K.In base
 glob:base.Ns aK mg
 blt:∃mb,base.Ns builtinsNs mb/\∀x:Str,x≠"__name__"->mb x=bX x
 nolimit:base.NoLimit
structure Cx where
 prog:Program
 w:World
 K:af
 mg:Str->Option Value
 base:Heap
 A:aL
 N:List Str
 s₀:ah
 H₀:Hp
 env:Env
 outer:List Env
 stack:List Env
 ex:List Addr
 fn:Str->Bool
 calm:Bool
 pn:List (Addr×Obj)
 xe:Value->ah->Prop
noncomputable def frs(l:List Env):List Addr:=l.filterMap (·.frame)
noncomputable abbrev Cx.fs(X:Cx):List Addr:=frs X.outer
def Vis(sc:Scope)(x:Str):Prop:=sc.names.lookup x=some .local\/sc.names.lookup x=some .cell\/sc.names.lookup x=some .free
def Loc(sc:Scope)(x:Str):Prop:=sc.names.lookup x=some .local\/sc.names.lookup x=some .cell
def Look(env:Env)(h:Heap)(m:Str->Option Value)(x:Str)(u:Value):Prop:=(env.kindOf x=some .local/\m x=some u)\/((env.kindOf x=some .cell\/env.kindOf x=some .free)/\∃c,env.cells.lookup x=some c/\h.IsCell c (some u))
structure Cx.Ok(X:Cx):Prop where
 mod:Mod X.K X.mg X.base
 kind:X.env.scope.kind=.function
 glob:X.env.globals=aK
 blt:X.env.builtins=builtinsNs
 above:X.s₀.heap.objs.size<=X.env.locals
 inj:∀x y c,X.env.cells.lookup x=some c->X.env.cells.lookup y=some c->x=y
 has:∀x,(X.env.kindOf x=some .cell\/X.env.kindOf x=some .free)->∃c,X.env.cells.lookup x=some c
 cab:∀x c,X.fn x=true->X.env.cells.lookup x=some c->X.s₀.heap.objs.size<=c
 hd:X.calm=true->X.A.handled=none
 frames:X.A.frames=some X.stack
 stk:X.stack=X.outer\/(X.stack=X.env::X.outer/\X.env.frame=some X.env.locals)
 exf:∀b∈X.ex,b≠X.env.locals/\∀x c,X.env.cells.lookup x=some c->c≠b
 bs:∀b o,X.base.get? b=some o->X.s₀.heap.get? b=some o/\X.H₀ b=none
 bsz:X.base.objs.size<=X.s₀.heap.objs.size
 noex:∀b o,X.base.get? b=some o->b∉X.ex
 exfs:∀b∈X.ex,b∉X.fs
 funs:X.s₀.heap.FunFrames X.base X.outer
 frf:∀b∈X.fs,X.H₀ b=none
structure Inv(X:Cx)(pins:List (Addr×Obj))(σ:List (Option V))(H:Hp)(s:ah):Prop where
 ok:X.Ok
 os:s.os=X.s₀.os
 bare:fC s.gens
 base:Un X.fs X.ex X.H₀ H X.s₀.heap s.heap
 loc:∃m,s.heap.Ns X.env.locals m/\∀(i:Nat)(x:Str)(v:V),X.N[i]?=some x->σ[i]?=some (some v)->Vis X.env.scope x->∃u,RelV v u/\Look X.env s.heap m x u
 cell:∀x c,X.env.cells.lookup x=some c->∃v,s.heap.IsCell c v
 free:H X.env.locals=none
 freeC:∀x c,X.env.cells.lookup x=some c->H c=none
 pin:∀p∈X.pn++pins,s.heap.get? p.1=some p.2/\H p.1=none/\p.1≠X.env.locals/\p.1∉X.fs/\∀v,p.2.data≠.cell v
 hok:HOk X.prog X.w H s.heap
 len:σ.length=X.N.length
section
variable {X:Cx}{pins:List (Addr×Obj)}{σ:List (Option V)}{H H':Hp}{s:ah}{h':Heap}
theorem Cx.Ok.nofr(ok:X.Ok){b:Addr}{o:Obj}(e:X.base.get? b=some o):b∉X.fs:=λhb=>by have:=(ok.funs.mem hb).1;rw[e]at this;cases this
theorem Inv.bs(I:Inv X pins σ H s):∀b o,X.base.get? b=some o->s.heap.get? b=some o/\H b=none:=λb o e=>⟨I.base.keep b o (I.ok.bs b o e).1 (I.ok.bs b o e).2 (I.ok.nofr e) (I.ok.noex b o e),I.base.free b o (I.ok.bs b o e).1 (I.ok.bs b o e).2 (I.ok.noex b o e)⟩
theorem Inv.bk(I:Inv X pins σ H s):∀b o,X.base.get? b=some o->s.heap.get? b=some o:=λb o e=>(I.bs b o e).1
theorem Inv.mod(I:Inv X pins σ H s):Mod X.K X.mg X.base:=I.ok.mod
theorem Inv.kIn(I:Inv X pins σ H s):X.K.In s.heap:=I.ok.mod.kin.keeps I.bk
theorem Inv.lt(I:Inv X pins σ H s):X.env.locals<s.heap.objs.size:=let ⟨_,hn,_⟩:=I.loc;hn.lt
theorem Inv.sz(I:Inv X pins σ H s):X.s₀.heap.objs.size<=s.heap.objs.size:=Nat.le_trans I.ok.above (Nat.le_of_lt I.lt)
theorem Inv.nofs(I:Inv X pins σ H s){a:Addr}(h:s.heap.objs.size<=a):a∉X.fs:=λhb=>by obtain⟨_,o,ho,_⟩:=I.ok.funs.mem hb;exact absurd (Nat.lt_of_lt_of_le (Heap.lt_size ho) (Nat.le_trans I.sz h)) (Nat.lt_irrefl _)
theorem Inv.cne(I:Inv X pins σ H s):∀x c,X.env.cells.lookup x=some c->c≠X.env.locals:=λx c e z=>by obtain⟨v,o,ho,hd⟩:=I.cell x c e;obtain⟨m,⟨o',es,ep,ho',hd',_⟩,_⟩:=I.loc;rw[z,ho']at ho;cases ho;rw[hd']at hd;cases hd
theorem Inv.funs(I:Inv X pins σ H s):s.heap.FunFrames X.base X.outer:=by
 have all:∀(l:List Env),(∀b∈frs l,b∈X.fs)->X.s₀.heap.FunFrames X.base l->s.heap.FunFrames X.base l:=by
  intro l;induction l with
 |nil=>intro _ _;trivial
 |cons env r ih=>intro hs hl;obtain⟨hk,⟨L,o,hf,hn,ho,hd⟩,hr⟩:=hl;have hL:L∈X.fs:=hs L (by unfold frs;rw[eR,hf];exact az);obtain⟨sl,e⟩:=I.base.slot L o ho (I.ok.frf L hL) hL λz=>I.ok.exfs L z hL;exact⟨hk,⟨L,_,hf,hn,e,hd⟩,ih (λb hb=>hs b (by unfold frs;rw[eR,hf];exact aq _ hb)) hr⟩
 exact all X.outer (λ_ hb=>hb) I.ok.funs
theorem Inv.stack(I:Inv X pins σ H s):s.heap.FunFrames X.base X.stack:=by
 rcases I.ok.stk with e|⟨e,hf⟩
 ·rw[e];exact I.funs
 ·rw[e];obtain⟨m,hn,_⟩:=I.loc;refine .cons (by rw[I.ok.kind];decide) hf hn ?_ I.funs;exact Heap.get?_none_of_le (Nat.le_trans I.ok.bsz I.ok.above)
theorem Inv.stkSub(I:Inv X pins σ H s):∀b∈frs X.stack,b∈X.env.locals::X.fs:=λb hb=>by
 rcases I.ok.stk with e|⟨e,hf⟩
 ·rw[e]at hb;exact aq _ hb
 ·rw[e]at hb;unfold frs at hb;rw[eR,hf]at hb;exact hb
theorem Inv.stkFree(I:Inv X pins σ H s):∀b∈frs X.stack,H b=none:=λb hb=>by
 rcases au.mp (I.stkSub b hb)with e|hb
 ·rw[e];exact I.free
 ·obtain⟨_,o,ho,_⟩:=I.ok.funs.mem hb;exact I.base.free b o ho (I.ok.frf b hb) λz=>I.ok.exfs b z hb
theorem Inv.step{g':Array GenState}{t':Nat}{d':Drawn}{ch:List Addr}(I:Inv X pins σ H s)(hch:∀b∈ch,(b∈X.ex\/X.s₀.heap.objs.size<=b)/\b≠X.env.locals/\(∀x c,X.env.cells.lookup x=some c->c≠b)/\∀p∈X.pn++pins,p.1≠b)(keep:∀b o,b≠X.env.locals->b∉X.fs->b∉ch->s.heap.get? b=some o->H b=none->h'.get? b=some o)(slot:∀b o,b≠X.env.locals->b∈X.fs->b∉ch->s.heap.get? b=some o->H b=none->∃sl,h'.get? b=some {o with slots:=sl})(free:∀b o,b∉ch->s.heap.get? b=some o->H b=none->H' b=none)(there:∀b o,b∉ch->s.heap.get? b=some o->∃o',h'.get? b=some o')(tups:∀b xs,H b=some (.tup xs)->H' b=some (.tup xs))(frzs:∀b o u,H b=some (.frz o u)->H' b=some (.frz o u))(tbls:∀b ps,H b=some (.tbl ps)->∃more,H' b=some (.tbl (ps++more)))(ns:∀m,s.heap.Ns X.env.locals m->h'.Ns X.env.locals m)(hok:HOk X.prog X.w H' h')(hg:fC g'):Inv X pins σ H' {s with heap:=h',gens:=g',drawn:=d',toks:=t'}:=by
 have neL:∀b o,X.s₀.heap.get? b=some o->b≠X.env.locals:=λb o e=>Nat.ne_of_lt (Nat.lt_of_lt_of_le (Heap.lt_size e) I.ok.above);have neC:∀b o,X.s₀.heap.get? b=some o->b∉X.ex->b∉ch:=λb o e hx hb=>by
  rcases(hch b hb).1 with z|z
  ·exact hx z
  ·exact absurd (Nat.lt_of_lt_of_le (Heap.lt_size e) z) (Nat.lt_irrefl _)
 have cellK:∀x c,X.env.cells.lookup x=some c->∀v,s.heap.IsCell c v->h'.IsCell c v:=λx c e v⟨o,ho,hd⟩=>by
  have nch:c∉ch:=λz=>(hch c z).2.2.1 x c e rfl;by_cases hc:c∈X.fs
  ·obtain⟨sl,q⟩:=slot c o (I.cne x c e) hc nch ho (I.freeC x c e);exact⟨_,q,hd⟩
  ·exact⟨o,keep c o (I.cne x c e) hc nch ho (I.freeC x c e),hd⟩
 refine⟨I.ok,I.os,hg,⟨λb o e n hb hx=>?_,λb o e n hb hx=>?_,λb o e n hx=>?_,λb o e hx=>?_,λb xs e=>tups b xs (I.base.tups b xs e),λb o xs e=>frzs b o xs (I.base.frzs b o xs e),λb ps e=>?_⟩,?_,λx c e=>?_,?_,λx c e=>?_,λp hp=>?_,hok,I.len⟩
 ·exact keep b o (neL b o e) hb (neC b o e hx) (I.base.keep b o e n hb hx) (I.base.free b o e n hx)
 ·obtain⟨sl,e1⟩:=I.base.slot b o e n hb hx;obtain⟨sl',e2⟩:=slot b _ (neL b o e) hb (neC b o e hx) e1 (I.base.free b o e n hx);exact⟨sl',e2⟩
 ·obtain⟨o',e1⟩:=I.base.there b o e hx;exact free b o' (neC b o e hx) e1 (I.base.free b o e n hx)
 ·obtain⟨o',e1⟩:=I.base.there b o e hx;exact there b o' (neC b o e hx) e1
 ·obtain⟨m1,e1⟩:=I.base.tbls b ps e;obtain⟨m2,e2⟩:=tbls b _ e1;exact⟨m1++m2,by rw[e2,Array.append_assoc]⟩
 ·obtain⟨m,hn,hl⟩:=I.loc;refine⟨m,ns m hn,λi x v e1 e2 e3=>?_⟩;obtain⟨u,r,l⟩:=hl i x v e1 e2 e3;refine⟨u,r,?_⟩;rcases l with l|⟨k,c,e,z⟩
  ·exact .inl l
  ·exact .inr ⟨k,c,e,cellK x c e _ z⟩
 ·obtain⟨v,z⟩:=I.cell x c e;exact⟨v,cellK x c e v z⟩
 ·obtain⟨m,⟨o,_,_,ho,_⟩,_⟩:=I.loc;exact free _ o (λz=>(hch _ z).2.1 rfl) ho I.free
 ·obtain⟨v,o,ho,hd⟩:=I.cell x c e;exact free c o (λz=>(hch c z).2.2.1 x c e rfl) ho (I.freeC x c e)
 ·obtain⟨e,n,ne,nf,d⟩:=I.pin p hp;have nch:p.1∉ch:=λz=>(hch p.1 z).2.2.2 p hp rfl;exact⟨keep p.1 p.2 ne nf nch e n,free p.1 p.2 nch e n,ne,nf,d⟩
theorem Inv.un{t':Nat}(I:Inv X pins σ H s)(u:Un X.fs [] H H' s.heap h')(hok:HOk X.prog X.w H' h'):Inv X pins σ H' {s with heap:=h',toks:=t'}:=by
 obtain⟨m,⟨o,es,ep,ho,r⟩,_⟩:=id I.loc;obtain⟨sl,hL⟩:=u.any ho I.free (by simp);exact I.step (g':=s.gens) (d':=s.drawn) (ch:=[]) (λ_ z=>nomatch z) (λb o _ hb _ e n=>u.keep b o e n hb (by simp)) (λb o _ hb _ e n=>u.slot b o e n hb (by simp)) (λb o _ e n=>u.free b o e n (by simp)) (λb o _ e=>u.there b o e (by simp)) u.tups u.frzs u.tbls (λm' hm=>by obtain⟨o',es',ep',ho',r'⟩:=hm;rw[ho]at ho';cases ho';exact⟨_,es',ep',hL,r'⟩) hok I.bare
theorem Inv.call{g':Array GenState}{t':Nat}{d':Drawn}{ch:List Addr}(I:Inv X pins σ H s)(u:Un (frs X.stack) ch H H' s.heap h')(hok:HOk X.prog X.w H' h')(hg:fC g')(hch:∀b∈ch,(b∈X.ex\/X.s₀.heap.objs.size<=b)/\b≠X.env.locals/\(∀x c,X.env.cells.lookup x=some c->c≠b)/\∀p∈X.pn++pins,p.1≠b):Inv X pins σ H' {s with heap:=h',gens:=g',drawn:=d',toks:=t'}:=by
 obtain⟨m,⟨o,es,ep,ho,r⟩,_⟩:=id I.loc;obtain⟨sl,hL⟩:=u.any ho I.free λz=>(hch _ z).2.1 rfl;exact I.step (ch:=ch) hch (λb o hL hb hc e n=>u.keep b o e n (λz=>(au.mp (I.stkSub b z)).elim hL hb) hc) (λb o _ _ hc e n=>u.any e n hc) (λb o hc e n=>u.free b o e n hc) (λb o hc e=>u.there b o e hc) u.tups u.frzs u.tbls (λm' hm=>by obtain⟨o',es',ep',ho',r'⟩:=hm;rw[ho]at ho';cases ho';exact⟨_,es',ep',hL,r'⟩) hok hg
theorem Inv.turned{t':Nat}{it:Addr}(I:Inv X pins σ H s)(k:∀b o,b≠it->s.heap.get? b=some o->h'.get? b=some o)(hn:H it=none)(hL:it≠X.env.locals)(h1:it∈X.ex\/X.s₀.heap.objs.size<=it)(h2:∀x c,X.env.cells.lookup x=some c->c≠it)(h3:∀p∈X.pn++pins,p.1≠it):Inv X pins σ H {s with heap:=h',toks:=t'}:=by
 have nit:∀b u,H b=some u->b≠it:=λb u e z=>by rw[z,hn]at e;cases e
 refine I.step (g':=s.gens) (d':=s.drawn) (ch:=[it]) (λb hb=>?_) (λb o _ _ hc e _=>k b o (λz=>hc (by simp[z])) e) (λb o _ _ hc e _=>⟨o.slots,k b o (λz=>hc (by simp[z])) e⟩) (λ_ _ _ _ n=>n) (λb o hc e=>⟨o,k b o (λz=>hc (by simp[z])) e⟩) (λ_ _ e=>e) (λ_ _ _ e=>e) (λb ps e=>⟨#[],by rw[e];simp⟩) (λm hm=>?_) (λb u e=>?_) I.bare
 ·have e:b=it:=by simpa using hb
  subst e;exact⟨h1,hL,h2,h3⟩
 ·obtain⟨o,es,ep,ho,r⟩:=hm;exact⟨o,es,ep,k _ o (bw hL) ho,r⟩
 ·refine(I.hok b u e).stay (λc v hc q=>k c v ?_ q) (λ_ q=>q) λ_ _ q=>q;rcases hc with z|z
  ·rw[z];exact nit b u e
  ·exact nit c _ z
theorem Inv.tok(I:Inv X pins σ H s)(t:Nat):Inv X pins σ H {s with toks:=t}:=I.un (h':=s.heap) (t':=t) Un.refl I.hok
theorem Inv.kept{t':Nat}(I:Inv X pins σ H s)(k:∀b u,s.heap.get? b=some u->h'.get? b=some u):Inv X pins σ H {s with heap:=h',toks:=t'}:=I.un (Un.kept k) (I.hok.kept k)
theorem Inv.laid{a:Addr}{o:HO}{t':Nat}(I:Inv X pins σ H s)(k:∀b u,s.heap.get? b=some u->h'.get? b=some u)(hp:s.heap.objs.size<=a)(new:ZE X.prog X.w (upd H a o) h' a o):Inv X pins σ (upd H a o) {s with heap:=h',toks:=t'}:=I.un (Un.laid k hp (I.hok.fresh hp)) (I.hok.laid k hp new)
theorem Inv.write{x e:Addr}{o:HO}{t':Nat}(I:Inv X pins σ H s)(mu:Mut (H x))(he:e=x\/H e=some (.own x))(k:∀b u,b≠e->s.heap.get? b=some u->h'.get? b=some u)(heo:∃u,h'.get? e=some u)(new:ZE X.prog X.w (upd H x o) h' x o):Inv X pins σ (upd H x o) {s with heap:=h',toks:=t'}:=I.un (Un.write mu he k heo) (I.hok.write mu he k heo new)
theorem Inv.pins_of{pins':List (Addr×Obj)}(I:Inv X pins σ H s)(h:∀p∈pins',s.heap.get? p.1=some p.2/\H p.1=none/\p.1≠X.env.locals/\p.1∉X.fs/\∀v,p.2.data≠.cell v):Inv X pins' σ H s:=⟨I.ok,I.os,I.bare,I.base,I.loc,I.cell,I.free,I.freeC,λp hp=>(aN.mp hp).elim (λz=>I.pin p (ba _ z)) (h p),I.hok,I.len⟩
theorem My{N:List Str}(hN:N.Nodup){i j:Nat}{x:Str}(a:N[i]?=some x)(b:N[j]?=some x):i=j:=by obtain⟨h1,e1⟩:=aw.mp a;obtain⟨h2,e2⟩:=aw.mp b;exact(fO hN).mp (e1.trans e2.symm)
theorem Np{M:Model}{A:aL}{E:Value->ah->Prop}{i:Nat}{x:Str}{v:V}{u:Value}{Q:Unit->ah->Prop}(I:Inv X pins σ H s)(hN:X.N.Nodup)(hi:X.N[i]?=some x)(hx:Loc X.env.scope x)(r:RelV v u)(h:∀s',Inv X pins (σ.set i (some v)) H s'->(∃a,Heap.SameBut a s.heap s'.heap/\(a=X.env.locals\/X.env.cells.lookup x=some a))->Q () s')(hf:X.fn x=true\/X.env.scope.names.lookup x=some .local:=by first|exact .inl rfl|exact .inr rfl|assumption):wpAny M A (storeName X.env x u) Q E s:=by
 obtain⟨m,hn,hl⟩:=id I.loc;have hcls:(X.env.scope.kind==.class||(X.env.scope.kind==.module&&X.env.locals != X.env.globals))=false:=by rw[I.ok.kind];rfl
 have hiσ:i<σ.length:=by rw[I.len];exact(aw.mp hi).1
 have cne:=I.cne;have tracked:∀{a:Addr}{h':Heap},(∃o,s.heap.get? a=some o/\H a=none)->Heap.SameBut a s.heap h'->HOk X.prog X.w H h':=λ{a h'}ha hs b ob e=>by
  obtain⟨_,_,hfree⟩:=ha;refine(I.hok b ob e).stay (λc w' hc q=>(hs.2 c ?_).trans q) (λ_ q=>q) λ_ _ q=>q;rintro rfl;rcases hc with rfl|hc
  ·rw[hfree]at e;cases e
  ·rw[hfree]at hc;cases hc
 rcases hx with hk|hk
 ·refine wpAny_storeName_local hk hn (λh' hn' hs=>?_) hcls;obtain⟨oL,_,_,hoL,_⟩:=id hn;refine h _ ⟨I.ok,I.os,I.bare,⟨λb o e n hb hx=>?_,λb o e n hb hx=>?_,I.base.free,λb o e hx=>?_,I.base.tups,I.base.frzs,I.base.tbls⟩,⟨_,hn',λj y v' e1 e2 e3=>?_⟩,λy c e=>?_,I.free,I.freeC,λp hp=>?_,tracked ⟨oL,hoL,I.free⟩ hs,by simpa using I.len⟩ ⟨_,hs,.inl rfl⟩
  ·exact(hs.2 b (Nat.ne_of_lt (Nat.lt_of_lt_of_le (Heap.lt_size e) I.ok.above))).trans (I.base.keep b o e n hb hx)
  ·obtain⟨sl,e1⟩:=I.base.slot b o e n hb hx;exact⟨sl,(hs.2 b (Nat.ne_of_lt (Nat.lt_of_lt_of_le (Heap.lt_size e) I.ok.above))).trans e1⟩
  ·obtain⟨o',e1⟩:=I.base.there b o e hx;exact⟨o',(hs.2 b (Nat.ne_of_lt (Nat.lt_of_lt_of_le (Heap.lt_size e) I.ok.above))).trans e1⟩
  ·by_cases hj:j=i
   ·subst hj;rw[hi]at e1;cases e1;rw[fW hiσ]at e2;cases e2;exact⟨u,r,.inl ⟨hk,by simp⟩⟩
   ·rw[gm (bw hj)]at e2;obtain⟨u',r',q⟩:=hl j y v' e1 e2 e3;refine⟨u',r',?_⟩;rcases q with⟨k,e⟩|⟨k,c,e,z⟩
    ·refine .inl ⟨k,?_⟩;have:y≠x:=λe=>hj (My hN e1 (e▸hi));simp[this,e]
    ·exact .inr ⟨k,c,e,z.sameBut hs (cne y c e)⟩
  ·obtain⟨w',z⟩:=I.cell y c e;exact⟨w',z.sameBut hs (cne y c e)⟩
  ·obtain⟨e,n,ne,nf,d⟩:=I.pin p hp;exact⟨(hs.2 p.1 ne).trans e,n,ne,nf,d⟩
 ·have hfn:X.fn x=true:=by
   rcases hf with z|z
   ·exact z
   ·rw[z]at hk;cases hk
  obtain⟨c,hc⟩:=I.ok.has x (.inl hk);obtain⟨w',z⟩:=I.cell x c hc;refine wpAny_storeName_cell I.ok.kind hk hc z (λh' hc' hs=>?_);obtain⟨oc,hoc,hocd⟩:=id z;refine h {s with heap:=h'} ⟨I.ok,I.os,I.bare,⟨λb o e n hb hx=>?_,λb o e n hb hx=>?_,I.base.free,λb o e hx=>?_,I.base.tups,I.base.frzs,I.base.tbls⟩,⟨m,hn.sameBut hs (bw (cne x c hc)),λj y v' e1 e2 e3=>?_⟩,λy c' e=>?_,I.free,I.freeC,λp hp=>?_,tracked ⟨oc,hoc,I.freeC x c hc⟩ hs,by simpa using I.len⟩ ⟨c,hs,.inr hc⟩
  ·exact(hs.2 b (Nat.ne_of_lt (Nat.lt_of_lt_of_le (Heap.lt_size e) (I.ok.cab x c hfn hc)))).trans (I.base.keep b o e n hb hx)
  ·obtain⟨sl,e1⟩:=I.base.slot b o e n hb hx;exact⟨sl,(hs.2 b (Nat.ne_of_lt (Nat.lt_of_lt_of_le (Heap.lt_size e) (I.ok.cab x c hfn hc)))).trans e1⟩
  ·obtain⟨o',e1⟩:=I.base.there b o e hx;exact⟨o',(hs.2 b (Nat.ne_of_lt (Nat.lt_of_lt_of_le (Heap.lt_size e) (I.ok.cab x c hfn hc)))).trans e1⟩
  ·by_cases hj:j=i
   ·subst hj;rw[hi]at e1;cases e1;rw[fW hiσ]at e2;cases e2;exact⟨u,r,.inr ⟨.inl hk,c,hc,hc'⟩⟩
   ·rw[gm (bw hj)]at e2;obtain⟨u',r',q⟩:=hl j y v' e1 e2 e3;refine⟨u',r',?_⟩;rcases q with q|⟨k,c',e,z'⟩
    ·exact .inl q
    ·refine .inr ⟨k,c',e,z'.sameBut hs ?_⟩;rintro rfl;exact hj (My hN e1 (I.ok.inj _ _ _ e hc▸hi))
  ·by_cases hcc:c'=c
   ·subst hcc;exact⟨_,hc'⟩
   ·obtain⟨w2,z2⟩:=I.cell y c' e;exact⟨w2,z2.sameBut hs hcc⟩
  ·obtain⟨e,n,ne,nf,d⟩:=I.pin p hp;refine⟨(hs.2 p.1 ?_).trans e,n,ne,nf,d⟩;intro q;rw[q,hoc]at e;have q':oc=p.2:=ao e;exact d w' (by rw[<-q'];exact hocd)
theorem Mm{M:Model}{A:aL}{E:Value->ah->Prop}{i:Nat}{x:Str}{v:V}{u:Value}{Q:Unit->ah->Prop}(I:Inv X pins σ H s)(hN:X.N.Nodup)(hi:X.N[i]?=some x)(hx:Loc X.env.scope x)(r:RelV v u)(h:∀s',Inv X pins (σ.set i (some v)) H s'->Q () s')(hf:X.fn x=true\/X.env.scope.names.lookup x=some .local:=by first|exact .inl rfl|exact .inr rfl|assumption):wpAny M A (storeName X.env x u) Q E s:=Np I hN hi hx r (λs' I' _=>h s' I') hf
theorem Inv.call'{s':ah}{ch:List Addr}(I:Inv X pins σ H s)(ho:s'.os=s.os)(u:Un (frs X.stack) ch H H' s.heap s'.heap)(hok:HOk X.prog X.w H' s'.heap)(hg:fC s'.gens)(hch:∀b∈ch,(b∈X.ex\/X.s₀.heap.objs.size<=b)/\b≠X.env.locals/\(∀x c,X.env.cells.lookup x=some c->c≠b)/\∀p∈X.pn++pins,p.1≠b):Inv X pins σ H' s':=by obtain⟨h',g',d',t',o'⟩:=s';have e:o'=s.os:=ho;subst e;exact I.call (g':=g') (t':=t') (d':=d') u hok hg hch
end
noncomputable abbrev XK:=Value->Option Addr->Hp->Prop
noncomputable abbrev St:=List (Option V)
noncomputable abbrev VK:=V->Hp->Prop
noncomputable abbrev TE:=St->Hp->VK->Prop
noncomputable abbrev TT:=St->Hp->(Bool->Hp->Prop)->Prop
noncomputable abbrev TA:=St->Hp->(List V->Hp->Prop)->Prop
structure Ends where
 nx:St->Hp->Prop
 rt:VK
 bk:St->Hp->Prop:=λ_ _=>False
 ct:St->Hp->Prop:=λ_ _=>False
noncomputable abbrev TS:=Ends->St->Hp->Prop
def EP(X:Cx)(pins:List (Addr×Obj))(σ:St)(Q:VK)(u:Value)(s':ah):Prop:=∃v H',Inv X pins σ H' s'/\RelV v u/\Q v H'
def TP(X:Cx)(pins:List (Addr×Obj))(σ:St)(Q:Bool->Hp->Prop)(b:Bool)(s':ah):Prop:=∃H',Inv X pins σ H' s'/\Q b H'
def AP(X:Cx)(pins:List (Addr×Obj))(σ:St)(Q:List V->Hp->Prop)(us:List Value)(s':ah):Prop:=∃vs H',Inv X pins σ H' s'/\Vals vs us/\Q vs H'
def SP(X:Cx)(pins:List (Addr×Obj))(D:Ends)(f:Flow)(s':ah):Prop:=match f with
|.next=>∃σ' H',Inv X pins σ' H' s'/\D.nx σ' H'
|.brk=>∃σ' H',Inv X pins σ' H' s'/\D.bk σ' H'
|.cont=>∃σ' H',Inv X pins σ' H' s'/\D.ct σ' H'
|.ret u=>∃v σ' H',Inv X pins σ' H' s'/\RelV v u/\D.rt v H'
def PE(X:Cx)(e:Expr)(t:TE):Prop:=∀(pins:List (Addr×Obj))(s:ah)(σ:St)(H:Hp)(Q:VK),Inv X pins σ H s->t σ H Q->wpAny (model X.prog X.w) X.A (eval e X.env) (EP X pins σ Q) X.xe s
def PT(X:Cx)(e:Expr)(t:TT):Prop:=∀(pins:List (Addr×Obj))(s:ah)(σ:St)(H:Hp)(Q:Bool->Hp->Prop),Inv X pins σ H s->t σ H Q->wpAny (model X.prog X.w) X.A (isTrue e X.env (eval e X.env)) (TP X pins σ Q) X.xe s
def PW(X:Cx)(e:Expr)(t:TT):Prop:=∀(whole:Sem Value)(pins:List (Addr×Obj))(s:ah)(σ:St)(H:Hp)(Q:Bool->Hp->Prop),Inv X pins σ H s->t σ H Q->wpAny (model X.prog X.w) X.A (isTrue e X.env whole) (TP X pins σ Q) X.xe s
theorem PW.pt{X:Cx}{e:Expr}{t:TT}(h:PW X e t):PT X e t:=h _
def PA(X:Cx)(es:List Expr)(t:TA):Prop:=∀(pos:Pos)(pins:List (Addr×Obj))(s:ah)(σ:St)(H:Hp)(Q:List V->Hp->Prop),Inv X pins σ H s->t σ H Q->wpAny (model X.prog X.w) X.A (spliced (b8 pos (aA es X.env))) (AP X pins σ Q) X.xe s
def PS(X:Cx)(st:Stmt)(t:TS):Prop:=∀(pins:List (Addr×Obj))(s:ah)(σ:St)(H:Hp)(D:Ends),Inv X pins σ H s->t D σ H->wpAny (model X.prog X.w) X.A (exec st X.env) (SP X pins D) X.xe s
def PSs(X:Cx)(st:List Stmt)(t:TS):Prop:=∀(pins:List (Addr×Obj))(s:ah)(σ:St)(H:Hp)(D:Ends),Inv X pins σ H s->t D σ H->wpAny (model X.prog X.w) X.A (execs st X.env) (SP X pins D) X.xe s
theorem thn{α:Type}{t:Sem α}{Q Q':α->ah->Prop}{M:Model}{A:aL}{E:Value->ah->Prop}{s:ah}(h:wpAny M A t Q E s)(hQ:∀a s,Q a s->Q' a s):wpAny M A t Q' E s:=cM h hQ λ_ _ x=>x
open PySem PySem.Spec PyProof.Rows
section
variable {X:Cx}
theorem bin{a b:Expr}{ta tb:TE}(ha:PE X a ta)(hb:PE X b tb){pins:List (Addr×Obj)}{s:ah}{σ:St}{H:Hp}{R:V->V->Hp->Prop}(I:Inv X pins σ H s)(h:ta σ H λx H1=>tb σ H1 λy H2=>R x y H2){α:Type}{Q:α->ah->Prop}{f:Value->Value->Sem α}(hf:∀v u s2 x y H2,Inv X pins σ H2 s2->RelV x v->RelV y u->R x y H2->wpAny (model X.prog X.w) X.A (f v u) Q X.xe s2):wpAny (model X.prog X.w) X.A (eval a X.env) (λv s₁=>wpAny (model X.prog X.w) X.A (eval b X.env) (λu s₂=>wpAny (model X.prog X.w) X.A (f v u) Q X.xe s₂) X.xe s₁) X.xe s:=by refine thn (ha pins s σ H _ I h) λv s1 hZ=>?_;obtain⟨x,H1,I1,r1,q1⟩:=hZ;refine thn (hb pins s1 σ H1 _ I1 q1) λu s2 hZ=>?_;obtain⟨y,H2,I2,r2,q2⟩:=hZ;exact hf v u s2 x y H2 I2 r1 r2 q2
def tVar(i:Nat):TE:=λσ H Q=>∃v,σ[i]?=some (some v)/\Q v H
def tC(v:V):TE:=λ_ H Q=>Q v H
theorem JB{i:Nat}{x:Str}{pos:Pos}(hN:X.N[i]?=some x)(hv:Vis X.env.scope x)(hd:(x==("__debug__":Str))=false:=by decide)(hcd:(x==("__classdict__":Str))=false:=by decide):PE X (.Name x pos) (tVar i):=by
 intro pins s σ H Q I h;obtain⟨v,e,h⟩:=h;obtain⟨m,hn,hl⟩:=I.loc;obtain⟨u,r,l⟩:=hl i x v hN e hv;have fin:EP X pins σ Q u s:=⟨v,H,I,r,h⟩;rcases l with⟨hk,hm⟩|⟨hk,c,hc,hcell⟩
 ·exact wpAny_Name (wpAny_loadName_local I.ok.kind hk hn hm fin) hd
 ·rcases hk with hk|hk
  ·exact wpAny_Name (wpAny_loadName_cell I.ok.kind hk hc hcell fin) hd
  ·exact wpAny_Name (wpAny_loadName_free I.ok.kind hk hc hcell fin hcd) hd
theorem Zc{i j pos}:PE X (.Constant (.int i) j pos) (tC (.int i)):=λ_ _ _ H _ I h=>wpAny_Constant_int ⟨.int i,H,I.tok _,⟨_,rfl⟩,h⟩
theorem JX{b j pos}:PE X (.Constant (.bool b) j pos) (tC (.bl b)):=λ_ _ _ H _ I h=>Constant_bool ⟨.bl b,H,I,rfl,h⟩
theorem Z4{j pos}:PE X (.Constant .none j pos) (tC .non):=λ_ _ _ H _ I h=>Constant_none ⟨.non,H,I,rfl,h⟩
theorem Zp{x j pos}:PE X (.Constant (.str x) j pos) (tC (.str x)):=λ_ _ _ H _ I h=>Calls.Constant_str ⟨.str x,H,I.tok _,⟨_,rfl⟩,h⟩
def Gl(X:Cx)(x:Str):Prop:=X.env.kindOf x=some .globalImplicit
theorem Vm{E:Value->ah->Prop}{pins:List (Addr×Obj)}{s:ah}{σ:St}{H:Hp}{x:Str}{u:Value}{pos:Pos}{Q:Value->ah->Prop}(I:Inv X pins σ H s)(hg:Gl X x)(hm:X.mg x=some u)(h:Q u s)(hd:(x==("__debug__":Str))=false:=by decide):wpAny (model X.prog X.w) X.A (eval (.Name x pos) X.env) Q E s:=Calls.Name_function_global I.ok.kind hg (Calls.loadGlobal_global (by rw[I.ok.glob];exact I.mod.glob.keeps I.bk) hm h) hd
theorem J1{E:Value->ah->Prop}{pins:List (Addr×Obj)}{s:ah}{σ:St}{H:Hp}{x:Str}{u:Value}{pos:Pos}{Q:Value->ah->Prop}(I:Inv X pins σ H s)(hg:Gl X x)(hm:X.mg x=none)(hv:bX x=some u)(h:Q u s)(hn:x≠"__name__":=by decide)(hd:(x==("__debug__":Str))=false:=by decide):wpAny (model X.prog X.w) X.A (eval (.Name x pos) X.env) Q E s:=by obtain⟨mb,h1,h2⟩:=I.mod.blt;exact Calls.Name_function_global I.ok.kind hg (Calls.loadGlobal_builtin (by rw[I.ok.glob];exact I.mod.glob.keeps I.bk) hm (by rw[I.ok.blt];exact h1.keeps I.bk) ((h2 x hn).trans hv) h) hd
theorem ZQ{x:Str}{v:V}{u:Value}{pos:Pos}(hg:Gl X x)(hm:X.mg x=some u)(r:RelV v u)(hd:(x==("__debug__":Str))=false:=by decide):PE X (.Name x pos) (tC v):=λ_ _ _ H _ I h=>Vm I hg hm ⟨v,H,I,r,h⟩ hd
theorem Pt{x:Str}{v:V}{u:Value}{pos:Pos}(hg:Gl X x)(hm:X.mg x=none)(hv:bX x=some u)(r:RelV v u)(hn:x≠"__name__":=by decide)(hd:(x==("__debug__":Str))=false:=by decide):PE X (.Name x pos) (tC v):=λ_ _ _ H _ I h=>J1 I hg hm hv ⟨v,H,I,r,h⟩ hn hd
variable {a b:Expr}{ta tb:TE}{pos:Pos}
def PC(X:Cx)(op:CmpOp)(a b:Expr)(t:TE):Prop:=∀(pins:List (Addr×Obj))(s:ah)(σ:St)(H:Hp)(Q:VK),Inv X pins σ H s->t σ H Q ->wpAny (model X.prog X.w) X.A (eval a X.env) (λv s₁=>wpAny (model X.prog X.w) X.A (eval b X.env) (λu s₂=>wpAny (model X.prog X.w) X.A (bU op v u) (EP X pins σ Q) X.xe s₂) X.xe s₁) X.xe s
theorem Qr(b:Expr){op:CmpOp}(h:op≠.In)(h2:op≠.NotIn):dQ op b=false:=by
 have e1:(op==CmpOp.In)=false:=by cases op<;>first|rfl|exact absurd rfl h
 have e2:(op==CmpOp.NotIn)=false:=by cases op<;>first|rfl|exact absurd rfl h2
 cases b<;>simp[dQ,e1,e2]
def tB(t:TE):TT:=λσ H Q=>t σ H λx H1=>∃c,x=.bl c/\Q c H1
theorem E3{op:CmpOp}{t:TE}(h:PC X op a b t)(h1:dQ op b=false:=by first|exact Qr _ (by decide) (by decide)|rfl):PE X (.Compare a [op] [b] pos) t:=λpins s σ H Q I hw=>wpAny_Compare1 (h pins s σ H Q I hw) h1
theorem EX{op:CmpOp}{t:TE}(h:PC X op a b t)(h1:dQ op b=false:=by first|exact Qr _ (by decide) (by decide)|rfl):PT X (.Compare a [op] [b] pos) (tB t):=by intro pins s σ H Q I hw;refine wpAny_isTrue_Compare1 (thn (h pins s σ H _ I hw) λv s1 h1=>thn h1 λu s2 h2=>thn h2 λc s3 hZ=>?_) h1;obtain⟨x,H1,I1,r1,q1⟩:=hZ;obtain⟨d,rfl,q⟩:=q1;cases r1;exact bS ⟨H1,I1,q⟩
theorem Z2{e:Expr}{t:TE}(h:PE X e t)(he:∀whole,isTrue e X.env whole=(do let v <-whole;gu e.pos;eS [v] (truthy v)):=by intro _;rfl):PT X e (tB t):=by
 intro pins s σ H Q I hw
 refine isTrue_plain (thn (h pins s σ H _ I hw) λv s1 hZ=>?_) (he _);obtain⟨x,H1,I1,r1,q1⟩:=hZ
 obtain⟨d,rfl,q⟩:=q1
 cases r1
 exact bS ⟨H1,I1,q⟩
variable {tA tB':TT}{rest:List Expr}
def tAnd(t u:TT):TT:=λσ H Q=>t σ H λc H1=>if c=true then u σ H1 Q else Q false H1
def tOr(t u:TT):TT:=λσ H Q=>t σ H λc H1=>if c=true then Q true H1 else u σ H1 Q
def tNot(t:TT):TT:=λσ H Q=>t σ H λc H1=>Q (!c) H1
theorem G3(ha:PT X a tA):PW X (.BoolOp .And [a] pos) tA:=by
 intro wh pins s σ H Q I h;refine isTrue_and (thn (ha pins s σ H Q I h) λc s1 e=>?_);cases c with
|true=>exact isTrue_and_nil e
|false=>exact e
theorem Xs(ha:PT X a tA):PW X (.BoolOp .Or [a] pos) tA:=by
 intro wh pins s σ H Q I h;refine isTrue_or (thn (ha pins s σ H Q I h) λc s1 e=>?_);cases c with
|false=>exact isTrue_or_nil e
|true=>exact e
theorem Pm(ha:PT X a tA)(hb:PW X (.BoolOp .And (b::rest) pos) tB'):PW X (.BoolOp .And (a::b::rest) pos) (tAnd tA tB'):=by
 intro wh pins s σ H Q I h;refine isTrue_and (thn (ha pins s σ H _ I h) λc s1⟨H1,I1,q1⟩=>?_);cases c with
|true=>exact hb wh pins s1 σ H1 Q I1 q1
|false=>exact⟨H1,I1,q1⟩
theorem JJ(ha:PT X a tA)(hb:PW X (.BoolOp .Or (b::rest) pos) tB'):PW X (.BoolOp .Or (a::b::rest) pos) (tOr tA tB'):=by
 intro wh pins s σ H Q I h;refine isTrue_or (thn (ha pins s σ H _ I h) λc s1⟨H1,I1,q1⟩=>?_);cases c with
|true=>exact⟨H1,I1,q1⟩
|false=>exact hb wh pins s1 σ H1 Q I1 q1
theorem Yb(ha:PT X a tA):PT X (.UnaryOp .Not a pos) (tNot tA):=by intro pins s σ H Q I h;exact isTrue_not (ha pins s σ H (λc H1=>Q (!c) H1) I h)
def Hz(ta tb:TE):TE:=λσ H Q=>ta σ H λx H1=>∃c,x=.bl c/\if c=true then tb σ H1 Q else Q (.bl false) H1
def Hq(ta:TE):TE:=λσ H Q=>ta σ H λx H1=>∃c,x=.bl c/\Q (.bl (!c)) H1
theorem YF{op}{t:TE}(h:PE X a t):PE X (.BoolOp op [a] pos) t:=λpins s σ H Q I hw=>BoolOp_one (h pins s σ H Q I hw)
theorem YB(ha:PE X a ta)(hb:PE X (.BoolOp .And (b::rest) pos) tb):PE X (.BoolOp .And (a::b::rest) pos) (Hz ta tb):=by
 intro pins s σ H Q I h;refine BoolOp_and (thn (ha pins s σ H _ I h) λv s1 hZ=>?_);obtain⟨x,H1,I1,r1,q1⟩:=hZ;obtain⟨c,rfl,q1⟩:=q1;cases r1;refine bS ?_;cases c with
|true=>exact hb pins s1 σ H1 Q I1 q1
|false=>exact⟨.bl false,H1,I1,rfl,q1⟩
theorem Ru(ha:PE X a ta):PE X (.UnaryOp .Not a pos) (Hq ta):=by intro pins s σ H Q I h;refine UnaryOp_ (thn (ha pins s σ H _ I h) λv s1 hZ=>?_);obtain⟨x,H1,I1,r1,q1⟩:=hZ;obtain⟨c,rfl,q1⟩:=q1;cases r1;exact not_of (bS ⟨.bl (!c),H1,I1,rfl,q1⟩)
def tIf(t:TT)(ta tb:TE):TE:=λσ H Q=>t σ H λc H1=>if c=true then ta σ H1 Q else tb σ H1 Q
theorem KP{c:Expr}(hc:PT X c tA)(ha:PE X a ta)(hb:PE X b tb):PE X (.IfExp c a b pos) (tIf tA ta tb):=by
 intro pins s σ H Q I h;refine wpAny_IfExp (thn (hc pins s σ H _ I h) λd s1⟨H1,I1,q1⟩=>?_);cases d with
|true=>exact ha pins s1 σ H1 Q I1 q1
|false=>exact hb pins s1 σ H1 Q I1 q1
end
open PySem PySem.Spec PyProof.Rows
def SqL(K:af)(H:Hp)(a:Addr)(xs:List V):Prop:=Rd H a (.lst xs) \/∃(o:Obj)(its:Array Value)(n:Nat),K.lookup a=some o/\o.cls=.type "list"/\o.dict=none/\o.data=.seq its n/\its.size<=sizeLine/\Vals xs its.toList
def SqT(K:af)(H:Hp)(a:Addr)(xs:List V):Prop:=Rd H a (.tup xs) \/∃(o:Obj)(its:Array Value)(n:Nat),K.lookup a=some o/\o.cls=.type "tuple"/\o.data=.seq its n/\its.size<=sizeLine/\Vals xs its.toList
noncomputable def absV:Value->Option V
|.none=>some .non
|.bool b=>some (.bl b)
|.int i _=>some (.int i)
|.str x _=>some (.str x)
|.bytes b _=>some (.byt b)
|.float b _=>some (.flt b)
|.ref a=>some (.ref a)
|.type n=>some (.ty n)
|_=>none
theorem RelV.abs{x:V}{u:Value}(r:RelV x u):absV u=some x:=by
 cases x with
|non=>cases r;rfl
|bl _=>cases r;rfl
|int _=>obtain⟨t,rfl⟩:=r;rfl
|str _=>obtain⟨t,rfl⟩:=r;rfl
|byt _=>obtain⟨t,rfl⟩:=r;rfl
|flt _=>obtain⟨t,rfl⟩:=r;rfl
|ref _=>cases r;rfl
|ty _=>cases r;rfl
theorem RelV.inj{x y:V}{u:Value}(r:RelV x u)(q:RelV y u):x=y:=ao (r.abs.symm.trans q.abs)
theorem Vals.inj:∀{xs ys:List V}{us:List Value},Vals xs us->Vals ys us->xs=ys
|_,_,_,.nil,.nil=>rfl
|_,_,_,.cons r t,.cons r' t'=>by rw[r.inj r',Vals.inj t t']
section
variable {X:Cx}{pins:List (Addr×Obj)}{σ:St}{H:Hp}{s:ah}{a:Addr}{xs ys:List V}
theorem SqL.of{K:af}(h:H a=some (.lst xs)):SqL K H a xs:=.inl (.inl h)
theorem SqT.of{K:af}(h:H a=some (.tup xs)):SqT K H a xs:=.inl (.inl h)
theorem Inv.list(I:Inv X pins σ H s)(h:SqL X.K H a xs):∃its:List Value,Vals xs its/\PlainL s.heap a its.toArray/\xs.length<=sizeLine:=by
 rcases h with h|⟨o,its,n,hk,hc,hd,hs,hz,r⟩
 ·obtain⟨z,its,n,r,e⟩:=h.ok I.hok;exact⟨its,r,⟨_,n,e,rfl,rfl,rfl⟩,z⟩
 ·refine⟨its.toList,r,⟨o,n,I.kIn a o hk,hc,hd,by simpa using hs⟩,?_⟩;have e:=r.length;simp only[dg]at e;omega
theorem Inv.tuple(I:Inv X pins σ H s)(h:SqT X.K H a xs):∃its:List Value,Vals xs its/\IsTup s.heap a its.toArray/\xs.length<=sizeLine:=by
 rcases h with h|⟨o,its,n,hk,hc,hs,hz,r⟩
 ·obtain⟨z,its,r,p⟩:=h.ok I.hok;exact⟨its,r,p,z⟩
 ·refine⟨its.toList,r,⟨o,I.kIn a o hk,hc,n,by simpa using hs⟩,?_⟩;have e:=r.length;simp only[dg]at e;omega
theorem Inv.list_inj(I:Inv X pins σ H s)(h:SqL X.K H a xs)(h':SqL X.K H a ys):xs=ys:=by
 obtain⟨its,r,⟨o,n,e,_,_,d⟩,_⟩:=I.list h;obtain⟨its',r',⟨o',n',e',_,_,d'⟩,_⟩:=I.list h';rw[e]at e';cases e';rw[d]at d';injection d' with d1 _;have:its=its':=by simpa using congrArg Array.toList d1
 subst this;exact r.inj r'
theorem Inv.tuple_inj(I:Inv X pins σ H s)(h:SqT X.K H a xs)(h':SqT X.K H a ys):xs=ys:=by
 obtain⟨its,r,⟨o,e,_,n,d⟩,_⟩:=I.tuple h;obtain⟨its',r',⟨o',e',_,n',d'⟩,_⟩:=I.tuple h';rw[e]at e';cases e';rw[d]at d';injection d' with d1 _;have:its=its':=by simpa using congrArg Array.toList d1
 subst this;exact r.inj r'
end
noncomputable abbrev Cx.wish(X:Cx)(E:Value->ah->Prop):Cx:={X with xe:=E}
noncomputable abbrev Cx.nox(X:Cx):Cx:=X.wish λ_ _=>False
theorem Cx.Ok.wish{X:Cx}(ok:X.Ok)(E:Value->ah->Prop):(X.wish E).Ok:=⟨ok.mod,ok.kind,ok.glob,ok.blt,ok.above,ok.inj,ok.has,ok.cab,ok.hd,ok.frames,ok.stk,ok.exf,ok.bs,ok.bsz,ok.noex,ok.exfs,ok.funs,ok.frf⟩
theorem Cx.Ok.unwish{X:Cx}{E:Value->ah->Prop}(ok:(X.wish E).Ok):X.Ok:=⟨ok.mod,ok.kind,ok.glob,ok.blt,ok.above,ok.inj,ok.has,ok.cab,ok.hd,ok.frames,ok.stk,ok.exf,ok.bs,ok.bsz,ok.noex,ok.exfs,ok.funs,ok.frf⟩
section
variable {X:Cx}{pins:List (Addr×Obj)}{σ:St}{H:Hp}{s:ah}{E:Value->ah->Prop}
theorem Inv.wish(I:Inv X pins σ H s)(E:Value->ah->Prop):Inv (X.wish E) pins σ H s:=⟨I.ok.wish E,I.os,I.bare,I.base,I.loc,I.cell,I.free,I.freeC,I.pin,I.hok,I.len⟩
theorem Inv.unwish(I:Inv (X.wish E) pins σ H s):Inv X pins σ H s:=⟨I.ok.unwish,I.os,I.bare,I.base,I.loc,I.cell,I.free,I.freeC,I.pin,I.hok,I.len⟩
theorem SP.unwish{D:Ends}{f:Flow}{s':ah}(h:SP (X.wish E) pins D f s'):SP X pins D f s':=by
 cases f with
|next=>obtain⟨σ',H',I,q⟩:=h;exact⟨σ',H',I.unwish,q⟩
|brk=>obtain⟨σ',H',I,q⟩:=h;exact⟨σ',H',I.unwish,q⟩
|cont=>obtain⟨σ',H',I,q⟩:=h;exact⟨σ',H',I.unwish,q⟩
|ret u=>obtain⟨v,σ',H',I,r,q⟩:=h;exact⟨v,σ',H',I.unwish,r,q⟩
theorem PSs.nox{st:List Stmt}{t:TS}(h:PSs X.nox st t):PSs X st t:=λpins s σ H D I hw=>cM (h pins s σ H D (I.wish _) hw) (λ_ _ q=>q.unwish) λ_ _ z=>bL z
end
section
variable {X:Cx}{st:Stmt}{rest:List Stmt}{t u:TS}{e:Expr}{te:TE}{pos:Pos}
def Eh:TS:=λD σ H=>D.nx σ H
def tSeq(t u:TS):TS:=λD σ H=>t {D with nx:=u D} σ H
theorem Zx:PSs X [] Eh:=λ_ _ σ H _ I h=>gH ⟨σ,H,I,h⟩
theorem Zd(h1:PS X st t)(h2:PSs X rest u):PSs X (st::rest) (tSeq t u):=by
 intro pins s σ H D I h;refine wpAny_execs_cons (thn (h1 pins s σ H {D with nx:=u D} I h) λf s1 q=>?_);cases f with
|next=>obtain⟨σ',H',I',q⟩:=q;exact h2 pins s1 σ' H' D I' q
|ret v=>exact q
|brk=>exact q
|cont=>exact q
theorem Zj(h1:PS X st t):PSs X [st] t:=by
 intro pins s σ H D I h;refine wpAny_execs_cons (thn (h1 pins s σ H D I h) λf s1 q=>?_);cases f with
|next=>exact gH q
|ret v=>exact q
|brk=>exact q
|cont=>exact q
theorem Inv.quiet{pins:List (Addr×Obj)}{σ:St}{H:Hp}{s:ah}(I:Inv X pins σ H s):interactive X.env=false:=by simp[interactive,I.ok.kind]
def Hx(te:TE):TS:=λD σ H=>te σ H λ_ H1=>D.nx σ H1
theorem ZF(he:PE X e te)(hs:fG e none pos.line X.env=pure false:=by rfl):PS X (.Expr e pos) (Hx te):=by intro pins s σ H D I h;exact wpAny_Expr_any (thn (he pins s σ H _ I h) λv s1⟨x,H1,I1,r1,q1⟩=>⟨σ,H1,I1,q1⟩) I.quiet hs
def tRet(te:TE):TS:=λD σ H=>te σ H D.rt
theorem Zn(he:PE X e te):PS X (.Return (some e) pos) (tRet te):=by intro pins s σ H D I h;exact wpAny_Return_some (thn (he pins s σ H _ I h) λv s1⟨x,H1,I1,r1,q1⟩=>⟨x,σ,H1,I1,r1,q1⟩)
def tIfS(c:TT)(t u:TS):TS:=λD σ H=>c σ H λb H1=>if b=true then t D σ H1 else u D σ H1
theorem ZZ{c:Expr}{a b:List Stmt}{tc:TT}(hc:PT X c tc)(ha:PSs X a t)(hb:PSs X b u):PS X (.If c a b pos) (tIfS tc t u):=by
 intro pins s σ H D I h;refine wpAny_If (thn (hc pins s σ H _ I h) λd s1⟨H1,I1,q1⟩=>?_);cases d with
|true=>exact ha pins s1 σ H1 D I1 q1
|false=>exact hb pins s1 σ H1 D I1 q1
end
noncomputable abbrev TG:=V->St->Hp->(St->Hp->Prop)->Prop
noncomputable abbrev TGs:=List V->St->Hp->(St->Hp->Prop)->Prop
def PG(X:Cx)(target:Expr)(t:TG):Prop:=∀(pins:List (Addr×Obj))(s:ah)(σ:St)(H:Hp)(v:V)(u:Value)(Q:St->Hp->Prop),Inv X pins σ H s->RelV v u->t v σ H Q ->wpAny (model X.prog X.w) X.A (assign target X.env u) (λ_ s'=>∃σ' H',Inv X pins σ' H' s'/\Q σ' H') X.xe s
def PGs(X:Cx)(ts:List Expr)(t:TGs):Prop:=∀(pins:List (Addr×Obj))(s:ah)(σ:St)(H:Hp)(vs:List V)(us:List Value)(Q:St->Hp->Prop),Inv X pins σ H s->Vals vs us->t vs σ H Q ->wpAny (model X.prog X.w) X.A (assignInOrder ((c_ ts X.env).map (·.2)) us) (λ_ s'=>∃σ' H',Inv X pins σ' H' s'/\Q σ' H') X.xe s
noncomputable abbrev TSet:=V->V->V->Hp->(Hp->Prop)->Prop
def PSet(X:Cx)(t:TSet):Prop:=∀(pins:List (Addr×Obj))(s:ah)(σ:St)(H:Hp)(o i v:V)(ov iv u:Value)(Q:Hp->Prop),Inv X pins σ H s->RelV o ov->RelV i iv->RelV v u->t o i v H Q ->wpAny (model X.prog X.w) X.A (setItem ov iv u) (λ_ s'=>∃H',Inv X pins σ H' s'/\Q H') X.xe s
section
variable {X:Cx}{pos:Pos}
def YI(i:Nat):TG:=λv σ H Q=>Q (σ.set i (some v)) H
theorem JA{i:Nat}{x:Str}(hN:X.N.Nodup)(hi:X.N[i]?=some x)(hx:Loc X.env.scope x)(hf:X.fn x=true\/X.env.scope.names.lookup x=some .local:=by first|exact .inl rfl|exact .inr rfl|assumption):PG X (.Name x pos) (YI i):=by intro pins s σ H v u Q I r h;exact wpAny_assign_Name (Mm I hN hi hx r (λs' I'=>⟨_,H,I',h⟩) hf)
noncomputable def gNil:TGs:=λvs σ H Q=>vs=[]/\Q σ H
noncomputable def LB(t:TG)(u:TGs):TGs:=λvs σ H Q=>∃v r,vs=v::r/\t v σ H λσ' H'=>u r σ' H' Q
theorem Yn:PGs X [] gNil:=by intro pins s σ H vs us Q I r h;obtain⟨e,h⟩:=h;subst e;cases r;exact assignInOrder_nil ⟨σ,H,I,h⟩
theorem Zo{e:Expr}{es:List Expr}{t:TG}{u:TGs}(h1:PG X e t)(h2:PGs X es u)(hs:(c_ (e::es) X.env).map (·.2)=assign e X.env::(c_ es X.env).map (·.2):=by rfl):PGs X (e::es) (LB t u):=by
 intro pins s σ H vs us Q I r h;obtain⟨v,vr,e1,h⟩:=h;subst e1;cases r with
|cons r rr=>rw[hs];refine assignInOrder_cons (thn (h1 pins s σ H _ _ _ I r h) λ_ s1 hZ=>?_);obtain⟨σ1,H1,I1,q1⟩:=hZ;exact h2 pins s1 σ1 H1 _ _ Q I1 rr q1
def gTup(K:af)(n:Nat)(t:TGs):TG:=λv σ H Q=>∃a xs,v=.ref a/\SqT K H a xs/\xs.length=n/\t xs σ H Q
theorem XJ{es:List Expr}{k:Nat}{t:TGs}{n:Nat}(hc:X.calm=true)(h:PGs X es t)(hn:(c_ es X.env).length=n:=by rfl)(hst:(c_ es X.env).findIdx? (·.1)=none:=by rfl):PG X (.Tuple es k pos) (gTup X.K n t):=by intro pins s σ H v u Q I r hw;obtain⟨a,xs,e1,hq,hl,hw⟩:=hw;subst e1;cases r;obtain⟨its,rv,ht,hz⟩:=I.tuple hq;refine assign_Tuple_tuple (I.ok.hd hc) ht (by simp[hn,<-hl,rv.length]) hst λh' hx=>?_;have I1:Inv X pins σ H {s with heap:=h'}:=I.kept (t':=s.toks) λb o e=>hx b o (Nat.ne_of_lt (Heap.lt_size e)) e;exact h pins _ σ H xs _ Q I1 (by simpa using rv) hw
def gSub(to ti:TE)(t:TSet):TG:=λv σ H Q=>to σ H λo H1=>ti σ H1 λi H2=>t o i v H2 λH3=>Q σ H3
theorem KN{o i:Expr}{to ti:TE}{t:TSet}(ho:PE X o to)(hi:PE X i ti)(hs:PSet X t)
  (ha:∀v,assign (.Subscript o i pos) X.env v=(do
   let ov <-eS [v] (eval o X.env)
   let iv <-eS [v,ov] (eval i X.env)
   gu pos
   eS [v,ov,iv] (setItem ov iv v)
   release [v,ov,iv] []):=by intro _;rfl):PG X (.Subscript o i pos) (gSub to ti t):=by
 intro pins s σ H v u Q I r h
 rw[ha]
 refine ae (aW (thn (ho pins s σ H _ I h) λov s1 hZ=>?_));obtain⟨x,H1,I1,r1,q1⟩:=hZ
 refine ae (aW (thn (hi pins s1 σ H1 _ I1 q1) λiv s2 hZ=>?_));obtain⟨y,H2,I2,r2,q2⟩:=hZ
 refine ae (eU (ae (aW (thn (hs pins s2 σ H2 x y v ov iv u _ I2 r1 r2 r q2) λ_ s3⟨H3,I3,q3⟩=>?_))))
 exact wpAny_release ⟨σ,H3,I3,q3⟩
def tAsg(te:TE)(g:TG):TS:=λD σ H=>te σ H λx H1=>g x σ H1 D.nx
theorem VR{tg e:Expr}{te:TE}{g:TG}(he:PE X e te)(hg:PG X tg g)(hs:swapsWithSole [tg] e pos.line X.env=pure false:=by rfl)(hw:swappedStores [tg] e X.env=pure none:=by rfl)(h1:(c_ [tg] X.env).map (·.2)=[assign tg X.env]:=by rfl):PS X (.Assign [tg] e pos) (tAsg te g):=by intro pins s σ H D I h;refine wpAny_Assign_stores (thn (he pins s σ H _ I h) λv s1 hZ=>?_) hs hw;obtain⟨x,H1,I1,r1,q1⟩:=hZ;rw[h1];exact thn (hg pins s1 σ H1 x v _ I1 r1 q1) λ_ s2 q=>q
theorem Yx{i:Nat}{x:Str}{e:Expr}{te:TE}{pos':Pos}(hN:X.N.Nodup)(hi:X.N[i]?=some x)(hx:Loc X.env.scope x)(he:PE X e te)(hs:fG e (some (.Name x pos')) pos.line X.env=pure false:=by rfl)(hf:X.fn x=true\/X.env.scope.names.lookup x=some .local:=by first|exact .inl rfl|exact .inr rfl|assumption):PS X (.Assign [.Name x pos'] e pos) (tAsg te (YI i)):=by intro pins s σ H D I h;refine wpAny_Assign_Name (thn (he pins s σ H _ I h) λv s1 hZ=>?_) hs;obtain⟨y,H1,I1,r1,q1⟩:=hZ;exact Mm I1 hN hi hx r1 (λs2 I2=>⟨_,H1,I2,q1⟩) hf
end
structure It where
 go:Nat->Hp->Prop
 yld:Nat->Hp->V->Hp->Prop
 stop:Nat->Hp->Prop
def FpOk(X:Cx)(pins:List (Addr×Obj))(H:Hp)(b:Addr):Prop:=H b=none/\b≠X.env.locals/\b∉X.fs/\(b∈X.ex\/X.s₀.heap.objs.size<=b)/\(∀x c,X.env.cells.lookup x=some c->c≠b)/\∀p∈X.pn++pins,p.1≠b
theorem Inv.fpOk{X:Cx}{pins:List (Addr×Obj)}{σ:St}{H H':Hp}{s:ah}{b:Addr}(I:Inv X pins σ H s)(hb:s.heap.objs.size<=b)(hn:H' b=none):FpOk X pins H' b:=by
 refine⟨hn,Nat.ne_of_gt (Nat.lt_of_lt_of_le I.lt hb),I.nofs hb,.inr (Nat.le_trans I.sz hb),λx c e z=>?_,λp hp z=>?_⟩
 ·obtain⟨v,q⟩:=I.cell x c e;exact absurd (Nat.lt_of_lt_of_le q.lt (by rw[z];exact hb)) (Nat.lt_irrefl _)
 ·exact absurd (Nat.lt_of_lt_of_le (Heap.lt_size (I.pin p hp).1) (by rw[z];exact hb)) (Nat.lt_irrefl _)
structure Turn(P:Program)(w:World)(K:af)(tg:Expr)(J:It)(fp:List Addr)(it:Addr)(tn:Nat->Heap->Prop):Prop where
 mem:it∈fp
 obj:∀i h,tn i h->∀b∈fp,∃o,h.get? b=some o/\∀v,o.data≠.cell v
 keep:∀i h h',tn i h->(∀b∈fp,∀o,h.get? b=some o->h'.get? b=some o)->tn i h'
 item:∀(X:Cx),X.prog=P->X.w=w->X.K=K->X.calm=true->∀(i:Nat)(pins:List (Addr×Obj))(s:ah)(σ:St)(H:Hp)(E:Value->ah->Prop),Inv X pins σ H s->(∀b∈fp,FpOk X pins H b)->tn i s.heap->J.go i H ->
  wpAny (model P w) X.A (fq (.ref it)) (λr s1=>∃u,r=some u /\
   wpAny (model P w) X.A (gK tg (.ref it) u) (λ_ s2=>∃x H',Inv X pins σ H' s2/\RelV x u/\J.yld i H x H'/\tn (i+1) s2.heap/\∀b∈fp,H' b=none) E s1) E s
 done:∀(X:Cx),X.prog=P->X.w=w->X.K=K->X.calm=true->∀(i:Nat)(pins:List (Addr×Obj))(s:ah)(σ:St)(H:Hp)(E:Value->ah->Prop),Inv X pins σ H s->(∀b∈fp,FpOk X pins H b)->tn i s.heap->J.stop i H ->
  wpAny (model P w) X.A (fq (.ref it)) (λr s1=>r=none/\Inv X pins σ H s1) E s
 self:∀(A:aL)(i:Nat)(s:ah)(Q:Value->ah->Prop)(E:Value->ah->Prop),tn i s.heap->Q (.ref it) s->wpAny (model P w) A (pyIter (.ref it)) Q E s
noncomputable abbrev TI:=St->Hp->(It->Hp->Prop)->Prop
def PIE(X:Cx)(pins:List (Addr×Obj))(σ:St)(tg:Expr)(R:It->Hp->Prop)(itv:Value)(s2:ah):Prop:=∃(it:Addr)(fp:List Addr)(tn:Nat->Heap->Prop)(J:It)(H':Hp),itv=.ref it/\Inv X pins σ H' s2/\Turn X.prog X.w X.K tg J fp it tn/\tn 0 s2.heap/\(∀b∈fp,FpOk X pins H' b)/\R J H'
def PI(X:Cx)(tg iter:Expr)(wi:TI):Prop:=∀(pins:List (Addr×Obj))(s:ah)(σ:St)(H:Hp)(R:It->Hp->Prop),Inv X pins σ H s->wi σ H R ->wpAny (model X.prog X.w) X.A (eval iter X.env) (λv s1=>wpAny (model X.prog X.w) X.A (pyIter v) (PIE X pins σ tg R) X.xe s1) X.xe s
theorem TC{M:Model}{A:aL}{E:Value->ah->Prop}{s:ah}{tg:Expr}{it:Addr}{u:Value}{o:Obj}{n:String}{vs:Array Value}{Q:Unit->ah->Prop}(ho:s.heap.get? it=some o)(hc:o.cls=.type n)(hd:o.data=.fields vs)(hn:["enumerate","zip","dict_itemiterator","dict_reverseitemiterator","odict_iterator","itertools.zip_longest","itertools.pairwise"].contains n=false)(hQ:Q () s):wpAny M A (gK tg (.ref it) u) Q E s:=by
 unfold gK;cases tg<;>first
 |exact ai hQ
 |(cases u<;>first
   |exact ai hQ
   |(refine ae (wpAny_load ho ?_);rw[hc,hd];show wpAny M A (if(["enumerate","zip","dict_itemiterator","dict_reverseitemiterator","odict_iterator","itertools.zip_longest","itertools.pairwise"].contains n&&vs[0]?==some (bC _))=true then _ else _) Q E s;rw[if_neg (by intro h;rw[hn,Bool.false_and]at h;cases h)];exact ai hQ))
noncomputable def Itl(K:af)(a:Addr):It:=⟨λi H=>∃xs x,SqL K H a xs/\xs[i]?=some x,λi H x H'=>H'=H/\∀xs,SqL K H a xs->xs[i]?=some x,λi H=>∃xs,SqL K H a xs/\xs.length<=i⟩
noncomputable def Itt(K:af)(a:Addr):It:=⟨λi H=>∃xs x,SqT K H a xs/\xs[i]?=some x,λi H x H'=>H'=H/\∀xs,SqT K H a xs->xs[i]?=some x,λi H=>∃xs,SqT K H a xs/\xs.length<=i⟩
noncomputable def Itr(lo:Int)(n:Nat):It:=⟨λi _=>i<n,λi H x H'=>H'=H/\x=.int (lo+i),λi _=>n<=i⟩
theorem T8{P:Program}{w:World}{K:af}{tg:Expr}(a it:Addr):Turn P w K tg (Itl K a) [it] it (λi h=>h.IsListIter it a i) where
 mem:=by simp
 obj:=λi h st b hb=>by
  have e:b=it:=by simpa using hb
  subst e
  obtain⟨o,e,c,d⟩:=st
  exact⟨o,e,λv z=>by rw[d]at z;cases z⟩
 keep:=λi h h' st k=>st.at λo e=>k it (by simp) o e
 item:=by
  intro X hP hw hK hc i pins s σ H E I hf st hg
  subst hP hw hK
  obtain⟨xs,x,hq,hx⟩:=hg
  obtain⟨its,rv,p,hz⟩:=I.list hq
  obtain⟨u,hu,ru⟩:=rv.get hx
  obtain⟨f0,f1,f2,f3,f4,f5⟩:=hf it (by simp)
  refine wpAny_pyNext_list_item st p.isList (x:=u) (by simpa using hu) λh' st' sb=>?_
  have I1:Inv X pins σ H {s with heap:=h'}:=I.turned (t':=s.toks) (λb o hb e=>(sb.2 b hb).trans e) f0 f1 f3 f4 f5
  obtain⟨o,e,c,d⟩:=id st'
  exact⟨u,rfl,TC (s:={s with heap:=h'}) e c d (by decide) ⟨x,H,I1,ru,⟨rfl,λys hy=>by rw[I.list_inj hy hq];exact hx⟩,st',λb hb=>(hf b hb).1⟩⟩
 done:=by
  intro X hP hw hK hc i pins s σ H E I hf st hg
  subst hP hw hK
  obtain⟨xs,hq,hx⟩:=hg
  obtain⟨its,rv,p,hz⟩:=I.list hq
  obtain⟨f0,f1,f2,f3,f4,f5⟩:=hf it (by simp)
  have hl:=rv.length
  exact wpAny_pyNext_list_end (I.ok.hd hc) st p.isList (by simp;omega) λh' eb=>⟨rfl,I.turned (t':=s.toks) (λb o hb e=>eb b o hb e) f0 f1 f3 f4 f5⟩
 self:=λ_ _ _ _ _ st h=>wpAny_pyIter_listiter st h
theorem Q7{P:Program}{w:World}{K:af}{tg:Expr}(a it:Addr):Turn P w K tg (Itt K a) [it] it (λi h=>h.IsTupleIter it a i) where
 mem:=by simp
 obj:=λi h st b hb=>by
  have e:b=it:=by simpa using hb
  subst e
  obtain⟨o,e,c,d⟩:=st
  exact⟨o,e,λv z=>by rw[d]at z;cases z⟩
 keep:=λi h h' st k=>st.at λo e=>k it (by simp) o e
 item:=by
  intro X hP hw hK hc i pins s σ H E I hf st hg
  subst hP hw hK
  obtain⟨xs,x,hq,hx⟩:=hg
  obtain⟨its,rv,p,hz⟩:=I.tuple hq
  obtain⟨u,hu,ru⟩:=rv.get hx
  obtain⟨f0,f1,f2,f3,f4,f5⟩:=hf it (by simp)
  refine wpAny_pyNext_tuple_item st (show s.heap.IsTuple a its.toArray from p) (x:=u) (by simpa using hu) λh' st' sb=>?_
  have I1:Inv X pins σ H {s with heap:=h'}:=I.turned (t':=s.toks) (λb o hb e=>(sb.2 b hb).trans e) f0 f1 f3 f4 f5
  obtain⟨o,e,c,d⟩:=id st'
  exact⟨u,rfl,TC (s:={s with heap:=h'}) e c d (by decide) ⟨x,H,I1,ru,⟨rfl,λys hy=>by rw[I.tuple_inj hy hq];exact hx⟩,st',λb hb=>(hf b hb).1⟩⟩
 done:=by
  intro X hP hw hK hc i pins s σ H E I hf st hg
  subst hP hw hK
  obtain⟨xs,hq,hx⟩:=hg
  obtain⟨its,rv,p,hz⟩:=I.tuple hq
  obtain⟨f0,f1,f2,f3,f4,f5⟩:=hf it (by simp)
  have hl:=rv.length
  exact wpAny_pyNext_tuple_end (I.ok.hd hc) st (show s.heap.IsTuple a its.toArray from p) (by simp;omega) λh' eb=>⟨rfl,I.turned (t':=s.toks) (λb o hb e=>eb b o hb e) f0 f1 f3 f4 f5⟩
 self:=λ_ _ _ _ _ st h=>wpAny_pyIter_tupleiter st h
theorem Q8{P:Program}{w:World}{K:af}{tg:Expr}(it:Addr)(lo:Int)(n:Nat):Turn P w K tg (Itr lo n) [it] it (λi h=>IsRangeIter h it (lo+(i:Nat)*1) ((n:Int)-(i:Nat)) 1) where
 mem:=by simp
 obj:=λi h st b hb=>by
  have e:b=it:=by simpa using hb
  subst e
  exact⟨_,st,λv z=>by
   have z':Data.fields _=Data.cell v:=z
   cases z'⟩
 keep:=λi h h' st k=>k it (by simp) _ st
 item:=by
  intro X hP hw hK hc i pins s σ H E I hf st hg
  subst hP hw hK
  obtain⟨f0,f1,f2,f3,f4,f5⟩:=hf it (by simp)
  have W:=Walks.range (prog:=X.prog) (w:=X.w) (I.ok.hd hc) it lo 1 n
  refine W.item i s _ _ hg st λv h' tk hv st' kk=>?_
  obtain⟨t,rfl⟩:=hv
  have I1:Inv X pins σ H {s with heap:=h',toks:=tk}:=I.turned (λb o hb e=>kk b o (by simpa using hb) e) f0 f1 f3 f4 f5
  refine⟨_,rfl,TC (s:={s with heap:=h',toks:=tk}) (n:="range_iterator") st' rfl rfl (by decide) ⟨.int (lo+i),H,I1,⟨t,?_⟩,⟨rfl,rfl⟩,st',λb hb=>(hf b hb).1⟩⟩
  rw[Int.mul_one]
 done:=by
  intro X hP hw hK hc i pins s σ H E I hf st hg
  subst hP hw hK
  obtain⟨f0,f1,f2,f3,f4,f5⟩:=hf it (by simp)
  exact wpAny_pyNext_range_end (I.ok.hd hc) st (by have:n<=i:=hg;omega) λh' eb=>⟨rfl,I.turned (t':=s.toks) (λb o hb e=>eb b o hb e) f0 f1 f3 f4 f5⟩
 self:=λ_ _ _ _ _ st h=>wpAny_pyIter_rangeiter st h
open PySem PySem.Spec PyProof.Rows
section
variable {X:Cx}{tg:Expr}
noncomputable def HW(K:af)(tl:TE):TI:=λσ H R=>tl σ H λx H1=>∃a,x=.ref a/\(∃xs,SqL K H1 a xs)/\R (Itl K a) H1
noncomputable def iTup(K:af)(tl:TE):TI:=λσ H R=>tl σ H λx H1=>∃a,x=.ref a/\(∃xs,SqT K H1 a xs)/\R (Itt K a) H1
theorem Ym{l:Expr}{tl:TE}(hl:PE X l tl):PI X tg l (HW X.K tl):=by
 intro pins s σ H R I h;refine thn (hl pins s σ H _ I h) λv s1 hZ=>?_;obtain⟨x,H1,I1,r1,q1⟩:=hZ;obtain⟨a,e,⟨xs,hq⟩,q⟩:=q1;subst e;cases r1;obtain⟨its,rv,p,hz⟩:=I1.list hq;refine wpAny_pyIter_list p.isList ?_;refine⟨s1.heap.objs.size,[s1.heap.objs.size],_,_,H1,rfl,I1.kept (t':=s1.toks) λb o e=>Heap.get?_push_of_some _ e,T8 a _,⟨_,Heap.get?_push_size _ rfl,rfl,rfl⟩,λb hb=>?_,q⟩;have e:b=s1.heap.objs.size:=by simpa using hb
 subst e;exact I1.fpOk (Nat.le_refl _) (I1.hok.fresh (Nat.le_refl _))
theorem Po{l:Expr}{tl:TE}(hl:PE X l tl):PI X tg l (iTup X.K tl):=by
 intro pins s σ H R I h;refine thn (hl pins s σ H _ I h) λv s1 hZ=>?_;obtain⟨x,H1,I1,r1,q1⟩:=hZ;obtain⟨a,e,⟨xs,hq⟩,q⟩:=q1;subst e;cases r1;obtain⟨its,rv,p,hz⟩:=I1.tuple hq;refine ik (show s1.heap.IsTuple a its.toArray from p) ?_;refine⟨s1.heap.objs.size,[s1.heap.objs.size],_,_,H1,rfl,I1.kept (t':=s1.toks) λb o e=>Heap.get?_push_of_some _ e,Q7 a _,⟨_,Heap.get?_push_size _ rfl,rfl,rfl⟩,λb hb=>?_,q⟩;have e:b=s1.heap.objs.size:=by simpa using hb
 subst e;exact I1.fpOk (Nat.le_refl _) (I1.hok.fresh (Nat.le_refl _))
theorem Qh{pins:List (Addr×Obj)}{σ:St}{H:Hp}{s:ah}{R:It->Hp->Prop}{E:Value->ah->Prop}{lo hi:Int}{t u v:Tok}{tk:Nat}(I:Inv X pins σ H s)(h1:-(2 ^ 62)<=lo)(h2:lo<2 ^ 62)(h3:-(2 ^ 62)<=hi)(h4:hi<2 ^ 62)(q:R (Itr lo (hi-lo).toNat) H):wpAny (model X.prog X.w) X.A (pyIter (.ref s.heap.objs.size)) (PIE X pins σ tg R) E {s with heap:=s.heap.push {cls:=.type "range",data:=.fields #[.int lo t,.int hi u,.int 1 v]},toks:=tk}:=by
 refine wpAny_pyIter_range (IsRange.new ..) (small_one h1 h2 h3 h4) ?_;have I1:Inv X pins σ H {s with heap:=s.heap.push {cls:=.type "range",data:=.fields #[.int lo t,.int hi u,.int 1 v]},toks:=tk}:=I.kept λb o e=>Heap.get?_push_of_some _ e;refine⟨(s.heap.push {cls:=.type "range",data:=.fields #[.int lo t,.int hi u,.int 1 v]}).objs.size,[(s.heap.push {cls:=.type "range",data:=.fields #[.int lo t,.int hi u,.int 1 v]}).objs.size],_,_,H,rfl,I1.kept (t':=tk) λb o e=>Heap.get?_push_of_some _ e,Q8 _ lo (hi-lo).toNat,?_,λb hb=>?_,q⟩
 ·have e1:lo+((0:Nat):Int)*1=lo:=by simp
  have e2:(((hi-lo).toNat:Nat):Int)-((0:Nat):Int)=Builtin.Range.rangeSize lo hi 1:=by rw[rangeSize_one];split<;>omega
  show IsRangeIter _ _ (lo+((0:Nat):Int)*1) ((((hi-lo).toNat:Nat):Int)-((0:Nat):Int)) 1;rw[e1,e2];exact Heap.get?_push_size _ rfl
 ·have e:b=(s.heap.push {cls:=.type "range",data:=.fields #[.int lo t,.int hi u,.int 1 v]}).objs.size:=by simpa using hb
  subst e;exact I1.fpOk (Nat.le_refl _) (I1.hok.fresh (Nat.le_refl _))
noncomputable def HV(ta:TA):TI:=λσ H R=>ta σ H λvs H1=>∃j:Int,vs=[.int j]/\-(2 ^ 62)<=j/\j<2 ^ 62/\R (Itr 0 j.toNat) H1
noncomputable def HU(ta:TA):TI:=λσ H R=>ta σ H λvs H1=>∃i j:Int,vs=[.int i,.int j]/\(-(2 ^ 62)<=i/\i<2 ^ 62/\-(2 ^ 62)<=j/\j<2 ^ 62)/\R (Itr i (j-i).toNat) H1
theorem Yg{a:Expr}{ta:TA}{p pos:Pos}(hg:Gl X "range")(hm:X.mg "range"=none)(ha:PA X [a] ta)(hs:aA [a] X.env=[(false,eval a X.env)]:=by rfl):PI X tg (.Call (.Name "range" p) [a] [] pos) (HV ta):=by
 intro pins s σ H R I h;refine Call_ (J1 I hg hm boot_range (bR (thn (ha pos pins s σ H _ I h) λus s1 hZ=>?_) hs rfl));obtain⟨vs,H1,I1,r1,q1⟩:=hZ;obtain⟨j,e,q1,q2,q⟩:=q1;subst e;cases r1 with
|cons r rr=>cases rr;obtain⟨t,rfl⟩:=r;exact call_range_1 (Qh I1 (by omega) (by omega) q1 q2 (by simpa using q))
theorem Nu{a b:Expr}{ta:TA}{p pos:Pos}(hg:Gl X "range")(hm:X.mg "range"=none)(ha:PA X [a,b] ta)(hs:aA [a,b] X.env=[(false,eval a X.env),(false,eval b X.env)]:=by rfl)(hs2:aA [b] X.env=[(false,eval b X.env)]:=by rfl):PI X tg (.Call (.Name "range" p) [a,b] [] pos) (HU ta):=by
 intro pins s σ H R I h;refine Call_ (J1 I hg hm boot_range (bR (thn (ha pos pins s σ H _ I h) λus s1⟨vs,H1,I1,r1,q1⟩=>?_) (by rw[hs,hs2]) (by rw[hs2];rfl)));obtain⟨i,j,e,⟨q1,q2,q3,q4⟩,q⟩:=q1;subst e;cases r1 with
|cons r rr=>
  cases rr with
 |cons r' rr=>cases rr;obtain⟨t,rfl⟩:=r;obtain⟨t',rfl⟩:=r';exact call_range_2 (Qh I1 q1 q2 q3 q4 q)
def tFor(wi:TI)(g:TG)(tb:TS):TS:=λD σ H=>wi σ H λJ H1=>∃W:Nat->Nat->St->Hp->Prop,(∃m,W 0 m σ H1)/\∀i m σ H,W i m σ H ->(J.stop i H/\D.nx σ H)\/(J.go i H/\∃N:St->Hp->Prop,(∀σ' H',N σ' H'->∃m',m'<m/\W (i+1) m' σ' H')/\∀x H',J.yld i H x H'->g x σ H' λσ2 H2=>tb {D with nx:=N,ct:=N,bk:=D.nx} σ2 H2)
noncomputable def Mv(fp:List Addr)(h:Heap):List (Addr×Obj):=fp.filterMap λb=>(h.get? b).map λo=>(b,o)
theorem mem_pinsAt{fp:List Addr}{h:Heap}{b:Addr}{o:Obj}(hb:b∈fp)(e:h.get? b=some o):(b,o)∈Mv fp h:=gR.mpr ⟨b,hb,by rw[e];rfl⟩
theorem Wl{fp:List Addr}{h:Heap}{p:Addr×Obj}(hp:p∈Mv fp h):p.1∈fp/\h.get? p.1=some p.2:=by
 obtain⟨b,hb,e⟩:=gR.mp hp;cases q:h.get? b with
|none=>rw[q]at e;cases e
|some o=>rw[q]at e;have e':(b,o)=p:=ao e;subst e';exact⟨hb,q⟩
theorem Inv.pinned{pins:List (Addr×Obj)}{σ:St}{H:Hp}{s:ah}{fp:List Addr}(I:Inv X pins σ H s)(hf:∀b∈fp,FpOk X pins H b)(ho:∀b∈fp,∃o,s.heap.get? b=some o/\∀v,o.data≠.cell v):Inv X (pins++Mv fp s.heap) σ H s:=I.pins_of λp hp=>(aN.mp hp).elim (λz=>I.pin p (aZ _ z)) λz=>by obtain⟨hb,e⟩:=Wl z;obtain⟨f0,f1,f2,_⟩:=hf p.1 hb;obtain⟨o,e',d⟩:=ho p.1 hb;rw[e]at e';cases e';exact⟨e,f0,f1,f2,d⟩
theorem Inv.unpinned{pins pl:List (Addr×Obj)}{σ:St}{H:Hp}{s:ah}(I:Inv X (pins++pl) σ H s):Inv X pins σ H s:=I.pins_of λp hp=>I.pin p (aZ _ (ba _ hp))
theorem Yr{iter:Expr}{body:List Stmt}{wi:TI}{g:TG}{tb:TS}{pos:Pos}(hp:PassesOwn (model X.prog X.w) X.A X.env X.xe)(hc:X.calm=true)(hi:PI X tg iter wi)(hg:PG X tg g)(hb:PSs X body tb)(hs:∀x,fU iter X.env x=pure x:=by intro _;rfl):PS X (.For tg iter body [] pos) (tFor wi g tb):=by
 intro pins s σ H D I h;refine wpAny_For (thn (hi pins s σ H _ I h) λv s1 h1=>thn h1 λitv s2 h2=>?_) hs;obtain⟨it,fp,tn,J,H2,e,I2,T,st2,f2,W,⟨m0,w0⟩,turn⟩:=h2;subst e;have stat:∀{H':Hp},(∀b∈fp,H' b=none)->∀b∈fp,FpOk X pins H' b:=λhn b hb=>⟨hn b hb,(f2 b hb).2⟩;refine codeAny_forLoop_any (λn s'=>∃i σ' H',Inv X pins σ' H' s'/\tn i s'.heap/\(∀b∈fp,H' b=none)/\W i n σ' H') ?_ m0 ⟨0,σ,H2,I2,st2,λb hb=>(f2 b hb).1,w0⟩;rintro n s3 ⟨i,σ3,H3,I3,st3,fr3,w3⟩;rcases turn i n σ3 H3 w3 with⟨stop,qn⟩|⟨go,N,hN,step⟩
 ·refine fu hp (thn (T.done X rfl rfl rfl hc i pins s3 σ3 H3 X.xe I3 (stat fr3) st3 stop) λr s4⟨hr,I4⟩=>?_);subst hr;exact gH ⟨σ3,H3,I4,qn⟩
 ·refine fu hp (thn (T.item X rfl rfl rfl hc i pins s3 σ3 H3 X.xe I3 (stat fr3) st3 go) λr s4⟨u,hr,h4⟩=>?_);subst hr;refine fu hp (thn h4 λ_ s5 hZ=>?_);obtain⟨x,H5,I5,r5,y5,st5,fr5⟩:=hZ;have I5':=I5.pinned (stat fr5) (T.obj _ _ st5);refine fu hp (thn (hg _ s5 σ3 H5 x u _ I5' r5 (step x H5 y5)) λ_ s6 hZ=>?_);obtain⟨σ6,H6,I6,q6⟩:=hZ;refine fu hp (thn (hb _ s6 σ6 H6 _ I6 q6) λf s7 q7=>?_);have again:∀{σ7:St}{H7:Hp},Inv X (pins++Mv fp s5.heap) σ7 H7 s7->N σ7 H7->∃m,m<n/\∃i σ' H',Inv X pins σ' H' s7/\tn i s7.heap/\(∀b∈fp,H' b=none)/\W i m σ' H':=λ{σ7 H7}I7 n7=>by obtain⟨m',hm,w7⟩:=hN σ7 H7 n7;refine⟨m',hm,i+1,σ7,H7,I7.unpinned,T.keep _ _ _ st5 λb hb o e=>(I7.pin (b,o) (aZ _ (aZ _ (mem_pinsAt hb e)))).1,λb hb=>?_,w7⟩;obtain⟨o,e,d⟩:=T.obj _ _ st5 b hb;exact(I7.pin (b,o) (aZ _ (aZ _ (mem_pinsAt hb e)))).2.1
  cases f with
 |next=>obtain⟨σ7,H7,I7,n7⟩:=q7;exact again I7 n7
 |cont=>obtain⟨σ7,H7,I7,n7⟩:=q7;exact again I7 n7
 |brk=>obtain⟨σ7,H7,I7,q7⟩:=q7;exact⟨σ7,H7,I7.unpinned,q7⟩
 |ret v=>obtain⟨x7,σ7,H7,I7,r7,q7⟩:=q7;exact⟨x7,σ7,H7,I7.unpinned,r7,q7⟩
end
theorem Uj{K:af}{a:Addr}{xs:List V}{g:TG}{tb:TS}{D:Ends}{σ:St}{H:Hp}(Pv:Nat->St->Hp->Prop)(h0:Pv 0 σ H)(hl:∀i σ H,i<=xs.length->Pv i σ H->SqL K H a xs)(hs:∀i x σ H,xs[i]?=some x->Pv i σ H->g x σ H λσ2 H2=>tb {D with nx:=Pv (i+1),ct:=Pv (i+1),bk:=D.nx} σ2 H2)(hd:∀σ H,Pv xs.length σ H->D.nx σ H):∃W:Nat->Nat->St->Hp->Prop,(∃m,W 0 m σ H)/\∀i m σ H,W i m σ H ->((Itl K a).stop i H/\D.nx σ H)\/((Itl K a).go i H/\∃N:St->Hp->Prop,(∀σ' H',N σ' H'->∃m',m'<m/\W (i+1) m' σ' H')/\∀x H',(Itl K a).yld i H x H'->g x σ H' λσ2 H2=>tb {D with nx:=N,ct:=N,bk:=D.nx} σ2 H2):=by
 refine⟨λi m σ H=>m=xs.length-i/\i<=xs.length/\Pv i σ H,⟨xs.length,by simp,Nat.zero_le _,h0⟩,?_⟩;rintro i m σ H ⟨rfl,hi,p⟩;have q:=hl i σ H hi p;by_cases hlt:i<xs.length
 ·refine .inr ⟨⟨xs,xs[i],q,by simp[hlt]⟩,Pv (i+1),λσ' H' p'=>⟨xs.length-(i+1),by omega,rfl,hlt,p'⟩,λx H' y=>?_⟩;obtain⟨e,y⟩:=y;subst e;exact hs i x σ _ (y xs q) p
 ·have e:i=xs.length:=by omega
  subst e;exact .inl ⟨⟨xs,q,Nat.le_refl _⟩,hd σ H p⟩
theorem Vp{lo:Int}{n:Nat}{g:TG}{tb:TS}{D:Ends}{σ:St}{H:Hp}(Pv:Nat->St->Hp->Prop)(h0:Pv 0 σ H)(hs:∀i σ H,i<n->Pv i σ H->g (.int (lo+i)) σ H λσ2 H2=>tb {D with nx:=Pv (i+1),ct:=Pv (i+1),bk:=D.nx} σ2 H2)(hd:∀σ H,Pv n σ H->D.nx σ H):∃W:Nat->Nat->St->Hp->Prop,(∃m,W 0 m σ H)/\∀i m σ H,W i m σ H ->((Itr lo n).stop i H/\D.nx σ H)\/((Itr lo n).go i H/\∃N:St->Hp->Prop,(∀σ' H',N σ' H'->∃m',m'<m/\W (i+1) m' σ' H')/\∀x H',(Itr lo n).yld i H x H'->g x σ H' λσ2 H2=>tb {D with nx:=N,ct:=N,bk:=D.nx} σ2 H2):=by
 refine⟨λi m σ H=>m=n-i/\i<=n/\Pv i σ H,⟨n,by simp,Nat.zero_le _,h0⟩,?_⟩;rintro i m σ H ⟨rfl,hi,p⟩;by_cases hlt:i<n
 ·refine .inr ⟨hlt,Pv (i+1),λσ' H' p'=>⟨n-(i+1),by omega,rfl,hlt,p'⟩,λx H' y=>?_⟩;obtain⟨e,y⟩:=y;subst e y;exact hs i σ _ hlt p
 ·have e:i=n:=by omega
  subst e;exact .inl ⟨Nat.le_refl _,hd σ H p⟩
open PySem PySem.Spec PyProof.Rows
noncomputable abbrev R2:=V->V->Hp->VK->Prop
def OpR(X:Cx)(f:Value->Value->Sem Value)(r:R2):Prop:=∀(pins:List (Addr×Obj))(s:ah)(σ:St)(H:Hp)(x y:V)(v u:Value)(Q:VK),Inv X pins σ H s->RelV x v->RelV y u->r x y H Q ->wpAny (model X.prog X.w) X.A (f v u) (EP X pins σ Q) X.xe s
def UnR(X:Cx)(f:Value->Sem Value)(r:V->Hp->VK->Prop):Prop:=∀(pins:List (Addr×Obj))(s:ah)(σ:St)(H:Hp)(x:V)(v:Value)(Q:VK),Inv X pins σ H s->RelV x v->r x H Q ->wpAny (model X.prog X.w) X.A (f v) (EP X pins σ Q) X.xe s
def Y1(X:Cx)(f:Value)(r:List V->Hp->VK->Prop):Prop:=∀(pins:List (Addr×Obj))(s:ah)(σ:St)(H:Hp)(xs:List V)(us:List Value)(Q:VK),Inv X pins σ H s->Vals xs us->r xs H Q ->wpAny (model X.prog X.w) X.A (call f us) (EP X pins σ Q) X.xe s
def TruR(X:Cx)(r:V->Hp->(Bool->Hp->Prop)->Prop):Prop:=∀(pins:List (Addr×Obj))(s:ah)(σ:St)(H:Hp)(x:V)(v:Value)(Q:Bool->Hp->Prop),Inv X pins σ H s->RelV x v->r x H Q ->wpAny (model X.prog X.w) X.A (truthy v) (TP X pins σ Q) X.xe s
def tOp(r:R2)(ta tb:TE):TE:=λσ H Q=>ta σ H λx H1=>tb σ H1 λy H2=>r x y H2 Q
def tUn(r:V->Hp->VK->Prop)(ta:TE):TE:=λσ H Q=>ta σ H λx H1=>r x H1 Q
def rI(C:Int->Int->Prop)(g:Int->Int->V):R2:=λx y H Q=>∃i j,x=.int i/\y=.int j/\C i j/\Q (g i j) H
def rI0(g:Int->Int->V):R2:=λx y H Q=>∃i j,x=.int i/\y=.int j/\Q (g i j) H
noncomputable def rU(g:Int->V):V->Hp->VK->Prop:=λx H Q=>∃i,x=.int i/\Q (g i) H
section
variable {X:Cx}{a b c:Expr}{ta tb tc:TE}{pos:Pos}
theorem binT(ha:PE X a ta)(hb:PE X b tb){pins:List (Addr×Obj)}{s:ah}{σ:St}{H:Hp}{R:V->V->Hp->Prop}(I:Inv X pins σ H s)(h:ta σ H λx H1=>tb σ H1 λy H2=>R x y H2){Q:Value->ah->Prop}{f:Value->Value->Sem Value}(hf:∀v u s2 x y H2,Inv X pins σ H2 s2->RelV x v->RelV y u->R x y H2->wpAny (model X.prog X.w) X.A (f v u) Q X.xe s2):wpAny (model X.prog X.w) X.A (eval a X.env) (λv s₁=>wpAny (model X.prog X.w) X.A (eval b X.env) (λu s₂=>wpAny (model X.prog X.w) X.A (f v u) Q X.xe s₂) X.xe s₁) X.xe s:=by refine thn (ha pins s σ H _ I h) λv s1 hZ=>?_;obtain⟨x,H1,I1,r1,q1⟩:=hZ;refine thn (hb pins s1 σ H1 _ I1 q1) λu s2 hZ=>?_;obtain⟨y,H2,I2,r2,q2⟩:=hZ;exact hf v u s2 x y H2 I2 r1 r2 q2
theorem Zw{op:Operator}{r:R2}(ho:OpR X (eZ op) r)(ha:PE X a ta)(hb:PE X b tb):PE X (.BinOp a op b pos) (tOp r ta tb):=by intro pins s σ H Q I h;exact wpAny_BinOp (binT ha hb I h λv u s2 x y H2 I2 rx ry q=>ho pins s2 σ H2 x y v u Q I2 rx ry q)
theorem En{op:UnaryOp}{r:V->Hp->VK->Prop}(ho:UnR X (unaryOp op) r)(ha:PE X a ta):PE X (.UnaryOp op a pos) (tUn r ta):=by intro pins s σ H Q I h;exact UnaryOp_ (thn (ha pins s σ H _ I h) λv s1⟨x,H1,I1,r1,q1⟩=>ho pins s1 σ H1 x v Q I1 r1 q1)
theorem opI{f:Value->Value->Sem Value}{C:Int->Int->Prop}{g:Int->Int->Int}(rule:∀(i j:Int)(t u:Tok)(s:ah)(Q:Value->ah->Prop)(E:Value->ah->Prop),C i j->Q (.int (g i j) s.toks) {s with toks:=s.toks+1}->wpAny (model X.prog X.w) X.A (f (.int i t) (.int j u)) Q E s):OpR X f (rI C λi j=>.int (g i j)):=by intro pins s σ H x y v u Q I rx ry h;obtain⟨i,j,rfl,rfl,hc,q⟩:=h;obtain⟨t,rfl⟩:=rx;obtain⟨t',rfl⟩:=ry;exact rule i j t t' s _ _ hc ⟨.int (g i j),H,I.tok _,⟨_,rfl⟩,q⟩
theorem opI0{f:Value->Value->Sem Value}{g:Int->Int->Int}(rule:∀(i j:Int)(t u:Tok)(s:ah)(Q:Value->ah->Prop)(E:Value->ah->Prop),Q (.int (g i j) s.toks) {s with toks:=s.toks+1}->wpAny (model X.prog X.w) X.A (f (.int i t) (.int j u)) Q E s):OpR X f (rI0 λi j=>.int (g i j)):=by intro pins s σ H x y v u Q I rx ry h;obtain⟨i,j,rfl,rfl,q⟩:=h;obtain⟨t,rfl⟩:=rx;obtain⟨t',rfl⟩:=ry;exact rule i j t t' s _ _ ⟨.int (g i j),H,I.tok _,⟨_,rfl⟩,q⟩
theorem opB0{f:Value->Value->Sem Value}{g:Int->Int->Bool}(rule:∀(i j:Int)(t u:Tok)(s:ah)(Q:Value->ah->Prop)(E:Value->ah->Prop),Q (.bool (g i j)) s->wpAny (model X.prog X.w) X.A (f (.int i t) (.int j u)) Q E s):OpR X f (rI0 λi j=>.bl (g i j)):=by intro pins s σ H x y v u Q I rx ry h;obtain⟨i,j,rfl,rfl,q⟩:=h;obtain⟨t,rfl⟩:=rx;obtain⟨t',rfl⟩:=ry;exact rule i j t t' s _ _ ⟨.bl (g i j),H,I,rfl,q⟩
def CDiv(i j:Int):Prop:=0<j/\j<1073741824
def CPow(i j:Int):Prop:=0<=j/\j<=1000000/\i.natAbs<2 ^ 64
def CMul(i j:Int):Prop:=(-(2 ^ 64)<i/\i<2 ^ 64)\/(-(2 ^ 64)<j/\j<2 ^ 64)
theorem CMul.ok{i j:Int}(h:CMul i j):IntMulOk i j:=by
 rcases h with⟨h1,h2⟩|⟨h1,h2⟩
 ·exact .of_left (intBits_le_64 h1 h2)
 ·exact .of_right (intBits_le_64 h1 h2)
theorem ZX:OpR X (eZ .Add) (rI0 λi j=>.int (i+j)):=opI0 λ_ _ _ _ _ _ _ q=>add_int q
theorem JY:OpR X (eZ .Sub) (rI0 λi j=>.int (i-j)):=opI0 λ_ _ _ _ _ _ _ q=>sub_int q
theorem Ga:OpR X (eZ .Mult) (rI CMul λi j=>.int (i*j)):=opI λ_ _ _ _ _ _ _ hc q=>mul_int q hc.ok
theorem DN:OpR X (eZ .FloorDiv) (rI CDiv λi j=>.int (i / j)):=opI λi j _ _ _ _ _ hc q=>by have h1:(0:Int)<j:=hc.1;have h2:j<1073741824:=hc.2;exact floordiv_int (by omega) (by rw[Int.fdiv_eq_ediv_of_nonneg i (by omega)];exact q) (.inl (PyProof.noPylong_small (by omega)))
theorem Jg:OpR X (eZ .Mod) (rI (λ_ j=>0<j) λi j=>.int (i % j)):=opI λi j _ _ _ _ _ hc q=>by have h1:(0:Int)<j:=hc;exact mod_int' (by omega) (by rw[Int.fmod_eq_emod_of_nonneg i (by omega)];exact q)
theorem KS:OpR X (eZ .Pow) (rI CPow λi j=>.int (i ^ j.toNat)):=opI λ_ _ _ _ _ _ _ hc q=>pow_int_small hc.1 hc.2.1 hc.2.2 q
theorem unI{f:Value->Sem Value}{g:Int->Int}(rule:∀(i:Int)(t:Tok)(s:ah)(Q:Value->ah->Prop)(E:Value->ah->Prop),Q (.int (g i) s.toks) {s with toks:=s.toks+1}->wpAny (model X.prog X.w) X.A (f (.int i t)) Q E s):UnR X f (rU λi=>.int (g i)):=by intro pins s σ H x v Q I rx h;obtain⟨i,rfl,q⟩:=h;obtain⟨t,rfl⟩:=rx;exact rule i t s _ _ ⟨.int (g i),H,I.tok _,⟨_,rfl⟩,q⟩
theorem W9:UnR X (unaryOp .USub) (rU λi=>.int (-i)):=unI λ_ _ _ _ _ q=>neg_int q
noncomputable def scal:V->V->Bool
|.non,.non=>true|.non,.int _=>true|.int _,.non=>true|.non,.bl _=>true|.bl _,.non=>true|.non,.str _=>true|.str _,.non=>true
|.int _,.int _=>true|.bl _,.bl _=>true|.str _,.str _=>true|.byt _,.byt _=>true
|.int _,.str _=>true|.str _,.int _=>true|.bl _,.str _=>true|.str _,.bl _=>true
|_,_=>false
def rEq:R2:=λx y H Q=>scal x y=true/\Q (.bl (decide (x=y))) H
def rNe:R2:=λx y H Q=>scal x y=true/\Q (.bl (!decide (x=y))) H
theorem TQ{i j:Int}:decide (V.int i=V.int j)=(i==j):=by rw[Bool.eq_iff_iff];simp
theorem LI{i j:Bool}:decide (V.bl i=V.bl j)=(i==j):=by rw[Bool.eq_iff_iff];simp
theorem TN{i j:Str}:decide (V.str i=V.str j)=(i==j):=by rw[Bool.eq_iff_iff];simp
theorem TR{i j:Array UInt8}:decide (V.byt i=V.byt j)=(i.toList==j.toList):=by rw[Bool.eq_iff_iff];cases i;cases j;simp
theorem ZJ{pins:List (Addr×Obj)}{σ:St}{H:Hp}{s:ah}{Q:VK}{k k':Bool}(I:Inv X pins σ H s)(q:Q (.bl k) H)(e:k=k'):EP X pins σ Q (.bool k') s:=by subst e;exact⟨.bl k,H,I,rfl,q⟩
theorem Jp:OpR X (bU .Eq) rEq:=by
 intro pins s σ H x y v u Q I rx ry h;obtain⟨hs,q⟩:=h;cases x with
|non=>
  cases rx;cases y with
 |non=>cases ry;exact PySem.EqNone.eq_none_none (ZJ I q (by simp))
 |bl j=>cases ry;exact PySem.EqNone.eq_none_bool (ZJ I q (by simp))
 |int j=>obtain⟨t',rfl⟩:=ry;exact PySem.EqNone.eq_none_int (ZJ I q (by simp))
 |str j=>obtain⟨t',rfl⟩:=ry;exact PySem.EqNone.eq_none_str (ZJ I q (by simp))
 |_=>exact absurd (show false=true from hs) Bool.false_ne_true
|bl i=>
  cases rx;cases y with
 |non=>cases ry;exact PySem.EqNone.eq_bool_none (ZJ I q (by simp))
 |bl j=>cases ry;exact eq_bool (ZJ I q LI)
 |str j=>obtain⟨t',rfl⟩:=ry;exact PySem.EqMixed.eq_bool_str (ZJ I q (by simp))
 |_=>exact absurd (show false=true from hs) Bool.false_ne_true
|int i=>
  obtain⟨t,rfl⟩:=rx;cases y with
 |non=>cases ry;exact PySem.EqNone.eq_int_none (ZJ I q (by simp))
 |int j=>obtain⟨t',rfl⟩:=ry;exact eq_int (ZJ I q TQ)
 |str j=>obtain⟨t',rfl⟩:=ry;exact PySem.EqMixed.eq_int_str (ZJ I q (by simp))
 |_=>exact absurd (show false=true from hs) Bool.false_ne_true
|str i=>
  obtain⟨t,rfl⟩:=rx;cases y with
 |non=>cases ry;exact PySem.EqNone.eq_str_none (ZJ I q (by simp))
 |bl j=>cases ry;exact PySem.EqMixed.eq_str_bool (ZJ I q (by simp))
 |int j=>obtain⟨t',rfl⟩:=ry;exact PySem.EqMixed.eq_str_int (ZJ I q (by simp))
 |str j=>obtain⟨t',rfl⟩:=ry;exact eq_str (ZJ I q TN)
 |_=>exact absurd (show false=true from hs) Bool.false_ne_true
|byt i=>
  obtain⟨t,rfl⟩:=rx;cases y with
 |byt j=>obtain⟨t',rfl⟩:=ry;exact PySem.W.eq_bytes (ZJ I q TR)
 |_=>exact absurd (show false=true from hs) Bool.false_ne_true
|_=>cases y<;>exact absurd (show false=true from hs) Bool.false_ne_true
theorem KU:OpR X (bU .NotEq) rNe:=by
 intro pins s σ H x y v u Q I rx ry h;obtain⟨hs,q⟩:=h;cases x with
|non=>
  cases rx;cases y with
 |non=>cases ry;exact PySem.EqNone.ne_none_none (ZJ I q (by simp))
 |bl j=>cases ry;exact PySem.EqNone.ne_none_bool (ZJ I q (by simp))
 |int j=>obtain⟨t',rfl⟩:=ry;exact PySem.EqNone.ne_none_int (ZJ I q (by simp))
 |str j=>obtain⟨t',rfl⟩:=ry;exact PySem.EqNone.ne_none_str (ZJ I q (by simp))
 |_=>exact absurd (show false=true from hs) Bool.false_ne_true
|bl i=>
  cases rx;cases y with
 |non=>cases ry;exact PySem.EqNone.ne_bool_none (ZJ I q (by simp))
 |bl j=>cases ry;exact ne_bool (ZJ I q (congrArg not LI))
 |str j=>obtain⟨t',rfl⟩:=ry;exact PySem.EqMixed.ne_bool_str (ZJ I q (by simp))
 |_=>exact absurd (show false=true from hs) Bool.false_ne_true
|int i=>
  obtain⟨t,rfl⟩:=rx;cases y with
 |non=>cases ry;exact PySem.EqNone.ne_int_none (ZJ I q (by simp))
 |int j=>obtain⟨t',rfl⟩:=ry;exact ne_int (ZJ I q (congrArg not TQ))
 |str j=>obtain⟨t',rfl⟩:=ry;exact PySem.EqMixed.ne_int_str (ZJ I q (by simp))
 |_=>exact absurd (show false=true from hs) Bool.false_ne_true
|str i=>
  obtain⟨t,rfl⟩:=rx;cases y with
 |non=>cases ry;exact PySem.EqNone.ne_str_none (ZJ I q (by simp))
 |bl j=>cases ry;exact PySem.EqMixed.ne_str_bool (ZJ I q (by simp))
 |int j=>obtain⟨t',rfl⟩:=ry;exact PySem.EqMixed.ne_str_int (ZJ I q (by simp))
 |str j=>obtain⟨t',rfl⟩:=ry;exact ne_str (ZJ I q (congrArg not TN))
 |_=>exact absurd (show false=true from hs) Bool.false_ne_true
|byt i=>
  obtain⟨t,rfl⟩:=rx;cases y with
 |byt j=>obtain⟨t',rfl⟩:=ry;exact PySem.W.ne_bytes (ZJ I q (congrArg not TR))
 |_=>exact absurd (show false=true from hs) Bool.false_ne_true
|_=>cases y<;>exact absurd (show false=true from hs) Bool.false_ne_true
theorem Eo:OpR X (bU .Lt) (rI0 λi j=>.bl (decide (i<j))):=opB0 λ_ _ _ _ _ _ _ q=>lt_int q
theorem Ny:OpR X (bU .LtE) (rI0 λi j=>.bl (decide (i<=j))):=opB0 λ_ _ _ _ _ _ _ q=>le_int q
theorem KY:OpR X (bU .Gt) (rI0 λi j=>.bl (decide (j<i))):=opB0 λ_ _ _ _ _ _ _ q=>gt_int q
theorem Gb:OpR X (bU .In) (λx y H Q=>∃i j,x=.str i/\y=.str j/\Q (.bl (!(ic j i 0 j.length 1).isEmpty)) H):=by intro pins s σ H x y v u Q I rx ry h;obtain⟨i,j,rfl,rfl,q⟩:=h;obtain⟨t,rfl⟩:=rx;obtain⟨t',rfl⟩:=ry;exact in_str (ZJ I q rfl)
theorem KW:OpR X (bU .Is) (λx y H Q=>y=.non/\Q (.bl (decide (x=.non))) H):=by
 intro pins s σ H x y v u Q I rx ry h;obtain⟨rfl,q⟩:=h;cases ry;refine is_none_gen (ZJ I q ?_);cases x<;>first
 |(cases rx;rfl)
 |(obtain⟨t,rfl⟩:=rx;rfl)
theorem JC:OpR X (bU .IsNot) (λx y H Q=>y=.non/\Q (.bl (!decide (x=.non))) H):=by
 intro pins s σ H x y v u Q I rx ry h;obtain⟨rfl,q⟩:=h;cases ry;refine isnot_none_gen (ZJ I q ?_);cases x<;>first
 |(cases rx;rfl)
 |(obtain⟨t,rfl⟩:=rx;rfl)
theorem ZC(b:Expr){op:CmpOp}(h:op≠.In:=by decide)(h2:op≠.NotIn:=by decide):dQ op b=false:=by
 have e1:(op==CmpOp.In)=false:=by cases op<;>first|rfl|exact absurd rfl h
 have e2:(op==CmpOp.NotIn)=false:=by cases op<;>first|rfl|exact absurd rfl h2
 cases b<;>simp[dQ,e1,e2]
theorem YC{op:CmpOp}{r:R2}(ho:OpR X (bU op) r)(ha:PE X a ta)(hb:PE X b tb)(hm:dQ op b=false):PE X (.Compare a [op] [b] pos) (tOp r ta tb):=by intro pins s σ H Q I h;exact wpAny_Compare1 (binT ha hb I h λv u s2 x y H2 I2 rx ry q=>ho pins s2 σ H2 x y v u Q I2 rx ry q) hm
def Ke(t:TE):TT:=λσ H Q=>t σ H λx H'=>∃k,x=.bl k/\Q k H'
theorem ZD{op:CmpOp}{r:R2}(ho:OpR X (bU op) r)(ha:PE X a ta)(hb:PE X b tb)(hm:dQ op b=false):PT X (.Compare a [op] [b] pos) (Ke (tOp r ta tb)):=by
 intro pins s σ H Q I h;refine wpAny_isTrue_Compare1 (thn (ha pins s σ H _ I h) λv s1⟨x,H1,I1,r1,q1⟩=>thn (hb pins s1 σ H1 _ I1 q1) λu s2⟨y,H2,I2,r2,q2⟩=>thn (ho pins s2 σ H2 x y v u _ I2 r1 r2 q2) λc s3 hZ=>?_) hm;obtain⟨z,H3,I3,r3,k,e,q3⟩:=hZ;subst e;cases r3;exact bS ⟨H3,I3,q3⟩
def Kg(r r':R2)(ta tb tc:TE):TE:=λσ H Q=>ta σ H λx H1=>tb σ H1 λy H2=>r x y H2 λz H3=>∃k,z=.bl k /\(if k=true then tc σ H3 λw' H4=>r' y w' H4 Q else Q (.bl false) H3)
theorem Qm{op op':CmpOp}{r r':R2}(ho:OpR X (bU op) r)(ho':OpR X (bU op') r')(ha:PE X a ta)(hb:PE X b tb)(hc:PE X c tc)(hm:lastMarks [op,op'] [b,c]=false:=by with_unfolding_all rfl):PE X (.Compare a [op,op'] [b,c] pos) (Kg r r' ta tb tc):=by
 intro pins s σ H Q I h;refine Compare_chain (thn (ha pins s σ H _ I h) λv s1⟨x,H1,I1,r1,q1⟩=>chain_link (thn (hb pins s1 σ H1 _ I1 q1) λu s2⟨y,H2,I2,r2,q2⟩=>
  thn (ho pins s2 σ H2 x y v u _ I2 r1 r2 q2) λd s3⟨z,H3,I3,r3,k,e,q3⟩=>?_)) hm;subst e;cases r3;refine bS ?_;cases k with
|false=>exact ite_ff ⟨.bl false,H3,I3,rfl,q3⟩
|true=>exact ite_tt (chain_last (thn (hc pins s3 σ H3 _ I3 q3) λw' s4⟨z',H4,I4,r4,q4⟩=>ho' pins s4 σ H4 y z' u w' Q I4 r2 r4 q4))
theorem KG{op op':CmpOp}{r r':R2}(ho:OpR X (bU op) r)(ho':OpR X (bU op') r')(ha:PE X a ta)(hb:PE X b tb)(hc:PE X c tc)(hm:lastMarks [op,op'] [b,c]=false:=by with_unfolding_all rfl):PT X (.Compare a [op,op'] [b,c] pos) (Ke (Kg r r' ta tb tc)):=by
 intro pins s σ H Q I h;refine isTrue_chain (thn (ha pins s σ H _ I h) λv s1⟨x,H1,I1,r1,q1⟩=>test_link (thn (hb pins s1 σ H1 _ I1 q1) λu s2⟨y,H2,I2,r2,q2⟩=>
  thn (ho pins s2 σ H2 x y v u _ I2 r1 r2 q2) λd s3⟨z,H3,I3,r3,k,e,q3⟩=>?_)) hm;subst e;cases r3;refine bS ?_;cases k with
|false=>obtain⟨k',e',q'⟩:=q3;cases e';exact ite_ff ⟨H3,I3,q'⟩
|true=>refine ite_tt (test_last (thn (hc pins s3 σ H3 _ I3 q3) λw' s4⟨z',H4,I4,r4,q4⟩=>thn (ho' pins s4 σ H4 y z' u w' _ I4 r2 r4 q4) λd' s5⟨z2,H5,I5,r5,k2,e2,q5⟩=>?_));subst e2;cases r5;exact bS ⟨H5,I5,q5⟩
def TruV(K:af)(x:V)(H:Hp)(k:Bool):Prop:=match x with
|.non=>k=false
|.bl b=>k=b
|.int i=>k=(i != 0)
|.str y=>y.length<=sizeLine/\k=((y.length:Int) != 0)
|.byt y=>y.size<=sizeLine/\k=((y.size:Int) != 0)
|.ref p=>(∃xs,SqL K H p xs/\k=!xs.isEmpty)\/(∃xs,SqT K H p xs/\k=!xs.isEmpty)\/∃kvs,H p=some (.dK kvs)/\k=!kvs.isEmpty
|_=>False
theorem RI{κ:Type}{kvs:List (κ×V)}{vs:List (κ×Value)}(r:KV kvs vs):(!vs.isEmpty)=!kvs.isEmpty:=by cases r<;>rfl
theorem MG{xs:List V}{its:List Value}(r:Vals xs its):(!its.toArray.isEmpty)=!xs.isEmpty:=by cases r<;>simp
theorem VU:(sizeLine:Nat)<2 ^ 63:=by rw[fe];decide
theorem EH:TruR X (λx H Q=>∃k,TruV X.K x H k/\Q k H):=by
 intro pins s σ H x v Q I rx h;obtain⟨k,e,q⟩:=h;have hl:=VU;have hs:sizeLine=16777216:=fe;cases x with
|non=>cases rx;have e':k=false:=e;subst e';exact truthy_none ⟨H,I,q⟩
|bl b=>cases rx;have e':k=b:=e;subst e';exact bS ⟨H,I,q⟩
|int i=>obtain⟨t,rfl⟩:=rx;have e':k=(i != 0):=e;subst e';exact PySem.P.truthy_int ⟨H,I,q⟩
|str y=>obtain⟨t,rfl⟩:=rx;obtain⟨hy,e'⟩:y.length<=sizeLine/\k=((y.length:Int) != 0):=e;subst e';exact PySem.P.truthy_str (by omega) ⟨H,I.tok _,q⟩
|byt y=>obtain⟨t,rfl⟩:=rx;obtain⟨hy,e'⟩:y.size<=sizeLine/\k=((y.size:Int) != 0):=e;subst e';exact PySem.W.truthy_bytes (by omega) ⟨H,I.tok _,q⟩
|ref p=>
  cases rx;have e':(∃xs,SqL X.K H p xs/\k=!xs.isEmpty)\/(∃xs,SqT X.K H p xs/\k=!xs.isEmpty)\/∃kvs,H p=some (.dK kvs)/\k=!kvs.isEmpty:=e;rcases e' with⟨xs,hx,e'⟩|⟨xs,hx,e'⟩|⟨kvs,hx,e'⟩
  ·subst e';obtain⟨its,r,pl,hz⟩:=I.list hx;have hlen:=r.length;exact wpAny_truthy_list pl.isList (by simp only[ar];omega) ⟨H,I.tok _,by rw[MG r];exact q⟩
  ·subst e';obtain⟨its,r,pl,hz⟩:=I.tuple hx;have hlen:=r.length;exact truthy_tuple pl (by simp only[ar];omega) ⟨H,I.tok _,by rw[MG r];exact q⟩
  ·subst e';obtain⟨hz,hS,vs,r,m⟩:kvs.length<=sizeLine/\(p==sysModules)=false/\∃vs,KV kvs vs/\s.heap.DictOf (Zy X.prog X.w) p vs:=I.hok p _ hx;have hlen:kvs.length=vs.length:=bq r;exact wpAny_truthy_dict hS m (by omega) ⟨H,I.tok _,by rw[RI r];exact q⟩
|_=>exact(show False from e).elim
theorem VT:OpR X (eZ .Add) (λx y H Q=>∃i j,x=.str i/\y=.str j/\i.length+j.length<=sizeLine/\Q (.str (i++j)) H):=by intro pins s σ H x y v u Q I rx ry h;obtain⟨i,j,rfl,rfl,hz,q⟩:=h;obtain⟨t,rfl⟩:=rx;obtain⟨t',rfl⟩:=ry;exact add_str (λt' tk=>⟨.str (i++j),H,I.tok _,⟨_,rfl⟩,q⟩) hz
theorem vals1{x:V}{us:List Value}(r:Vals [x] us):∃u,us=[u]/\RelV x u:=by
 cases r with
|cons r1 r2=>cases r2;exact⟨_,rfl,r1⟩
theorem vals2{x y:V}{us:List Value}(r:Vals [x,y] us):∃u w',us=[u,w']/\RelV x u/\RelV y w':=by
 cases r with
|cons r1 r2=>
  cases r2 with
 |cons r3 r4=>cases r4;exact⟨_,_,rfl,r1,r3⟩
theorem WZ(hc:X.calm=true):Y1 X (.builtin "max") (λxs H Q=>∃i j,xs=[.int i,.int j]/\Q (.int (if j>i then j else i)) H):=by
 intro pins s σ H xs us Q I r h;obtain⟨i,j,rfl,q⟩:=h;obtain⟨u,w',rfl,⟨t,rfl⟩,⟨t',rfl⟩⟩:=vals2 r;refine max_two_ints (I.ok.hd hc) λh' tk k=>⟨_,H,I.kept k,?_,q⟩;by_cases hj:j>i
 ·rw[if_pos hj,if_pos hj];exact⟨_,rfl⟩
 ·rw[if_neg hj,if_neg hj];exact⟨_,rfl⟩
theorem GF:Y1 X (.type "int") (λxs H Q=>(∃i,xs=[.int i]/\Q (.int i) H)\/∃k,xs=[.bl k]/\Q (.int (if k then 1 else 0)) H):=by
 intro pins s σ H xs us Q I r h;rcases h with⟨i,rfl,q⟩|⟨k,rfl,q⟩
 ·obtain⟨u,rfl,t,rfl⟩:=vals1 r;exact call_int_int ⟨.int i,H,I,⟨_,rfl⟩,q⟩
 ·obtain⟨u,rfl,r1⟩:=vals1 r;cases r1;exact call_int_bool ⟨.int (if k then 1 else 0),H,I.tok _,⟨_,rfl⟩,q⟩
theorem PF:Y1 X (.type "str") (λxs H Q=>∃i,xs=[.int i]/\i.natAbs.log2<1920/\Q (.str (toString i)) H):=by intro pins s σ H xs us Q I r h;obtain⟨i,rfl,hz,q⟩:=h;obtain⟨u,rfl,t,rfl⟩:=vals1 r;exact PySem.P.str_of_int hz ⟨.str _,H,I.tok _,⟨_,rfl⟩,q⟩
def LenV(K:af)(x:V)(H:Hp)(n:Nat):Prop:=match x with
|.str y=>y.length<=sizeLine/\n=y.length
|.byt y=>y.size<=sizeLine/\n=y.size
|.ref p=>(∃xs,SqL K H p xs/\n=xs.length)\/∃xs,SqT K H p xs/\n=xs.length
|_=>False
theorem LZ:Y1 X (.builtin "len") (λxs H Q=>∃x n,xs=[x]/\LenV X.K x H n/\Q (.int n) H):=by
 intro pins s σ H xs us Q I r h;obtain⟨x,n,rfl,e,q⟩:=h;obtain⟨u,rfl,rx⟩:=vals1 r;have hl:=VU;have hs:sizeLine=16777216:=fe;cases x with
|str y=>obtain⟨t,rfl⟩:=rx;obtain⟨hy,e'⟩:y.length<=sizeLine/\n=y.length:=e;subst e';exact len_str (by omega) ⟨.int _,H,I.tok _,⟨_,rfl⟩,q⟩
|byt y=>obtain⟨t,rfl⟩:=rx;obtain⟨hy,e'⟩:y.size<=sizeLine/\n=y.size:=e;subst e';exact PySem.W.len_bytes (by omega) ⟨.int _,H,I.tok _,⟨_,rfl⟩,q⟩
|ref p=>
  cases rx;have e':(∃xs,SqL X.K H p xs/\n=xs.length)\/∃xs,SqT X.K H p xs/\n=xs.length:=e;rcases e' with⟨xs,hx,e'⟩|⟨xs,hx,e'⟩
  ·subst e';obtain⟨its,r',pl,hz⟩:=I.list hx;have hlen:=r'.length;exact Calls.call_len_list pl.isList (by simp only[ar];omega) ⟨.int xs.length,H,I.tok _,⟨_,by simp only[ar];rw[hlen]⟩,q⟩
  ·subst e';obtain⟨its,r',pl,hz⟩:=I.tuple hx;have hlen:=r'.length;exact len_tuple pl (by simp only[ar];omega) ⟨.int xs.length,H,I.tok _,⟨_,by simp only[ar];rw[hlen]⟩,q⟩
|_=>exact(show False from e).elim
end
open PySem PySem.Spec PyProof.Rows
structure ObjM(h:Heap)(x dx C:Addr)(mA:Str->Option Value):Prop where
 obj:h.get? x=some (cV C dx)
 ns:h.Ns1 dx mA
 ne:dx≠x
theorem NA{h:Heap}{dx:Addr}{mA:Str->Option Value}(n:h.Ns1 dx mA):∃od,h.get? dx=some od/\∀name,fZ name od=some (mA name):=by
 obtain⟨o,es,ep,ho,hd,hk,_,hm⟩:=n;refine⟨o,ho,λname=>?_⟩;have e:=hm name;unfold nsFind findBy at e;rw[<-Array.find?_toList]at e;unfold fZ;rw[hd];dsimp only;split
 ·rename_i y q;rw[q]at e;exact congrArg some e
 ·rename_i q;rw[q]at e;have a:es.toList.any (·.refKey)=false:=by rw[List.any_eq_false];intro y hy;obtain⟨z,t,hkey⟩:=hk y (eF.mp hy);simp[DictEntry.refKey,hkey]
  have a':¬es.toList.any (·.refKey)=true:=by rw[a];exact Bool.false_ne_true
  rw[if_neg a'];exact congrArg some e
theorem ObjM.look{h:Heap}{x dx C:Addr}{mA:Str->Option Value}(I:ObjM h x dx C mA):∃od,iu h x (cV C dx) C (some od)/\∀name,fZ name od=some (mA name):=let ⟨od,ho,hl⟩:=NA I.ns
 ⟨od,⟨I.obj,rfl,rfl,ho⟩,hl⟩
section
variable {prog:Program}{w:World}{A:aL}{E:Value->ah->Prop}{s:ah}{K:af}{x dx C f:Addr}{mA:Str->Option Value}{name:Str}{v:Value}
theorem get_map{expr:Bool}{Q:Value->ah->Prop}(X:K.In s.heap)(I:ObjM s.heap x dx C mA)(hg:de K C name=true)(hh:bZ K C=true)(ha:ak K (.ref C) name=some none)(hv:mA name=some v)(hv':gY v=true)(h:Q v {s with toks:=s.toks+1}):wpAny (model prog w) A (getAttr (.ref x) name expr) Q E s:=by obtain⟨od,J,hl⟩:=I.look;exact PySem.W.get_value X J (gh hg).1 (PySem.W.findObj_own hh ha rfl (by rw[hl,hv])) hv' h
theorem LA{pl:Sem Bool}{Q:Value×List Value->ah->Prop}(X:K.In s.heap)(I:ObjM s.heap x dx C mA)(hg:de K C name=true)(hf:ak K (.ref C) name=some (some (.ref f)))(ht:dZ K (.ref f)=true)(hv:mA name=none)(h:Q (.ref f,[.ref x]) s):wpAny (model prog w) A (eQ (.ref x) name pl) Q E s:=by obtain⟨od,J,hl⟩:=I.look;exact PySem.W.method_fn X J (gh hg).1 (gh hg).2 hf (beq_iff_eq.mp ht) (by show(fZ name od).map (·.isSome)=some false;rw[hl,hv];rfl) h
theorem Dt{ns:List Str}{Q:Unit->ah->Prop}(X:K.In s.heap)(I:ObjM s.heap x dx C mA)(hs:ak K (.ref C) "__setattr__"=some (some (.builtin "object.__setattr__")))(hp:d5 K C=true)(ht:g_ K C name=some none)(hh:bZ K C=true)(hw:dR mA ns)(hsz:ns.length<=sizeLine)(h:∀h',ObjM h' x dx C (λy=>if y=name then some v else mA y)->Heap.SameBut dx s.heap h'->Q () {s with heap:=h',toks:=s.toks+2}):wpAny (model prog w) A (setAttr (.ref x) name v) Q E s:=by obtain⟨od,J,hl⟩:=I.look;refine PySem.W.set_plain X J hs (PySem.W.osa_open (s:={s with toks:=s.toks+1}) (r:=none) X J hp ht λb=>?_);obtain⟨cd,hc,hd'⟩:=PySem.W.any_some hh;have hx:s.heap.get? x=some ⟨.ref C,some dx,.plain,#[]⟩:=I.obj;refine ae (ai (ae (ae (wpAny_loadPart hx (ae (PySem.W.Looks.here (s:={s with toks:=s.toks+1}) (PySem.W.looks_clsIn X hc) ?_))))));rw[hd'];refine ai (a:=some dx) (ae (ai (ae ?_)));refine wpAny_nsSet1 (s:={s with toks:=s.toks+1}) I.ns λh' hn2 hs2=>?_;obtain⟨oD,esD,epD,hoD,hdD,hcD⟩:=hn2.count (PySem.Within.cons name v hw);refine ae (wpAny_lookBehind hoD (by rw[hdD];exact pastItsLine_dict (Nat.le_trans hcD (by rw[aP];omega))) ?_);exact ai (h _ ⟨(hs2.2 _ (bw I.ne)).trans I.obj,hn2,I.ne⟩ hs2)
theorem Lj{R:Result->ah->Prop}{vs:List Value}{kw:List (Str×Value)}(X:K.In s.heap)(hm:eB K C=true)(hi:ak K (.ref C) "__init__"=some (some (.ref f)))(hf:PySem.W.typeIn K (.ref f)=some (.type "function"))(h:fS (model prog w) (A.under (.builtin "type.__call__" ⟨.ref C::vs,kw⟩)) (.call (.ref f) ⟨.ref (s.heap.objs.size+1)::vs,kw⟩) (PySem.W.InitBack (s.heap.objs.size+1) R) {s with heap:=(s.heap.push b5).push (cV C s.heap.objs.size)}):fS (model prog w) A (.call (.ref C) ⟨vs,kw⟩) R s:=by obtain⟨hh,g,d,t,os⟩:=s;exact PySem.W.make_core (PySem.W.makes_of X hm) (eh X hi) (λself=>PySem.W.bind_fn X self hf) (.inl rfl) h
end
noncomputable def putF(f:Str)(v:V):List (Str×V)->List (Str×V)
|[]=>[(f,v)]
|(g,x)::r=>if g=f then(g,v)::r else(g,x)::putF f v r
theorem Zl(f g:Str)(v:V):∀fs:List (Str×V),(putF f v fs).lookup g=if g=f then some v else fs.lookup g
|[]=>by
  show eI g [(f,v)]=_;by_cases h:g=f
  ·have hb:(g==f)=true:=beq_iff_eq.mpr h;simp only[eI,hb,if_pos h]
  ·have hb:(g==f)=false:=beq_eq_false_iff_ne.mpr h;simp only[eI,hb,if_neg h]
|(k,x)::r=>by
  have ih:=Zl f g v r;rw[show putF f v ((k,x)::r)=(if k=f then(k,v)::r else(k,x)::putF f v r)from rfl];by_cases hk:k=f
  ·rw[if_pos hk];by_cases h:g=k
   ·have hb:(g==k)=true:=beq_iff_eq.mpr h;simp only[eI,hb,if_pos (h.trans hk)]
   ·have hb:(g==k)=false:=beq_eq_false_iff_ne.mpr h;simp only[eI,hb,if_neg (λe:g=f=>h (e.trans hk.symm))]
  ·rw[if_neg hk];by_cases h:g=k
   ·have hb:(g==k)=true:=beq_iff_eq.mpr h;simp only[eI,hb,if_neg (λe:g=f=>hk (h.symm.trans e))]
   ·have hb:(g==k)=false:=beq_eq_false_iff_ne.mpr h;simp only[eI,hb];exact ih
theorem Jt(f:Str)(v:V):∀fs:List (Str×V),f∈(putF f v fs).map (·.1)/\∀g,g∈fs.map (·.1)->g∈(putF f v fs).map (·.1)
|[]=>⟨by simp[putF],λg h=>by simp at h⟩
|(k,x)::r=>by
  obtain⟨i1,i2⟩:=Jt f v r;rw[show putF f v ((k,x)::r)=(if k=f then(k,v)::r else(k,x)::putF f v r)from rfl];by_cases hk:k=f
  ·rw[if_pos hk];subst hk;exact⟨by simp,λg h=>by simpa using h⟩
  ·rw[if_neg hk];refine⟨?_,λg h=>?_⟩
   ·rw[aI];exact aq _ i1
   ·rw[aI]at h ⊢;rcases au.mp h with e|e
    ·exact au.mpr (.inl e)
    ·exact aq _ (i2 g e)
theorem Yd(f:Str)(v:V):∀fs:List (Str×V),(putF f v fs).length<=fs.length+1
|[]=>by simp[putF]
|(k,x)::r=>by
  have ih:=Yd f v r;rw[show putF f v ((k,x)::r)=(if k=f then(k,v)::r else(k,x)::putF f v r)from rfl];by_cases hk:k=f
  ·rw[if_pos hk,aP,aP];omega
  ·rw[if_neg hk,aP,aP];omega
theorem RelO.some_of{v:V}{o:Option Value}(r:RelO (some v) o):∃u,o=some u/\RelV v u:=by
 cases o with
|none=>exact(show False from r).elim
|some u=>exact⟨u,rfl,r⟩
theorem RelO.none_of{o:Option Value}(r:RelO none o):o=none:=by
 cases o with
|none=>rfl
|some u=>exact(show False from r).elim
theorem NH{v:V}{u:Value}(r:RelV v u):gY u=true:=by
 cases v with
|non=>cases(show u=Value.none from r);rfl
|bl b=>cases(show u=Value.bool b from r);rfl
|int i=>obtain⟨t,e⟩:=(show ∃t,u=Value.int i t from r);cases e;rfl
|str x=>obtain⟨t,e⟩:=(show ∃t,u=Value.str x t from r);cases e;rfl
|byt b=>obtain⟨t,e⟩:=(show ∃t,u=Value.bytes b t from r);cases e;rfl
|flt b=>obtain⟨t,e⟩:=(show ∃t,u=Value.float b t from r);cases e;rfl
|ref a=>cases(show u=Value.ref a from r);rfl
|ty n=>cases(show u=Value.type n from r);rfl
section
variable {P:Program}{w:World}{H H':Hp}{h h':Heap}{a C dx:Addr}{fs fs':List (Str×V)}
theorem G8(hok:HOk P w H h)(e:H a=some (.ins C dx fs)):∃mA,ObjM h a dx C mA/\(∀f,RelO (fs.lookup f) (mA f))/\dR mA (fs.map (·.1))/\fs.length<=1000/\H dx=some (.own a):=by obtain⟨d,z,ne,ob,mA,n,r,q⟩:=(show ZE P w H h a (.ins C dx fs)from hok a _ e);exact⟨mA,⟨ob,n,ne⟩,r,q,z,d⟩
end
structure Cls(K:af)(C:Addr):Prop where
 pg:de K C Str.empty=true
 hd:bZ K C=true
 po:d5 K C=true
 sa:ak K (.ref C) "__setattr__"=some (some (.builtin "object.__setattr__"))
theorem Cls.get{K:af}{C:Addr}(c:Cls K C)(f:Str):de K C f=true:=c.pg
def Z1(K:af)(C:Addr)(f:Str):Prop:=ak K (.ref C) f=some none
theorem Z1.taker{K:af}{C:Addr}{f:Str}(n:Z1 K C f):g_ K C f=some none:=by unfold g_;rw[show ak K (.ref C) f=some none from n];rfl
structure Meth(K:af)(C:Addr)(m:Str)(f:Addr):Prop where
 at_:ak K (.ref C) m=some (some (.ref f))
 fn:dZ K (.ref f)=true
 kp:aJ K (.ref f)=true
section
variable {X:Cx}{pins:List (Addr×Obj)}{σ:St}{H:Hp}{s:ah}{a C dx:Addr}{fs:List (Str×V)}{f:Str}{v:V}{A:aL}{E:Value->ah->Prop}
theorem RM{b:Bool}{Q:Value->ah->Prop}(I:Inv X pins σ H s)(e:H a=some (.ins C dx fs))(c:Cls X.K C)(n:Z1 X.K C f)(l:fs.lookup f=some v)(h:∀u s',Inv X pins σ H s'->RelV v u->Q u s'):wpAny (model X.prog X.w) A (getAttr (.ref a) f b) Q E s:=by obtain⟨mA,O,r,_,_,_⟩:=G8 I.hok e;obtain⟨u,hu,ru⟩:=RelO.some_of (v:=v) (o:=mA f) (by rw[<-l];exact r f);exact get_map I.kIn O (c.get f) c.hd n hu (NH ru) (h u _ (I.tok _) ru)
theorem JF{m:Str}{g:Addr}{pl:Sem Bool}{Q:Value×List Value->ah->Prop}(I:Inv X pins σ H s)(e:H a=some (.ins C dx fs))(c:Cls X.K C)(k:Meth X.K C m g)(l:fs.lookup m=none)(h:Q (.ref g,[.ref a]) s):wpAny (model X.prog X.w) A (eQ (.ref a) m pl) Q E s:=by obtain⟨mA,O,r,_,_,_⟩:=G8 I.hok e;have hn:mA m=none:=RelO.none_of (by rw[<-l];exact r m);exact LA I.kIn O (c.get m) k.at_ k.fn hn h
theorem Rm{y:V}{u:Value}{Q:Unit->ah->Prop}(I:Inv X pins σ H s)(e:H a=some (.ins C dx fs))(c:Cls X.K C)(n:Z1 X.K C f)(hl:fs.length<1000)(ry:RelV y u)(h:∀s',Inv X pins σ (upd H a (.ins C dx (putF f y fs))) s'->Q () s'):wpAny (model X.prog X.w) A (setAttr (.ref a) f u) Q E s:=by
 obtain⟨mA,O,r,wi,_,ho⟩:=G8 I.hok e;have hz:(fs.map (·.1)).length<=sizeLine:=by rw[bu,fe];omega
 refine Dt I.kIn O c.sa c.po n.taker c.hd wi hz λh' O' sb=>h _ ?_;have hd:∃o,h'.get? dx=some o:=let ⟨o,_,_,e',_⟩:=O'.ns;⟨o,e'⟩
 refine I.write (x:=a) (e:=dx) (by rw[e];exact bD) (.inr ho) (λb q hb z=>(sb.2 b hb).trans z) hd ?_;refine⟨by rw[Zg O.ne];exact ho,?_,O.ne,O'.obj,_,O'.ns,λg=>?_,λg hg=>?_⟩
 ·have:=Yd f y fs;omega
 ·show RelO ((putF f y fs).lookup g) (if g=f then some u else mA g);rw[Zl];by_cases q:g=f
  ·rw[if_pos q,if_pos q];exact ry
  ·rw[if_neg q,if_neg q];exact r g
 ·by_cases q:g=f
  ·rw[q];exact(Jt f y fs).1
  ·refine(Jt f y fs).2 g (wi g λz=>hg ?_);show(if g=f then some u else mA g)=none;rw[if_neg q];exact z
theorem Inv.made(I:Inv X pins σ H s):Inv X pins σ (upd (upd H s.heap.objs.size (.own (s.heap.objs.size+1))) (s.heap.objs.size+1) (.ins C s.heap.objs.size [])) {s with heap:=(s.heap.push b5).push (cV C s.heap.objs.size)}:=by
 have e1:(s.heap.push b5).get? s.heap.objs.size=some b5:=Heap.get?_push_size s.heap rfl;have e2:((s.heap.push b5).push (cV C s.heap.objs.size)).get? (s.heap.objs.size+1)=some (cV C s.heap.objs.size):=by have:=Heap.get?_push_size (s.heap.push b5) (o:=cV C s.heap.objs.size) rfl;rwa [Heap.size_push]at this
 have e3:(s.heap.push b5).Ns s.heap.objs.size (λ_=>none):=⟨b5,#[],_,e1,rfl,(λe he=>absurd he (by simp)),λ_=>rfl⟩;have I1:=I.laid (a:=s.heap.objs.size) (o:=.own (s.heap.objs.size+1)) (h':=s.heap.push b5) (t':=s.toks) (λb u q=>Heap.get?_push_of_some _ q) (Nat.le_refl _) ⟨_,e1⟩;refine I1.laid (a:=s.heap.objs.size+1) (o:=.ins C s.heap.objs.size []) (t':=s.toks) (λb u q=>Heap.get?_push_of_some _ q) (Nat.le_of_eq (Heap.size_push _ _)) ?_;have ne:s.heap.objs.size≠s.heap.objs.size+1:=Nat.ne_of_lt (Nat.lt_succ_self _);refine⟨by rw[Zg ne,Zb],Nat.zero_le _,ne,e2,λ_=>none,(Heap.Ns1.of_empty e3).at λo q=>Heap.get?_push_of_some _ q,λ_=>bD,λy hy=>absurd rfl hy⟩
theorem TV{prog:Program}{w:World}{env:Env}{e:Expr}{f:Str}{pos:Pos}{s:ah}{Q:Value->ah->Prop}(hb:dq e f env (eval e env)=eval e env)(h:wpAny (model prog w) A (eval e env) (λo s₁=>wpAny (model prog w) A (getAttr o f true) Q E s₁) E s):wpAny (model prog w) A (eval (.Attribute e f pos) env) Q E s:=Attribute_any_ h (by rw[arm_eval_Attribute,hb])
end
def tFld(K:af)(ta:TE)(f:Str):TE:=λσ H Q=>ta σ H λx H1=>∃a C dx fs v,x=.ref a/\H1 a=some (.ins C dx fs)/\Cls K C/\Z1 K C f/\fs.lookup f=some v/\Q v H1
def sFld(K:af)(ta tv:TE)(f:Str):TS:=λD σ H=>tv σ H λy H1=>ta σ H1 λx H2=>∃a C dx fs,x=.ref a/\H2 a=some (.ins C dx fs)/\Cls K C/\Z1 K C f/\fs.length<1000 /\D.nx σ (upd H2 a (.ins C dx (putF f y fs)))
section
variable {X:Cx}{o e value:Expr}{f:Str}{pos pos' tpos:Pos}{ta tv:TE}
theorem ZI(he:PE X e ta)(hb:dq e f X.env (eval e X.env)=eval e X.env):PE X (.Attribute e f pos) (tFld X.K ta f):=by intro pins s σ H Q I h;refine TV hb (thn (he pins s σ H _ I h) λu s1 hZ=>?_);obtain⟨x,H1,I1,rx,a,C,dx,fs,v,ex,ea,c,n,l,q⟩:=hZ;subst ex;obtain rfl:u=Value.ref a:=rx;exact RM I1 ea c n l λu' s2 I2 ru=>⟨v,H1,I2,ru,q⟩
theorem YA(ha:PE X o ta)(hv:PE X value tv)(hs:fG value (some (.Attribute o f pos')) pos.line X.env=pure false):PS X (.Assign [.Attribute o f pos'] value pos) (sFld X.K ta tv f):=by intro pins s σ H D I h;refine eM (thn (hv pins s σ H _ I h) λu s1⟨y,H1,I1,ry,q⟩=>thn (ha pins s1 σ H1 _ I1 q) λov s2 hZ=>?_) hs;obtain⟨x,H2,I2,rx,a,C,dx,fs,ex,ea,c,n,l,q2⟩:=hZ;subst ex;obtain rfl:ov=Value.ref a:=rx;exact Rm I2 ea c n l ry λs3 I3=>⟨σ,_,I3,q2⟩
theorem Er{pl:Sem Bool}{m:Str}{apos:Pos}{args:List Expr}{pins:List (Addr×Obj)}{s:ah}{σ:St}{H:Hp}{Q:Value->ah->Prop}{te:TE}(he:PE X e te)(I:Inv X pins σ H s)
  (h:te σ H λx H1=>∃a C dx fs g,x=.ref a/\H1 a=some (.ins C dx fs)/\Cls X.K C/\Meth X.K C m g/\fs.lookup m=none /\
   ∀s1,Inv X pins σ H1 s1->wpAny (model X.prog X.w) X.A (f_ pos (.ref g) [.ref a] (b8 pos (aA args X.env)) (d6 pos (cU [] X.env))) Q X.xe s1)
  (ht:eval (.Call (.Attribute e m apos) args [] pos) X.env=(do
   let ov <-eval e X.env
   gu apos.atName
   let (f,first) <-eS [ov] (eQ ov m pl)
   f_ pos f first (b8 pos (aA args X.env)) (d6 pos (cU [] X.env)))):
  wpAny (model X.prog X.w) X.A (eval (.Call (.Attribute e m apos) args [] pos) X.env) Q X.xe s:=by
 refine dE (pl:=pl) (thn (he pins s σ H _ I h) λu s1 hZ=>?_) ht;obtain⟨x,H1,I1,rx,a,C,dx,fs,g,ex,ea,c,k,l,q⟩:=hZ
 subst ex
 obtain rfl:u=Value.ref a:=rx
 exact JF I1 ea c k l (q s1 I1)
end
section
variable {X:Cx}{pins:List (Addr×Obj)}{σ:St}{H:Hp}{s:ah}{A:aL}{E:Value->ah->Prop}{Q:Value->ah->Prop}{c:Value}{b:Bool}
inductive TyOf(K:af)(H:Hp):V->Value->Prop where
|non:TyOf K H .non (.type "NoneType")
|bl (x:Bool):TyOf K H (.bl x) (.type "bool")
|int (i:Int):TyOf K H (.int i) (.type "int")
|str (x:Str):TyOf K H (.str x) (.type "str")
|flt (x:UInt64):TyOf K H (.flt x) (.type "float")
|lst {a:Addr}{xs:List V} (e:H a=some (.lst xs)):TyOf K H (.ref a) (.type "list")
|frz {a:Addr}{o:Obj}{xs:List V} (e:H a=some (.frz o (.lst xs))):TyOf K H (.ref a) (.type "list")
|tup {a:Addr}{xs:List V} (e:H a=some (.tup xs)):TyOf K H (.ref a) (.type "tuple")
|dK {a:Addr}{kvs:List (Key×V)} (e:H a=some (.dK kvs)):TyOf K H (.ref a) (.type "dict")
|dT {a:Addr}{kvs:List (List Key×V)} (e:H a=some (.dT kvs)):TyOf K H (.ref a) (.type "dict")
|ins {a C dx:Addr}{fs:List (Str×V)} (e:H a=some (.ins C dx fs)) (cl:Cls K C) (ha:ak K (.ref C) "__class__"=some (some (.builtin "object.__class__")))
   (hn:fj K (.builtin "object.__class__") "__get__"=some (some (.builtin "getset_descriptor.__get__"))) (htk:PySem.W.takesIn K (.builtin "object.__class__")=some true)
   (hm:cL K C (.type "object")=some true):TyOf K H (.ref a) (.ref C)
theorem ND{x:V}{u t:Value}(I:Inv X pins σ H s)(rx:RelV x u)(ty:TyOf X.K H x t)(e:aj X.K t c=some b)(h:∀tk,Q (.bool b) {s with toks:=tk}):wpAny (model X.prog X.w) A (call (.builtin "isinstance") [u,c]) Q E s:=by
 cases ty with
|non=>cases(show u=Value.none from rx);exact bP PySem.W.kitx_none I.kIn bD e (λz=>nomatch z) h
|bl y=>cases(show u=Value.bool y from rx);exact bP PySem.W.kitx_bool I.kIn bD e (λz=>nomatch z) h
|int i=>obtain⟨t,q⟩:=(show ∃t,u=Value.int i t from rx);cases q;exact bP PySem.W.kitx_int I.kIn bD e (λz=>nomatch z) h
|str y=>obtain⟨t,q⟩:=(show ∃t,u=Value.str y t from rx);cases q;exact bP PySem.W.kitx_str I.kIn bD e (λz=>nomatch z) h
|flt y=>obtain⟨t,q⟩:=(show ∃t,u=Value.float y t from rx);cases q;exact bP PySem.W.kitx_float I.kIn bD e (λz=>nomatch z) h
|@lst a xs ea=>cases(show u=Value.ref a from rx);obtain⟨_,_,n,_,h1⟩:=(show ZE X.prog X.w H s.heap a (.lst xs)from I.hok a _ ea);exact bP gO I.kIn ⟨_,h1,rfl⟩ e (λz=>nomatch z) h
|@frz a ob xs ea=>cases(show u=Value.ref a from rx);obtain⟨_,_,_,n,_,h1⟩:=(show ZE X.prog X.w H s.heap a (.frz ob (.lst xs))from I.hok a _ ea);exact bP gO I.kIn ⟨_,h1,rfl⟩ e (λz=>nomatch z) h
|@tup a xs ea=>cases(show u=Value.ref a from rx);obtain⟨_,_,_,p⟩:=(show ZE X.prog X.w H s.heap a (.tup xs)from I.hok a _ ea);obtain⟨o,h1,h2,_⟩:=p;exact bP PySem.W.kitx_tuple I.kIn ⟨o,h1,h2⟩ e (λz=>nomatch z) h
|@dK a kvs ea=>cases(show u=Value.ref a from rx);obtain⟨_,_,vs,_,p⟩:=(show ZE X.prog X.w H s.heap a (.dK kvs)from I.hok a _ ea);obtain⟨o,es,ep,h1,h2,_⟩:=p;exact bP gP I.kIn ⟨o,h1,h2.1⟩ e (λz=>nomatch z) h
|@dT a kvs ea=>cases(show u=Value.ref a from rx);obtain⟨_,_,xs,_,o,es,ep,h1,h2,_⟩:=(show ZE X.prog X.w H s.heap a (.dT kvs)from I.hok a _ ea);exact bP gP I.kIn ⟨o,h1,h2.1⟩ e (λz=>nomatch z) h
|@ins a C dx fs ea cl ha hn htk hm=>cases(show u=Value.ref a from rx);obtain⟨mA,O,_⟩:=G8 I.hok ea;obtain⟨od,J,_⟩:=O.look;exact bP (PySem.W.kitx_own (cl.get _) cl.hd ha hn htk hm) I.kIn J e (λz=>nomatch z) h
end
open PySem PySem.Spec PyProof.Rows
structure Room(k:Nat)(A:aL):Prop where
 hd:A.handled=none
 dp:A.depth+3*k+5<recursionLimit
 un:A.units+16*k+200<cLine
 gd:A.guards=some []
theorem Room.mono{j k:Nat}{A:aL}(r:Room k A)(h:j<=k):Room j A:=⟨r.hd,by have:=r.dp;omega,by have:=r.un;omega,r.gd⟩
theorem Room.deeper{k:Nat}{A:aL}(r:Room (k+1) A)(env:Env):Room k (A.deeper env):=⟨r.hd,by have:=r.dp;show A.depth+1+3*k+5<_;omega,by have:=r.un;show A.units+3+16*k+200<_;omega,r.gd⟩
theorem RB{A:aL}{C:Addr}{us:List Value}{kw:List (Str×Value)}:(A.under (.builtin "type.__call__" ⟨.ref C::us,kw⟩)).depth=A.depth+1:=by first|rfl|simp[gQ,Code.weight,Code.isCreation,Code.isGuard,Code.isCaller,Code.frames,Code.isFrame,guardIds]
theorem RA{A:aL}{C:Addr}{us:List Value}{kw:List (Str×Value)}:(A.under (.builtin "type.__call__" ⟨.ref C::us,kw⟩)).units=A.units+1:=by first|rfl|simp[gQ,Code.cUnits,Code.frames,Code.isFrame]
theorem Qw{A:aL}{C:Addr}{us:List Value}{kw:List (Str×Value)}:(A.under (.builtin "type.__call__" ⟨.ref C::us,kw⟩)).guards=A.guards:=by first|rfl|simp[gQ,Code.guards,Code.isGuard,pushGuards,guardIds]
theorem Room.make{k:Nat}{A:aL}(r:Room (k+1) A)(C:Addr)(us:List Value)(kw:List (Str×Value)):Room k (A.under (.builtin "type.__call__" ⟨.ref C::us,kw⟩)):=⟨r.hd,by have:=r.dp;rw[RB];omega,by have:=r.un;rw[RA];omega,by rw[Qw];exact r.gd⟩
theorem Room.depth{k:Nat}{A:aL}(r:Room k A):A.depth<recursionLimit:=by have:=r.dp;omega
theorem Room.units{k:Nat}{A:aL}(r:Room k A):A.units+64<cLine:=by have:=r.un;omega
def tNil:TA:=λ_ H Q=>Q [] H
def JH(ta:TE)(tr:TA):TA:=λσ H Q=>ta σ H λx H1=>tr σ H1 λxs H2=>Q (x::xs) H2
section
variable {X:Cx}{e:Expr}{es:List Expr}{te:TE}{t:TA}{pos:Pos}
theorem Zh:PA X [] tNil:=λ_ _ _ _ H Q I h=>Calls.spliced_nil ⟨[],H,I,.nil,h⟩
theorem Zk(ha:PE X e te)(hr:PA X es t)(hs:aA (e::es) X.env=(false,eval e X.env)::aA es X.env:=by rfl):PA X (e::es) (JH te t):=by intro pos pins s σ H Q I h;rw[hs];show wpAny _ _ (spliced ((false,eval e X.env)::b8 pos (aA es X.env))) _ _ s;refine Calls.spliced_cons (thn (ha pins s σ H _ I h) λu s1 hZ=>?_);obtain⟨x,H1,I1,r1,q1⟩:=hZ;exact thn (hr pos pins s1 σ H1 _ I1 q1) λus s2⟨xs,H2,I2,r2,q2⟩=>⟨x::xs,H2,I2,.cons r1 r2,q2⟩
def tTup(t:TA):TE:=λσ H Q=>t σ H λxs H1=>xs.length<=sizeLine/\∀p,H1 p=none->Q (.ref p) (upd H1 p (.tup xs))
def tLst(t:TA):TE:=λσ H Q=>t σ H λxs H1=>xs.length<=sizeLine/\∀p,H1 p=none->Q (.ref p) (upd H1 p (.lst xs))
theorem Zt{x1}(h:PA X es t):PE X (.Tuple es x1 pos) (tTup t):=by intro pins s σ H Q I hq;refine wpAny_Tuple_spliced (thn (h pos pins s σ H _ I hq) λus s1⟨xs,H1,I1,r,z,q⟩=>⟨by rw[<-r.length];exact z,?_⟩);have hf:H1 s1.heap.objs.size=none:=I1.hok.fresh (Nat.le_refl _);refine⟨.ref s1.heap.objs.size,upd H1 s1.heap.objs.size (.tup xs),I1.laid (t':=s1.toks) (λb u e=>Heap.get?_push_of_some _ e) (Nat.le_refl _) ?_,rfl,q _ hf⟩;exact⟨z,us,r,⟨_,Heap.get?_push_size _ rfl,rfl,_,rfl⟩⟩
theorem ZA(h:PA X es t):PE X (.List es pos) (tLst t):=by intro pins s σ H Q I hq;refine wpAny_List_spliced (thn (h pos pins s σ H _ I hq) λus s1⟨xs,H1,I1,r,z,q⟩=>⟨by rw[<-r.length];exact z,?_⟩);have hf:H1 s1.heap.objs.size=none:=I1.hok.fresh (Nat.le_refl _);refine⟨.ref s1.heap.objs.size,upd H1 s1.heap.objs.size (.lst xs),I1.laid (t':=s1.toks) (λb u e=>Heap.get?_push_of_some _ e) (Nat.le_refl _) ?_,rfl,q _ hf⟩;exact⟨z,us,0,r,Heap.get?_push_size _ rfl⟩
end
noncomputable abbrev Sp:=List V->Hp->VK->XK->Prop
noncomputable abbrev CXT:=List Env->Hp->ah->XK->Value->ah->Prop
structure Env0(P:Program)(w:World)(K:af)(mg:Str->Option Value)(base:Heap)(A:aL)(outer:List Env)(s:ah)(H:Hp):Prop where
 frames:A.frames=some outer
 mod:Mod K mg base
 bs:∀b o,base.get? b=some o->s.heap.get? b=some o/\H b=none
 bsz:base.objs.size<=s.heap.objs.size
 funs:s.heap.FunFrames base outer
 frf:∀b∈frs outer,H b=none
 hok:HOk P w H s.heap
 bare:fC s.gens
def CE(outer:List Env)(P:Program)(w:World)(H:Hp)(s:ah)(Q:VK)(u:Value)(s':ah):Prop:=∃v H',s'.os=s.os/\fC s'.gens/\Un (frs outer) [] H H' s.heap s'.heap/\HOk P w H' s'.heap/\RelV v u/\Q v H'
def CR(CX:CXT)(outer:List Env)(P:Program)(w:World)(H:Hp)(s:ah)(Q:VK)(E:XK)(r:Result)(s':ah):Prop:=match r with
|.ok (.ret u)=>CE outer P w H s Q u s'
|.ok _=>False
|.error e=>CX outer H s E e s'
structure FnOk(P:Program)(w:World)(K:af)(mg:Str->Option Value)(base:Heap)(CX:CXT)(k:Nat)(f:Addr)(fd:bH)(ps:List Str)(sp:Sp):Prop where
 len:∀vs H Q E,sp vs H Q E->vs.length=ps.length
 run:∀(A:aL)(outer:List Env)(s:ah)(H:Hp)(args:Args)(us:List Value)(vs:List V)(Q:VK)(E:XK),Room k A->Env0 P w K mg base A outer s H->BindsTo s fd args (ps.zip us)->Vals vs us->sp vs H Q E ->
  fS (model P w) A (.call (.ref f) args) (CR CX outer P w H s Q E) s
theorem FnOk.mono{P:Program}{w:World}{K:af}{mg:Str->Option Value}{base:Heap}{CX:CXT}{j k:Nat}{f:Addr}{fd:bH}{ps:List Str}{sp:Sp}(F:FnOk P w K mg base CX j f fd ps sp)(h:j<=k):FnOk P w K mg base CX k f fd ps sp:=⟨F.len,λA outer s H args us vs Q E hr=>F.run A outer s H args us vs Q E (hr.mono h)⟩
theorem Env0.make{P:Program}{w:World}{K:af}{mg:Str->Option Value}{base:Heap}{A:aL}{outer:List Env}{s:ah}{H:Hp}(e:Env0 P w K mg base A outer s H)(C:Addr)(us:List Value)(kw:List (Str×Value)):Env0 P w K mg base (A.under (.builtin "type.__call__" ⟨.ref C::us,kw⟩)) outer s H:=⟨by first|exact e.frames|(simpa[gQ,Code.envs,Code.isFrame,pushEnvs]using e.frames),e.mod,e.bs,e.bsz,e.funs,e.frf,e.hok,e.bare⟩
section
variable {X:Cx}{pins:List (Addr×Obj)}{σ:St}{H:Hp}{s s':ah}
theorem Inv.env0(I:Inv X pins σ H s):Env0 X.prog X.w X.K X.mg X.base X.A X.stack s H:=⟨I.ok.frames,I.ok.mod,I.bs,Nat.le_trans I.ok.bsz I.sz,I.stack,I.stkFree,I.hok,I.bare⟩
theorem Inv.after{Q:VK}{u:Value}(I:Inv X pins σ H s)(h:CE X.stack X.prog X.w H s Q u s'):EP X pins σ Q u s':=by obtain⟨v,H',os,bare,un,hok,r,q⟩:=h;obtain⟨hh,g,d,t,os'⟩:=s';obtain rfl:os'=s.os:=os;exact⟨v,H',I.call (h':=hh) (g':=g) (d':=d) (t':=t) (ch:=[]) un hok bare (λb z=>absurd z (by simp)),r,q⟩
end
def Nn(sp:Sp)(dvs:List V)(E:XK)(t:TA):TE:=λσ H Q=>t σ H λvs H1=>sp (vs++dvs) H1 Q E
def Nl(C:Addr)(m:Str)(sp:Sp)(dvs:List V)(E:XK)(ta:TE)(t:TA):TE:=λσ H Q=>ta σ H λx H1=>∃a dx fs,x=.ref a/\H1 a=some (.ins C dx fs)/\fs.lookup m=none /\t σ H1 λvs H2=>sp (x::(vs++dvs)) H2 Q E
def Hr(C:Addr)(sp:Sp)(dvs:List V)(E:XK)(t:TA):TE:=λσ H Q=>t σ H λvs H1=>∀x dx,H1 x=none->H1 dx=none->dx≠x ->sp (.ref x::(vs++dvs)) (upd (upd H1 dx (.own x)) x (.ins C dx [])) (λv H2=>v=.non/\Q (.ref x) H2) E
def Binds(K:af)(fd:bH)(ps:List Str)(ds:List Value):Prop:=∀(s:ah)(us:List Value),K.In s.heap->(us++ds).length=ps.length->BindsTo s fd ⟨us,[]⟩ (ps.zip (us++ds))
theorem Binds.all{K:af}{fd:bH}{ps:List Str}(h:∀us:List Value,us.length=ps.length->bindArgs fd ⟨us,[]⟩=pure (ps.zip us)):Binds K fd ps []:=λs us _ hl=>by rw[bo]at hl ⊢;exact .of_eq (h us hl)
def Passes(CX:CXT)(X:Cx)(E:XK):Prop:=∀(pins:List (Addr×Obj))(σ:St)(H:Hp)(s:ah)(e:Value)(s':ah),Inv X pins σ H s->CX X.stack H s E e s'->X.xe e s'
section
variable {X:Cx}{CX:CXT}{k:Nat}{f C:Addr}{fd:bH}{ps:List Str}{sp:Sp}{dvs:List V}{ds:List Value}{E:XK}{x m:Str}{p pos apos:Pos}{e o:Expr}{es:List Expr}{ta:TE}{t:TA}
theorem Pj{pins:List (Addr×Obj)}{σ:St}{H:Hp}{s:ah}{Q:VK}{us:List Value}{vs:List V}(F:FnOk X.prog X.w X.K X.mg X.base CX k f fd ps sp)(hr:Room k X.A)(hb:Binds X.K fd ps ds)(hd:Vals dvs ds)(hx:Passes CX X E)(I:Inv X pins σ H s)(r:Vals vs us)(h:sp (vs++dvs) H Q E):wpAny (model X.prog X.w) X.A (call (.ref f) us) (EP X pins σ Q) X.xe s:=by
 have r2:Vals (vs++dvs) (us++ds):=r.append hd;have hl:(us++ds).length=ps.length:=by rw[<-r2.length];exact F.len _ _ _ _ h
 refine gv (fD (F.run X.A X.stack s H ⟨us,[]⟩ (us++ds) (vs++dvs) Q E hr I.env0 (hb s us I.kIn hl) r2 h) λr s' hq=>?_);cases r with
|error e=>exact hx pins σ H s e s' I hq
|ok fl=>
  cases fl with
 |ret u=>exact I.after hq
 |next=>exact bL hq
 |brk=>exact bL hq
 |cont=>exact bL hq
theorem Te(F:FnOk X.prog X.w X.K X.mg X.base CX k f fd ps sp)(hr:Room k X.A)(hg:Gl X x)(hm:X.mg x=some (.ref f))(hk:aJ X.K (.ref f)=true)(hb:Binds X.K fd ps ds)(hd:Vals dvs ds)(hx:Passes CX X E)(ha:PA X (e::es) t)(hdb:(x==("__debug__":Str))=false:=by decide)(he:aA (e::es) X.env=(false,eval e X.env)::aA es X.env:=by rfl)(hpl:(b8 pos (aA es X.env)).any (·.1)=false:=by rfl):PE X (.Call (.Name x p) (e::es) [] pos) (Nn sp dvs E t):=by intro pins s σ H Q I h;refine dM (Vm I hg hm ?_ hdb);refine du (h₀:=X.base) I.ok.mod.kin hk (thn (ha pos pins s σ H _ I h) λus s1⟨vs,H1,I1,r,q⟩=>⟨I1.kIn,?_⟩) he hpl;exact Pj F hr hb hd hx I1 r q
theorem DK{pl:Sem Bool}(he:PE X o ta)(c:Cls X.K C)(hm:Meth X.K C m f)(F:FnOk X.prog X.w X.K X.mg X.base CX k f fd ps sp)(hr:Room k X.A)(hb:Binds X.K fd ps ds)(hd:Vals dvs ds)(hx:Passes CX X E)(ha:PA X (e::es) t)
  (hst:aA (e::es) X.env=(false,eval e X.env)::aA es X.env:=by rfl) (hpl:(b8 pos (aA es X.env)).any (·.1)=false:=by rfl)
  (ht:eval (.Call (.Attribute o m apos) (e::es) [] pos) X.env=(do
   let ov <-eval o X.env
   gu apos.atName
   let (f,first) <-eS [ov] (eQ ov m pl)
   f_ pos f first (b8 pos (aA (e::es) X.env)) (d6 pos (cU [] X.env))):=by rfl):
  PE X (.Call (.Attribute o m apos) (e::es) [] pos) (Nl C m sp dvs E ta t):=by
 intro pins s σ H Q I h
 refine dE (pl:=pl) (thn (he pins s σ H _ I h) λu s1 hZ=>?_) ht;obtain⟨x,H1,I1,rx,a,dx,fs,ex,ea,l,q⟩:=hZ
 subst ex
 obtain rfl:u=Value.ref a:=rx
 refine JF I1 ea c hm l ?_
 refine du (first:=[.ref a]) (h₀:=X.base) I.ok.mod.kin hm.kp (thn (ha pos pins s1 σ H1 _ I1 q) λus s2⟨vs,H2,I2,r,q2⟩=>⟨I2.kIn,?_⟩) hst hpl
 exact Pj (us:=.ref a::us) (vs:=.ref a::vs) F hr hb hd hx I2 (.cons rfl r) q2
theorem KO{pl:Sem Bool}(he:PE X o ta)(c:Cls X.K C)(hm:Meth X.K C m f)(F:FnOk X.prog X.w X.K X.mg X.base CX k f fd ps sp)(hr:Room k X.A)(hb:Binds X.K fd ps ds)(hd:Vals dvs ds)(hx:Passes CX X E)
  (ht:eval (.Call (.Attribute o m apos) [] [] pos) X.env=(do
   let ov <-eval o X.env
   gu apos.atName
   let (f,first) <-eS [ov] (eQ ov m pl)
   f_ pos f first (b8 pos (aA [] X.env)) (d6 pos (cU [] X.env))):=by rfl):
  PE X (.Call (.Attribute o m apos) [] [] pos) (Nl C m sp dvs E ta tNil):=by
 intro pins s σ H Q I h
 refine dE (pl:=pl) (thn (he pins s σ H _ I h) λu s1 hZ=>?_) ht;obtain⟨x,H1,I1,rx,a,dx,fs,ex,ea,l,q⟩:=hZ
 subst ex
 obtain rfl:u=Value.ref a:=rx
 refine JF I1 ea c hm l ?_
 exact PySem.W.callWith_K0 (first:=[.ref a]) I1.kIn hm.kp (Pj (us:=[.ref a]) (vs:=[.ref a]) F hr hb hd hx I1 (.cons rfl .nil) q)
structure Mk(K:af)(C f:Addr):Prop where
 makes:eB K C=true
 init:ak K (.ref C) "__init__"=some (some (.ref f))
 fn:dZ K (.ref f)=true
 kp:aJ K (.ref C)=true
theorem KA{pins:List (Addr×Obj)}{σ:St}{H:Hp}{s:ah}{Q:VK}{us:List Value}{vs:List V}(M:Mk X.K C f)(F:FnOk X.prog X.w X.K X.mg X.base CX k f fd ps sp)(hr:Room (k+1) X.A)(hb:Binds X.K fd ps ds)(hd:Vals dvs ds)(hx:Passes CX X E)(I:Inv X pins σ H s)(r:Vals vs us)(h:∀x dx,H x=none->H dx=none->dx≠x->sp (.ref x::(vs++dvs)) (upd (upd H dx (.own x)) x (.ins C dx [])) (λv H2=>v=.non/\Q (.ref x) H2) E):wpAny (model X.prog X.w) X.A (call (.ref C) us) (EP X pins σ Q) X.xe s:=by
 have hq:=h (s.heap.objs.size+1) s.heap.objs.size (I.hok.fresh (Nat.le_succ _)) (I.hok.fresh (Nat.le_refl _)) (Nat.ne_of_lt (Nat.lt_succ_self _));have I2:=Inv.made (C:=C) I;have r2:Vals (V.ref (s.heap.objs.size+1)::(vs++dvs)) (Value.ref (s.heap.objs.size+1)::(us++ds)):=.cons rfl (r.append hd);have hl:(Value.ref (s.heap.objs.size+1)::us++ds).length=ps.length:=by have e:=r2.length;rw[F.len _ _ _ _ hq]at e;exact e.symm
 refine gv (Lj (f:=f) I.kIn M.makes M.init (beq_iff_eq.mp M.fn) (fD (F.run _ X.stack _ _ ⟨Value.ref (s.heap.objs.size+1)::us,[]⟩ (Value.ref (s.heap.objs.size+1)::(us++ds)) _ _ E (hr.make C us []) (I2.env0.make C us []) (hb _ (Value.ref (s.heap.objs.size+1)::us) I2.kIn hl) r2 hq) λr s' hq'=>?_));cases r with
|error e=>exact hx pins σ _ _ e s' I2 hq'
|ok fl=>
  cases fl with
 |ret u=>obtain⟨v,H',I3,rv,ev,q3⟩:=I2.after hq';subst ev;exact⟨rv,⟨V.ref (s.heap.objs.size+1),H',I3,rfl,q3⟩⟩
 |next=>exact bL hq'
 |brk=>exact bL hq'
 |cont=>exact bL hq'
theorem Xi(M:Mk X.K C f)(F:FnOk X.prog X.w X.K X.mg X.base CX k f fd ps sp)(hr:Room (k+1) X.A)(hg:Gl X x)(hm:X.mg x=some (.ref C))(hb:Binds X.K fd ps ds)(hd:Vals dvs ds)(hx:Passes CX X E)(ha:PA X (e::es) t)(hdb:(x==("__debug__":Str))=false:=by decide)(he:aA (e::es) X.env=(false,eval e X.env)::aA es X.env:=by rfl)(hpl:(b8 pos (aA es X.env)).any (·.1)=false:=by rfl):PE X (.Call (.Name x p) (e::es) [] pos) (Hr C sp dvs E t):=by intro pins s σ H Q I h;refine dM (Vm I hg hm ?_ hdb);refine du (h₀:=X.base) I.ok.mod.kin M.kp (thn (ha pos pins s σ H _ I h) λus s1⟨vs,H1,I1,r,q⟩=>⟨I1.kIn,?_⟩) he hpl;exact KA M F hr hb hd hx I1 r q
end
structure FnScope(N P:List Str)(sc:Scope):Prop where
 kind:sc.kind=.function
 co:sc.isCoroutine=false
 gen:sc.isGenerator=false
 nd:N.Nodup
 pre:N.take P.length=P
 par:∀x∈P,sc.names.lookup x=some .local\/sc.names.lookup x=some .cell
 nofree:∀y∈sc.names,y.2≠.free
theorem NS{kindOf:Str->Option dW}{x:Str}:∀{binds:List (Str×Value)}{m:Str->Option Value},(∀v,(x,v)∉binds)->bindL kindOf binds m x=m x
|[],_,_=>rfl
|(n,v)::r,m,h=>by
  unfold bindL;rw[NS λw hw=>h w (aq _ hw)];split
  ·have:x≠n:=by rintro rfl;exact h v az
   simp[this]
  ·rfl
theorem NU{kindOf:Str->Option dW}{x:Str}:∀{binds:List (Str×Value)}{m:Str->Option Value},(∀v,(x,v)∉binds)->bindC kindOf binds m x=m x
|[],_,_=>rfl
|(n,v)::r,m,h=>by
  unfold bindC;rw[NU λw hw=>h w (aq _ hw)];split
  ·rfl
  ·have:x≠n:=by rintro rfl;exact h v az
   simp[this]
theorem NT{kindOf:Str->Option dW}{x:Str}{v:Value}:∀{P:List Str}{vs:List Value}{i:Nat}{m:Str->Option Value},P.Nodup->P[i]?=some x->vs[i]?=some v->kindOf x=some .local ->bindL kindOf (P.zip vs) m x=some v
|[],_,_,_,_,h,_,_=>by simp at h
|_::_,[],_,_,_,_,h,_=>by simp at h
|p::P,w::vs,0,m,nd,h1,h2,hk=>by simp at h1 h2;subst h1;subst h2;show bindL kindOf ((p,w)::P.zip vs) m p=_;unfold bindL;rw[NS λv hv=>(cF.mp nd).1 (dH hv).1,if_pos hk];simp
|p::P,w::vs,i+1,m,nd,h1,h2,hk=>by show bindL kindOf ((p,w)::P.zip vs) m x=_;unfold bindL;exact NT (i:=i) (cF.mp nd).2 (by simpa using h1) (by simpa using h2) hk
theorem NV{kindOf:Str->Option dW}{x:Str}{v:Value}:∀{P:List Str}{vs:List Value}{i:Nat}{m:Str->Option Value},P.Nodup->P[i]?=some x->vs[i]?=some v->kindOf x≠some .local ->bindC kindOf (P.zip vs) m x=some v
|[],_,_,_,_,h,_,_=>by simp at h
|_::_,[],_,_,_,_,h,_=>by simp at h
|p::P,w::vs,0,m,nd,h1,h2,hk=>by simp at h1 h2;subst h1;subst h2;show bindC kindOf ((p,w)::P.zip vs) m p=_;unfold bindC;rw[NU λv hv=>(cF.mp nd).1 (dH hv).1,if_neg hk];simp
|p::P,w::vs,i+1,m,nd,h1,h2,hk=>by show bindC kindOf ((p,w)::P.zip vs) m x=_;unfold bindC;exact NV (i:=i) (cF.mp nd).2 (by simpa using h1) (by simpa using h2) hk
noncomputable def start(N:List Str)(vs:List V):St:=vs.map some++List.replicate (N.length-vs.length) none
noncomputable def cxOf(CX:CXT)(P:Program)(w:World)(K:af)(mg:Str->Option Value)(base:Heap)(N:List Str)(qual:Str)(scope:Scope)(f:Addr)(cd:Value)(A:aL)(outer:List Env)(s:ah)(H:Hp)(E:XK):Cx where
 prog:=P
 w:=w
 K:=K
 mg:=mg
 base:=base
 A:=A.deeper (dD qual scope s.heap.objs.size f cd)
 N:=N
 s₀:=s
 H₀:=H
 env:=dD qual scope s.heap.objs.size f cd
 outer:=outer
 stack:=dD qual scope s.heap.objs.size f cd::outer
 ex:=[]
 calm:=true
 fn:=λ_=>true
 pn:=[]
 xe:=λe s'=>wpAny (model P w) (A.deeper (dD qual scope s.heap.objs.size f cd)) (leaving (dD qual scope s.heap.objs.size f cd) e) (λ_ s''=>CX outer H s E e s'') (λe' s''=>CX outer H s E e' s'') s'
theorem QY{sc:Scope}{n:Nat}{x:Str}(h:sc.names.lookup x=some .cell):∃c,(cellsFrom n sc.names []).lookup x=some c:=by have q:=PySem.W.cellsFrom_some sc.names n [] (.inl h);exact dU.mp q
theorem Ws{CX:CXT}{P:Program}{w:World}{K:af}{mg:Str->Option Value}{base:Heap}{N ps:List Str}{qual:Str}{scope:Scope}{f:Addr}{cd:Value}{A:aL}{outer:List Env}{s s1:ah}{H:Hp}{E:XK}{us:List Value}{vs:List V}(S:FnScope N ps scope)(hd:A.handled=none)(e0:Env0 P w K mg base A outer s H)(hl:vs.length=ps.length)(r:Vals vs us)(x:InCallC s s.heap.objs.size (bindL (dD qual scope s.heap.objs.size f cd).kindOf (ps.zip us) λ_=>none) (cellsFrom (s.heap.objs.size+1) scope.names []) (bindC (dD qual scope s.heap.objs.size f cd).kindOf (ps.zip us) λ_=>none) s1):Inv (cxOf CX P w K mg base N qual scope f cd A outer s H E) [] (start N vs) H s1:=by
 have hpl:ps.length<=N.length:=by have:=congrArg List.length S.pre;rw[aB]at this;omega
 obtain⟨h1,tk,rfl,hk⟩:=x.done;have noA:∀b:Addr,b∉(cxOf CX P w K mg base N qual scope f cd A outer s H E).ex:=λb z=>absurd (show b∈([]:List Addr)from z) (by simp);refine⟨⟨e0.mod,S.kind,rfl,rfl,Nat.le_refl _,λy z c h1 h2=>?_,λy hy=>?_,λy c _ h=>?_,λ_=>hd,Around.frames_deeper e0.frames,.inr ⟨rfl,rfl⟩,λb z=>absurd z (noA b),e0.bs,e0.bsz,λb _ _=>noA b,λb z=>absurd z (noA b),e0.funs,e0.frf⟩,rfl,e0.bare,Un.kept hk,⟨_,x.toInCall.ns,λi y v h1 h2 h3=>?_⟩,λy c h=>⟨_,x.cell y c h⟩,e0.hok.fresh (Nat.le_refl _),λy c h=>?_,λp hp=>absurd (show p∈([]:List (Addr×Obj))from hp) (by simp),e0.hok.kept hk,?_⟩
 ·exact name_of_addr x.apart (df h1) (df h2)
 ·have hy:scope.names.lookup y=some .cell\/scope.names.lookup y=some .free:=hy;rcases hy with hy|hy
  ·exact QY hy
  ·exact absurd rfl (S.nofree _ (df hy))
 ·exact Nat.le_of_lt (x.above y c (df h))
 ·have hi:i<vs.length:=by
   unfold start at h2;by_cases hi:i<vs.length
   ·exact hi
   ·rw[fo (by simpa using hi)]at h2;rw[List.getElem?_replicate]at h2;split at h2<;>cases h2
  have ha:vs[i]?=some v:=by
   unfold start at h2;rw[cZ (by simpa using hi),aD]at h2;cases e:vs[i]? with
  |none=>rw[e]at h2;cases h2
  |some a=>rw[e]at h2;cases h2;rfl
  obtain⟨u,hu,rv⟩:=r.get ha;have hp:ps[i]?=some y:=by rw[<-S.pre,List.getElem?_take_of_lt (by omega)];exact h1
  have ndP:ps.Nodup:=by rw[<-S.pre];exact S.nd.sublist (List.take_sublist _ _)
  refine⟨u,rv,?_⟩;rcases S.par y (aQ hp)with k|k
  ·exact .inl ⟨k,NT ndP hp hu k⟩
  ·obtain⟨c,e⟩:=QY (n:=s.heap.objs.size+1) k;refine .inr ⟨.inl k,c,e,?_⟩;have q:=x.cell y c e;rw[NV ndP hp hu (by show scope.names.lookup y≠_;rw[k];decide)]at q;exact q
 ·exact e0.hok.fresh (Nat.le_of_lt (x.above y c (df h)))
 ·unfold start;show _=N.length;rw[ax,bu,List.length_replicate];omega
theorem Ey{CX:CXT}{P:Program}{w:World}{K:af}{mg:Str->Option Value}{base:Heap}{k:Nat}{f:Addr}{name qual:Str}{params:Arguments}{body:List Stmt}{scope:Scope}{dV kV doc pm cdv ct oc:Value}{an od:Option Addr}{osl:Array (Option Value)}{N ps:List Str}{sp:Sp}(lk:K.lookup f=some ⟨oc,od,.func (a9 name qual params body scope dV kV doc pm an cdv ct),osl⟩)(hcd:bN K cdv qual=true)(S:FnScope N ps scope)(len:∀vs H Q E,sp vs H Q E->vs.length=ps.length)(hbody:∀(A:aL)(outer:List Env)(s:ah)(H:Hp)(vs:List V)(Q:VK)(E:XK),Room k (A.deeper (dD qual scope s.heap.objs.size f cdv))->sp vs H Q E ->∃t,PSs (cxOf CX P w K mg base N qual scope f cdv A outer s H E) body t/\t {nx:=λ_ H'=>Q .non H',rt:=Q} (start N vs) H):FnOk P w K mg base CX (k+1) f (a9 name qual params body scope dV kV doc pm an cdv ct) ps sp:=by
 refine⟨len,λA outer s H args us vs Q E hr e0 hb r hsp=>?_⟩;have hl:=len _ _ _ _ hsp;have KX:K.In s.heap:=e0.mod.kin.keeps λb o e=>(e0.bs b o e).1;have lim:s.heap.NoLimit:=e0.mod.nolimit.keeps λb o e=>(e0.bs b o e).1;have hkind:∀y∈ps.zip us,scope.names.lookup y.1=some .local\/(scope.names.lookup y.1=some .cell/\((cellsFrom (s.heap.objs.size+1) scope.names []).lookup y.1).isSome=true):=λ⟨n,v⟩hy=>by
  rcases S.par n (dH hy).1 with q|q
  ·exact .inl q
  ·exact .inr ⟨q,PySem.W.cellsFrom_some _ _ _ (.inl q)⟩
 refine codeAny_call_function hr.depth (KX _ _ lk) rfl S.co S.gen rfl (PySem.W.codeRec_of KX hcd) (hb _ _ _ _ ?_);refine wpAny_newFunctionEnv_cells S.kind hkind λenv he s1 x=>?_;subst he;refine⟨lim.keeps x.toInCall.keep,codeAny_func ?_⟩;obtain⟨t,ht,hq⟩:=hbody A outer s H vs Q E (hr.deeper _) hsp;have I:Inv (cxOf CX P w K mg base N qual scope f cdv A outer s H E) [] (start N vs) H s1:=Ws S hr.hd e0 hl r x;refine cM (ht [] s1 (start N vs) H _ I hq) (λfl s' hs=>?_) λe s' hs=>hs;have fin:∀{σ':St}{H':Hp}{v:V}{u:Value},Inv (cxOf CX P w K mg base N qual scope f cdv A outer s H E) [] σ' H' s'->RelV v u->Q v H'->CE outer P w H s Q u s':=λ{σ' H' v u}J rv q=>⟨v,H',J.os,J.bare,J.base,J.hok,rv,q⟩;cases fl with
|ret u=>obtain⟨v,σ',H',J,rv,q⟩:=hs;exact fin J rv q
|next=>obtain⟨σ',H',J,q⟩:=hs;exact fin (v:=V.non) (u:=Value.none) J rfl q
|brk=>obtain⟨_,_,_,q⟩:=hs;exact bL q
|cont=>obtain⟨_,_,_,q⟩:=hs;exact bL q
open PySem PySem.Spec PyProof.Rows
section
variable {X:Cx}{x:Str}{p pos:Pos}{e:Expr}{es:List Expr}{t:TA}{id T:String}{r:List V->Hp->VK->Prop}
def tCB(r:List V->Hp->VK->Prop)(t:TA):TE:=λσ H Q=>t σ H λvs H1=>r vs H1 Q
theorem ZO(hc:Y1 X (.builtin id) r)(hg:Gl X x)(hm:X.mg x=none)(hv:bX x=some (.builtin id))(ha:PA X (e::es) t)(hn:x≠"__name__":=by decide)(hdb:(x==("__debug__":Str))=false:=by decide)(he:aA (e::es) X.env=(false,eval e X.env)::aA es X.env:=by rfl)(hpl:(b8 pos (aA es X.env)).any (·.1)=false:=by rfl):PE X (.Call (.Name x p) (e::es) [] pos) (tCB r t):=by intro pins s σ H Q I h;refine dM (J1 I hg hm hv ?_ hn hdb);exact PyProof.Rows.callWith_builtin1 (thn (ha pos pins s σ H _ I h) λus s1⟨vs,H1,I1,r1,q1⟩=>hc pins s1 σ H1 vs us Q I1 r1 q1) he hpl
theorem Z7(hc:Y1 X (.type T) r)(hg:Gl X x)(hm:X.mg x=none)(hv:bX x=some (.type T))(ha:PA X (e::es) t)(hn:x≠"__name__":=by decide)(hdb:(x==("__debug__":Str))=false:=by decide)(he:aA (e::es) X.env=(false,eval e X.env)::aA es X.env:=by rfl)(hpl:(b8 pos (aA es X.env)).any (·.1)=false:=by rfl):PE X (.Call (.Name x p) (e::es) [] pos) (tCB r t):=by intro pins s σ H Q I h;refine dM (J1 I hg hm hv ?_ hn hdb);exact bR (thn (ha pos pins s σ H _ I h) λus s1⟨vs,H1,I1,r1,q1⟩=>hc pins s1 σ H1 vs us Q I1 r1 q1) he hpl
end
end L2
namespace HT
open PySem PyProof.Rows
section
variable {prog:Program}{w:World}{A:aL}{E:Value->ah->Prop}{s:ah}
noncomputable def sIx(n d:Nat):Option Int->Nat
|none=>d
|some v=>if v<0 then(v+(n:Int)).toNat else min v.toNat n
end
end HT
namespace L2
open PySem PySem.Spec PyProof.Rows
noncomputable abbrev TO:=St->Hp->(Option Int->Hp->Prop)->Prop
def PO(X:Cx)(e:Option Expr)(t:TO):Prop:=∀(pins:List (Addr×Obj))(s:ah)(σ:St)(H:Hp)(Q:Option Int->Hp->Prop),Inv X pins σ H s->t σ H Q ->wpAny (model X.prog X.w) X.A (evalPart e X.env) (λu s'=>∃o H',Inv X pins σ H' s'/\IsPart u o/\Q o H') X.xe s
noncomputable def Dn:TO:=λ_ H Q=>Q none H
noncomputable def Ho(t:TE):TO:=λσ H Q=>t σ H λx H1=>∃i,x=.int i/\Q (some i) H1
section
variable {X:Cx}{e:Expr}{te:TE}{lo hi:Option Expr}{tl th:TO}{pos p2:Pos}
theorem Jz:PO X none Dn:=by intro pins s σ H Q I h;rw[evalPart_none];exact ai ⟨none,H,I,.none,h⟩
theorem Jy(h:PE X e te):PO X (some e) (Ho te):=by intro pins s σ H Q I hw;rw[evalPart_some];refine thn (h pins s σ H _ I hw) λu s1 hZ=>?_;obtain⟨x,H1,I1,r1,q1⟩:=hZ;obtain⟨i,rfl,q⟩:=q1;obtain⟨t,rfl⟩:=r1;exact⟨some i,H1,I1,.int i t,q⟩
def SlR(X:Cx)(r:V->Option Int->Option Int->Hp->VK->Prop):Prop:=∀(pins:List (Addr×Obj))(s:ah)(σ:St)(H:Hp)(x:V)(v vl vu:Value)(lo hi:Option Int)(sl:Addr)(Q:VK),Inv X pins σ H s->RelV x v->s.heap.IsSliceOf sl vl vu .none->IsPart vl lo->IsPart vu hi->r x lo hi H Q ->∃T id,ig (.type T) "__getitem__"=pure (some (.builtin id))/\s.TypeIs v T/\wpAny (model X.prog X.w) X.A (getItem v (.ref sl)) (EP X pins σ Q) X.xe s
def tSl(r:V->Option Int->Option Int->Hp->VK->Prop)(te:TE)(tl th:TO):TE:=λσ H Q=>te σ H λx H1=>tl σ H1 λl H2=>th σ H2 λu H3=>r x l u H3 Q
theorem XM{r:V->Option Int->Option Int->Hp->VK->Prop}(hr:SlR X r)(he:PE X e te)(hl:PO X lo tl)(hu:PO X hi th):PE X (.Subscript e (.Slice lo hi none p2) pos) (tSl r te tl th):=by intro pins s σ H Q I h;refine Subscript_ (thn (he pins s σ H _ I h) λv s1 hZ=>?_);obtain⟨x,H1,I1,r1,q1⟩:=hZ;refine wpAny_Slice (thn (hl pins s1 σ H1 _ I1 q1) λvl s2⟨l,H2,I2,pl,q2⟩=>thn (hu pins s2 σ H2 _ I2 q2) λvu s3 hZ=>?_);obtain⟨u,H3,I3,pu,q3⟩:=hZ;rw[evalPart_none];refine ai ?_;have I4:Inv X pins σ H3 {s3 with heap:=s3.heap.push {cls:=.type "slice",data:=.fields #[vl,vu,.none]}}:=I3.kept (t':=s3.toks) λb ob q=>Heap.get?_push_of_some _ q;obtain⟨T,id,hT,ht,hg⟩:=hr pins {s3 with heap:=s3.heap.push {cls:=.type "slice",data:=.fields #[vl,vu,.none]}} σ H3 x v vl vu l u s3.heap.objs.size Q I4 r1 (Heap.IsSliceOf.new ..) pl pu q3;show wpAny (model X.prog X.w) X.A (subscriptTail e (.Slice lo hi none p2) v (.ref s3.heap.objs.size)) (EP X pins σ Q) X.xe {s3 with heap:=s3.heap.push {cls:=.type "slice",data:=.fields #[vl,vu,.none]}};exact tail_any (ops:=[.ref s3.heap.objs.size,v]) ht hT hg (by with_unfolding_all rfl)
noncomputable def cutV(xs:List V)(lo hi:Option Int):List V:=(xs.drop (HT.sIx xs.length 0 lo)).take (HT.sIx xs.length xs.length hi-HT.sIx xs.length 0 lo)
theorem GV(xs:List V)(lo hi:Option Int):(cutV xs lo hi).length<=xs.length:=by unfold cutV;rw[aB,hV];omega
end
open PySem PySem.Spec PyProof.Rows
noncomputable def ixN(n:Nat)(i:Int):Option Nat:=if 0<=i then(if i<n then some i.toNat else none)else if -(n:Int)<=i then some (i+n).toNat else none
noncomputable def atI{α:Type}(xs:List α)(i:Int):Option α:=(ixN xs.length i).bind λj=>xs[j]?
theorem Tw{n:Nat}{i:Int}{j:Nat}(h:ixN n i=some j):seqIndex? i n=some j/\j<n/\-(n:Int)<=i/\i<n:=by
 unfold ixN at h;by_cases h0:0<=i
 ·rw[if_pos h0]at h;by_cases h1:i<n
  ·rw[if_pos h1]at h;have e:i.toNat=j:=ao h;exact⟨by rw[seqIndex_of h0 h1,e],by omega,by omega,h1⟩
  ·rw[if_neg h1]at h;cases h
 ·rw[if_neg h0]at h;by_cases h1:-(n:Int)<=i
  ·rw[if_pos h1]at h;have e:(i+n).toNat=j:=ao h;exact⟨by rw[seqIndex_neg (by omega) h1,e],by omega,h1,by omega⟩
  ·rw[if_neg h1]at h;cases h
theorem PJ{α:Type}{xs:List α}{i:Int}{v:α}(h:atI xs i=some v):∃j,seqIndex? i xs.length=some j/\xs[j]?=some v/\j<xs.length/\-(xs.length:Int)<=i/\i<xs.length:=by
 unfold atI at h;cases e:ixN xs.length i with
|none=>rw[e]at h;cases h
|some j=>rw[e]at h;obtain⟨h1,h2,h3,h4⟩:=Tw e;exact⟨j,h1,h,h2,h3,h4⟩
theorem Zv{α:Type}{xs:List α}{j:Nat}{v:α}(h:xs[j]?=some v):atI xs (j:Int)=some v:=by
 have hj:j<xs.length:=(aw.mp h).1;have e:ixN xs.length (j:Int)=some j:=by unfold ixN;rw[if_pos (by omega),if_pos (by omega)];simp
 unfold atI;rw[e];exact h
theorem Dd{α:Type}(xs:List α)(v:α):atI (xs++[v]) (-1)=some v:=by
 have hl:(xs++[v]).length=xs.length+1:=by simp
 have e:ixN (xs++[v]).length (-1)=some xs.length:=by unfold ixN;rw[hl,if_neg (by decide),if_pos (by omega)];congr 1;omega
 unfold atI;rw[e];show(xs++[v])[xs.length]?=some v;simp
def PL(b:Expr):Prop:=∀o i,subscripted b false o i=operate [o,i] (getItem o i)
def IxR(X:Cx)(r:R2):Prop:=∀(value slice:Expr)(pins:List (Addr×Obj))(s:ah)(σ:St)(H:Hp)(x y:V)(v u:Value)(Q:VK),Inv X pins σ H s->RelV x v->RelV y u->r x y H Q ->subscripted slice false v u=operate [v,u] (getItem v u)->wpAny (model X.prog X.w) X.A (subscriptTail value slice v u) (EP X pins σ Q) X.xe s
def MtR(X:Cx)(id:String)(r:V->List V->Hp->VK->Prop):Prop:=∀(pins:List (Addr×Obj))(s:ah)(σ:St)(H:Hp)(x:V)(xs:List V)(v:Value)(us:List Value)(Q:VK),Inv X pins σ H s->RelV x v->Vals xs us->r x xs H Q ->wpAny (model X.prog X.w) X.A (call (.builtin id) (v::us)) (EP X pins σ Q) X.xe s
section
variable {X:Cx}{a b:Expr}{ta tb:TE}{pos:Pos}
theorem Yj{r:R2}(hr:IxR X r)(ha:PE X a ta)(hb:PE X b tb)(hs:PL b):PE X (.Subscript a b pos) (tOp r ta tb):=by intro pins s σ H Q I h;exact Subscript_ (binT ha hb I h λv u s2 x y H2 I2 rx ry q=>hr a b pins s2 σ H2 x y v u Q I2 rx ry q (hs _ _))
def rIxL(K:af):R2:=λx y H Q=>∃p xs i v,x=.ref p/\y=.int i/\SqL K H p xs/\atI xs i=some v/\Q v H
def rIxT(K:af):R2:=λx y H Q=>∃p xs i v,x=.ref p/\y=.int i/\SqT K H p xs/\atI xs i=some v/\Q v H
def rIxS:R2:=λx y H Q=>∃z i c,x=.str z/\y=.int i/\z.length<=sizeLine/\atI z.cps.toList i=some c/\Q (.str ⟨#[c]⟩) H
theorem D8:IxR X (rIxL X.K):=by
 intro value slice pins s σ H x y v u Q I rx ry h hs;obtain⟨p,xs,i,z,rfl,rfl,hq,he,q⟩:=h;cases rx;obtain⟨t,rfl⟩:=ry;obtain⟨its,r,pl,hz⟩:=I.list hq;obtain⟨j,h1,h2,h3,h4,h5⟩:=PJ he;obtain⟨w,ew,rw'⟩:=r.get h2;have hl:=r.length;have hn:=VU;have fin:EP X pins σ Q w s:=⟨z,H,I,rw',q⟩;by_cases h0:0<=i
 ·have hj:i.toNat=j:=by rw[seqIndex_of h0 h5]at h1;exact ao h1
  exact item_listR pl.isList h0 (by omega) (by rw[hj];simpa using ew) fin hs
 ·have hj:(i+(its.toArray.size:Int)).toNat=j:=by rw[seqIndex_neg (by omega) h4]at h1;rw[ar,<-hl];exact ao h1
  exact subscriptTail_builtinR (x:=w) pl.isList.typeIs slot_list_getitem.lookup (wpAny_getItem_list_neg (Q:=λr s'=>r=w/\EP X pins σ Q r s') pl.isList (by omega) (by rw[ar]<;>omega) (by omega) (by rw[hj];simpa using ew) ⟨rfl,fin⟩) hs
theorem Z8:IxR X (rIxT X.K):=by intro value slice pins s σ H x y v u Q I rx ry h hs;obtain⟨p,xs,i,z,rfl,rfl,hq,he,q⟩:=h;cases rx;obtain⟨t,rfl⟩:=ry;obtain⟨its,r,pl,hz⟩:=I.tuple hq;obtain⟨j,h1,h2,h3,h4,h5⟩:=PJ he;obtain⟨w,ew,rw'⟩:=r.get h2;have hl:=r.length;have hn:=VU;have fin:EP X pins σ Q w s:=⟨z,H,I,rw',q⟩;exact subscriptTail_builtinR (x:=w) pl.typeIs slot_tuple_getitem.lookup (getItem_tuple (j:=j) (Q:=λr s'=>r=w/\EP X pins σ Q r s') pl (by omega) (by omega) (by rw[ar,<-hl];exact h1) (by simpa using ew) ⟨rfl,fin⟩) hs
theorem ME:IxR X rIxS:=by
 intro value slice pins s σ H x y v u Q I rx ry h hs;obtain⟨z,i,c,rfl,rfl,hz,he,q⟩:=h;obtain⟨t,rfl⟩:=rx;obtain⟨t',rfl⟩:=ry;obtain⟨j,h1,h2,h3,h4,h5⟩:=PJ he;have hl:z.cps.toList.length=z.length:=by simp[Str.length]
 rw[hl]at h1 h4 h5;have hn:=VU;exact tail_any (typeIs_str s z t) slot_str_getitem.lookup (getItem_str (c:=c) (by have e1:decide (i < -(2 ^ 63:Int))=false:=decide_eq_false (by omega);have e2:decide (i >= 2 ^ 63)=false:=decide_eq_false (by omega);rw[e1,e2,Bool.or_false]) (by rw[h1];simpa using h2) ⟨.str ⟨#[c]⟩,H,I.tok _,⟨_,rfl⟩,q⟩) hs
theorem Rz(its:List Value)(n j:Nat)(u:Value):Obj.mapSeq (·.setIfInBounds j u) {cls:=.type "list",data:=.seq its.toArray n}={cls:=.type "list",data:=.seq (its.set j u).toArray n}:=by simp[Obj.mapSeq]
theorem Inv.lst{pins:List (Addr×Obj)}{σ:St}{H:Hp}{s:ah}{p:Addr}{xs:List V}(I:Inv X pins σ H s)(h:H p=some (.lst xs)):∃(its:List Value)(n:Nat),Vals xs its/\s.heap.get? p=some {cls:=.type "list",data:=.seq its.toArray n}/\xs.length<=sizeLine:=by obtain⟨z,its,n,r,e⟩:=I.hok p _ h;exact⟨its,n,r,e,z⟩
theorem Inv.lstUpd{pins:List (Addr×Obj)}{σ:St}{H:Hp}{s:ah}{p:Addr}{xs ys:List V}{its its':List Value}{n n':Nat}{f:Obj->Obj}(I:Inv X pins σ H s)(h:H p=some (.lst xs))(ho:s.heap.get? p=some {cls:=.type "list",data:=.seq its.toArray n})(hf:f {cls:=.type "list",data:=.seq its.toArray n}={cls:=.type "list",data:=.seq its'.toArray n'})(r:Vals ys its')(hz:ys.length<=sizeLine)(t:Nat):Inv X pins σ (upd H p (.lst ys)) {s with heap:=s.heap.update p f,toks:=t}:=by
 have e:(s.heap.update p f).get? p=some {cls:=.type "list",data:=.seq its'.toArray n'}:=by rw[Heap.get?_update_self f ho (by rw[hf]<;>rfl),hf]
 refine I.write (x:=p) (e:=p) (by rw[h];trivial) (.inl rfl) (λb u hb q=>(Heap.get?_update_other _ _ (bw hb)).trans q) ⟨_,e⟩ ?_;exact⟨hz,its',n',r,e⟩
noncomputable def HI:V->V->V->Hp->(Hp->Prop)->Prop:=λo i v H Q=>∃p xs k j,o=.ref p/\i=.int k/\H p=some (.lst xs)/\ixN xs.length k=some j/\Q (upd H p (.lst (xs.set j v)))
theorem set_list:PSet X HI:=by
 intro pins s σ H o i v ov iv u Q I ro ri rv h;obtain⟨p,xs,k,j,rfl,rfl,hp,hj,q⟩:=h;cases ro;obtain⟨t,rfl⟩:=ri;obtain⟨its,n,r,ho,hz⟩:=I.lst hp;obtain⟨h1,h2,h3,h4⟩:=Tw hj;have hl:=r.length;have hn:=VU;have I':Inv X pins σ (upd H p (.lst (xs.set j v))) {s with heap:=s.heap.update p (Obj.mapSeq (·.setIfInBounds j u))}:=I.lstUpd hp ho (Rz its n j u) (r.set rv j) (by rw[List.length_set];exact hz) s.toks;by_cases h0:0<=k
 ·have hk:k.toNat=j:=by rw[seqIndex_of h0 h4]at h1;exact ao h1
  exact PySem.W.ki_setAt ho h0 (by omega) (by rw[ar,<-hl];exact h4) (by rw[hk];exact⟨_,I',q⟩)
 ·have hk:(k+(its.toArray.size:Int)).toNat=j:=by rw[seqIndex_neg (by omega) h3]at h1;rw[ar,<-hl];exact ao h1
  exact PySem.W.ki_setBack ho (by omega) (by rw[ar,<-hl];exact h3) (by omega) (by rw[hk];exact⟨_,I',q⟩)
theorem Pa(lo hi:Option Int)(n:Nat):(e_ lo hi none n).1=((HT.sIx n 0 lo:Nat):Int)/\(e_ lo hi none n).2.1=((HT.sIx n n hi:Nat):Int)/\(e_ lo hi none n).2.2=1:=by
 refine⟨?_,?_,rfl⟩
 ·cases lo with
 |none=>simp[e_,HT.sIx]
 |some i=>
   simp only[e_,HT.sIx,Option.getD_none,show(1:Int)>0 by decide,if_true];by_cases h:i<0
   ·simp only[h,if_true]<;>omega
   ·simp only[h,if_false]<;>omega
 ·cases hi with
 |none=>simp[e_,HT.sIx]
 |some i=>
   simp only[e_,HT.sIx,Option.getD_none,show(1:Int)>0 by decide,if_true];by_cases h:i<0
   ·simp only[h,if_true]<;>omega
   ·simp only[h,if_false]<;>omega
theorem MY(its:List Value)(lo hi:Option Int):slicePick its.toArray lo hi none=((its.drop (HT.sIx its.length 0 lo)).take (HT.sIx its.length its.length hi-HT.sIx its.length 0 lo)).toArray:=by obtain⟨h1,h2,h3⟩:=Pa lo hi its.toArray.size;unfold slicePick;rw[h1,h2,h3];simp only[sliceRange_one,pick_run,ar]<;>rfl
noncomputable def rSlL(K:af):V->Option Int->Option Int->Hp->VK->Prop:=λx lo hi H Q=>∃a xs,x=.ref a/\SqL K H a xs/\∀p,H p=none->Q (.ref p) (upd H p (.lst (cutV xs lo hi)))
theorem G2:SlR X (rSlL X.K):=by intro pins s σ H x v vl vu lo hi sl Q I rx hs pl pu h;obtain⟨a,xs,rfl,hx,q⟩:=h;cases rx;obtain⟨its,r,ht,hz⟩:=I.list hx;have hlen:=r.length;refine⟨"list",_,slot_list_getitem.lookup,ht.isList.typeIs,?_⟩;refine wpAny_getItem_list_slice ht.isList hs pl pu .none (by simp) ?_ (by rw[ar]<;>omega);rw[MY,<-hlen];refine⟨.ref s.heap.objs.size,_,I.laid (t':=s.toks) (o:=.lst (cutV xs lo hi)) (λb ob q=>Heap.get?_push_of_some _ q) (Nat.le_refl _) ?_,rfl,q _ (I.hok.fresh (Nat.le_refl _))⟩;exact⟨Nat.le_trans (GV xs lo hi) hz,_,0,(r.drop (HT.sIx xs.length 0 lo)).take (HT.sIx xs.length xs.length hi-HT.sIx xs.length 0 lo),Heap.get?_push_size _ rfl⟩
noncomputable def Ul:V->Bool
|.non=>true
|.bl _=>true
|.int _=>true
|.str _=>true
|_=>false
noncomputable def eqV:V->V->Bool
|.non,.non=>true
|.bl a,.bl b=>a==b
|.bl a,.int b=>(if a then 1 else 0)==b
|.int a,.bl b=>a==(if b then 1 else 0)
|.int a,.int b=>a==b
|.str a,.str b=>a==b
|_,_=>false
theorem FP{A:aL}{s:ah}{y x:V}{u v:Value}(ry:RelV y u)(rx:RelV x v)(fy:Ul y=true)(fx:Ul x=true):SeqAt.EqAt A s u v (eqV y x):=by
 cases y with
|non=>
  cases ry;cases x with
 |non=>cases rx;exact SeqAt.EqAt.same _
 |bl b=>cases rx;exact SeqAt.EqAt.none_bool b
 |int b=>obtain⟨t,rfl⟩:=rx;exact SeqAt.EqAt.none_int b t
 |str b=>obtain⟨t,rfl⟩:=rx;exact SeqAt.EqAt.none_str b t
 |_=>exact absurd (show false=true from fx) Bool.false_ne_true
|bl a=>
  cases ry;cases x with
 |non=>cases rx;exact SeqAt.EqAt.bool_none a
 |bl b=>cases rx;exact SeqAt.EqAt.bool_bool a b
 |int b=>obtain⟨t,rfl⟩:=rx;exact SeqAt.EqAt.bool_int a b t
 |str b=>obtain⟨t,rfl⟩:=rx;exact SeqAt.EqAt.bool_str a b t
 |_=>exact absurd (show false=true from fx) Bool.false_ne_true
|int a=>
  obtain⟨t',rfl⟩:=ry;cases x with
 |non=>cases rx;exact SeqAt.EqAt.int_none a t'
 |bl b=>cases rx;exact SeqAt.EqAt.int_bool a t' b
 |int b=>obtain⟨t,rfl⟩:=rx;exact SeqAt.EqAt.int_int a t' b t
 |str b=>obtain⟨t,rfl⟩:=rx;exact SeqAt.EqAt.int_str a t' b t
 |_=>exact absurd (show false=true from fx) Bool.false_ne_true
|str a=>
  obtain⟨t',rfl⟩:=ry;cases x with
 |non=>cases rx;exact SeqAt.EqAt.str_none a t'
 |bl b=>cases rx;exact SeqAt.EqAt.str_bool a t' b
 |int b=>obtain⟨t,rfl⟩:=rx;exact SeqAt.EqAt.str_int a t' b t
 |str b=>obtain⟨t,rfl⟩:=rx;exact SeqAt.EqAt.str_str a t' b t
 |_=>exact absurd (show false=true from fx) Bool.false_ne_true
|_=>exact absurd (show false=true from fy) Bool.false_ne_true
noncomputable def eqU(x:V)(u:Value):Bool:=match u with
|.none=>eqV .non x
|.bool b=>eqV (.bl b) x
|.int i _=>eqV (.int i) x
|.str z _=>eqV (.str z) x
|_=>false
theorem LC{x y:V}{u:Value}(r:RelV y u)(f:Ul y=true):eqU x u=eqV y x:=by
 cases y with
|non=>cases r;rfl
|bl b=>cases r;rfl
|int i=>obtain⟨t,rfl⟩:=r;rfl
|str z=>obtain⟨t,rfl⟩:=r;rfl
|_=>exact absurd (show false=true from f) Bool.false_ne_true
theorem PK{x:V}:∀{xs:List V}{us:List Value},Vals xs us->xs.all Ul=true->us.any (eqU x)=xs.any λy=>eqV y x
|_,_,.nil,_=>rfl
|y::xs,u::us,.cons r t,f=>by rw[List.all_cons,Bool.and_eq_true]at f;rw[fJ,fJ,LC r f.1,PK t f.2]
theorem MA{A:aL}{s:ah}{x:V}{v:Value}(rx:RelV x v)(fx:Ul x=true):∀{xs:List V}{us:List Value},Vals xs us->xs.all Ul=true->∀u∈us,SeqAt.EqAt A s u v (eqU x u)
|_,_,.nil,_=>λu hu=>by cases hu
|y::xs,u::us,.cons r t,f=>λu' hu=>by
  rw[List.all_cons,Bool.and_eq_true]at f;rcases au.mp hu with rfl|hu
  ·rw[LC r f.1];exact FP r rx f.1 fx
  ·exact MA rx fx t f.2 u' hu
noncomputable def inV(x:V)(xs:List V):Bool:=xs.any λy=>eqV y x
def rIn(K:af)(neg:Bool):R2:=λx y H Q=>∃p xs,y=.ref p/\(SqL K H p xs\/SqT K H p xs)/\Ul x=true/\xs.all Ul=true/\Q (.bl (if neg then !inV x xs else inV x xs)) H
theorem Nz:OpR X (bU .In) (rIn X.K false):=by
 intro pins s σ H x y v u Q I rx ry h;obtain⟨p,xs,rfl,hq,fx,fs,q⟩:=h;cases ry;rcases hq with hq|hq
 ·obtain⟨its,r,pl,hz⟩:=I.list hq;refine SeqAt.in_listAt (eqU x) pl.isList (λw hw=>MA rx fx r fs w (by simpa using hw)) ⟨.bl _,H,I,rfl,?_⟩;rw[show its.toArray.any (eqU x)=its.any (eqU x) by simp,PK r fs];exact q
 ·obtain⟨its,r,pl,hz⟩:=I.tuple hq;refine SeqAt.in_tupleAt (eqU x) pl (λw hw=>MA rx fx r fs w (by simpa using hw)) ⟨.bl _,H,I,rfl,?_⟩;rw[show its.toArray.any (eqU x)=its.any (eqU x) by simp,PK r fs];exact q
theorem JG:Y1 X (.builtin "len") (λxs H Q=>∃p ys,xs=[.ref p]/\(SqL X.K H p ys\/SqT X.K H p ys)/\Q (.int ys.length) H):=by
 intro pins s σ H xs us Q I r h;obtain⟨p,ys,rfl,hq,q⟩:=h;obtain⟨u,rfl,rx⟩:=vals1 r;cases rx;have hn:=VU;rcases hq with hq|hq
 ·obtain⟨its,r',pl,hz⟩:=I.list hq;have hlen:=r'.length;exact Calls.call_len_list pl.isList (by simp only[ar]<;>omega) ⟨.int ys.length,H,I.tok _,⟨s.toks+1,by rw[ar,hlen]⟩,q⟩
 ·obtain⟨its,r',pl,hz⟩:=I.tuple hq;have hlen:=r'.length;exact len_tuple pl (by simp only[ar]<;>omega) ⟨.int ys.length,H,I.tok _,⟨s.toks+1,by rw[ar,hlen]⟩,q⟩
theorem YY:Y1 X (.type "list") (λxs H Q=>∃p ys,xs=[.ref p]/\(SqL X.K H p ys\/SqT X.K H p ys)/\∀l,H l=none->Q (.ref l) (upd H l (.lst ys))):=by
 intro pins s σ H xs us Q I r h;obtain⟨p,ys,rfl,hq,q⟩:=h;obtain⟨u,rfl,rx⟩:=vals1 r;cases rx;have fin:∀(its:List Value),Vals ys its->ys.length<=sizeLine->∀(h':Heap)(c':Nat),(∀b o',s.heap.get? b=some o'->h'.get? b=some o') ->h'.get? s.heap.objs.size=some {cls:=.type "list",dict:=none,data:=.seq its.toArray c',slots:=#[]}->EP X pins σ Q (.ref s.heap.objs.size) {s with heap:=h'}:=λits r' hz h' c' kp e=>⟨.ref s.heap.objs.size,_,I.laid (t':=s.toks) kp (Nat.le_refl _) (show ZE X.prog X.w _ h' _ (.lst ys)from⟨hz,its,c',r',e⟩),rfl,q _ (I.hok.fresh (Nat.le_refl _))⟩;rcases hq with hq|hq
 ·obtain⟨its,r',pl,hz⟩:=I.list hq;have hlen:=r'.length;obtain⟨o,ho,hc,n,hd⟩:=pl.isList;exact call_list_seq p (.inl rfl) ho hc hd (λh' c' kp e=>fin its r' hz h' c' kp e) (by simp only[ar]<;>omega)
 ·obtain⟨its,r',pl,hz⟩:=I.tuple hq;have hlen:=r'.length;obtain⟨o,ho,hc,n,hd⟩:=pl;exact call_list_seq p (.inr rfl) ho hc hd (λh' c' kp e=>fin its r' hz h' c' kp e) (by simp only[ar]<;>omega)
theorem Jk:Y1 X (.type "tuple") (λxs H Q=>∃p ys,xs=[.ref p]/\((SqL X.K H p ys/\∀l,H l=none->Q (.ref l) (upd H l (.tup ys)))\/(SqT X.K H p ys/\Q (.ref p) H))):=by
 intro pins s σ H xs us Q I r h;obtain⟨p,ys,rfl,h⟩:=h;obtain⟨u,rfl,rx⟩:=vals1 r;cases rx;rcases h with⟨hq,q⟩|⟨hq,q⟩
 ·obtain⟨its,r',pl,hz⟩:=I.list hq;have hlen:=r'.length;refine call_tuple_list pl.isList (λh' kp=>?_) (by simp only[ar]<;>omega);have I1:Inv X pins σ H {s with heap:=h'}:=I.kept (t':=s.toks) kp;have I2:Inv X pins σ (upd H h'.objs.size (.tup ys)) {s with heap:=h'.push {cls:=.type "tuple",data:=.seq its.toArray}}:=I1.laid (t':=s.toks) (λb o e=>Heap.get?_push_of_some _ e) (Nat.le_refl _) (show ZE X.prog X.w _ _ _ (.tup ys)from⟨hz,its,r',IsTup.new _ _⟩);exact⟨.ref h'.objs.size,_,I2,rfl,q _ (I1.hok.fresh (Nat.le_refl _))⟩
 ·obtain⟨its,r',pl,hz⟩:=I.tuple hq;exact call_tuple_same pl ⟨.ref p,H,I,rfl,q⟩
def tyV(K:af)(T:String)(x:V)(H:Hp):Prop:=match x with
|.str _=>T="str"
|.int _=>T="int"
|.ref p=>(T="list"/\∃xs,SqL K H p xs)\/(T="tuple"/\∃o,K.lookup p=some o/\o.cls=.type "tuple"/\o.dict=none) \/(T="dict"/\((∃kvs,H p=some (.dK kvs))\/∃kvs,H p=some (.dT kvs)))\/(T="set"/\∃S n,H p=some (.set S n))
|_=>False
theorem Ka{pins:List (Addr×Obj)}{σ:St}{H:Hp}{s:ah}{T:String}{x:V}{v:Value}(I:Inv X pins σ H s)(r:RelV x v)(ty:tyV X.K T x H):s.TypeIs v T/\∀a,v=.ref a->∃ob,s.heap.get? a=some ob/\ob.dict=none:=by
 cases x with
|str z=>obtain⟨t,rfl⟩:=r;cases(show T="str" from ty);exact⟨typeIs_str s z t,λ_ e=>nomatch e⟩
|int i=>obtain⟨t,rfl⟩:=r;cases(show T="int" from ty);exact⟨typeIs_int s i t,λ_ e=>nomatch e⟩
|ref p=>
  cases r;rcases ty with⟨rfl,xs,hq⟩|⟨rfl,o,hk,hc,hd⟩|⟨rfl,hk⟩|⟨rfl,S,n,hk⟩
  ·obtain⟨its,_,pl,_⟩:=I.list hq;refine⟨pl.isList.typeIs,λa e=>?_⟩;cases e;obtain⟨o,n,e,c,hd,_⟩:=pl;exact⟨o,e,hd⟩
  ·refine⟨⟨o,I.kIn p o hk,hc⟩,λa e=>?_⟩;cases e;exact⟨o,I.kIn _ o hk,hd⟩
  ·have z:∃o,s.heap.get? p=some o/\o.ExactDict:=by
    rcases hk with⟨kvs,hk⟩|⟨kvs,hk⟩
    ·obtain⟨_,_,_,_,o,_,_,e,ex,_⟩:=I.hok p _ hk;exact⟨o,e,ex⟩
    ·obtain⟨_,_,_,_,o,_,_,e,ex,_⟩:=I.hok p _ hk;exact⟨o,e,ex⟩
   obtain⟨o,e,ex⟩:=z;refine⟨⟨o,e,ex.1⟩,λa e2=>?_⟩;cases e2;exact⟨o,e,ex.2.1⟩
  ·obtain⟨o,_,_,_,e,ex,_⟩:=I.hok p _ hk;refine⟨⟨o,e,ex.1⟩,λa e2=>?_⟩;cases e2;exact⟨o,e,ex.2.1⟩
|_=>exact bL ty
def tBM0(K:af)(T:String)(r:V->List V->Hp->VK->Prop)(to:TE):TE:=λσ H Q=>to σ H λx H1=>tyV K T x H1/\r x [] H1 Q
def tBM(K:af)(T:String)(r:V->List V->Hp->VK->Prop)(to:TE)(t:TA):TE:=λσ H Q=>to σ H λx H1=>tyV K T x H1/\t σ H1 λxs H2=>r x xs H2 Q
variable {o e:Expr}{es:List Expr}{to:TE}{t:TA}{name:Str}{apos cpos:Pos}{T id:String}{r:V->List V->Hp->VK->Prop}
theorem Rw(pa:PlainAttrs T)(slot:Slot T name id)(hty:typeOf (.builtin id)=pure (.type "method_descriptor"))(hm:MtR X id r)(ho:PE X o to)(hbase:dq o name X.env (eval o X.env)=eval o X.env:=by rfl)(hline:(apos.endLine==cpos.line)=true:=by rfl):PE X (.Call (.Attribute o name apos) [] [] cpos) (tBM0 X.K T r to):=by intro pins s σ H Q I h;refine wpAny_Call_method0_late hbase hline (thn (ho pins s σ H _ I h) λv s1 hZ=>?_);obtain⟨x,H1,I1,r1,ty,q1⟩:=hZ;obtain⟨h1,h2⟩:=Ka I1 r1 ty;exact⟨T,id,pa,slot,hty,h1,h2,d7 rfl (PySem.evalArgs_none (hm pins s1 σ H1 x [] v [] Q I1 r1 .nil q1))⟩
theorem JW(pa:PlainAttrs T)(slot:Slot T name id)(hty:typeOf (.builtin id)=pure (.type "method_descriptor"))(hm:MtR X id r)(ho:PE X o to)(ha:PA X (e::es) t)(hbase:dq o name X.env (eval o X.env)=eval o X.env:=by rfl)(hfew:((b8 cpos (aA (e::es) X.env)).all (λx=>!x.1)&&(d6 cpos (cU [] X.env)).all (λx=>x.1.isSome)&&decide ((e::es).length+([]:List gZ).length+(if([]:List gZ).isEmpty then 0 else 1)<30))=true:=by rfl)(hline:(apos.endLine==cpos.line)=true:=by rfl)(hs:aA (e::es) X.env=(false,eval e X.env)::aA es X.env:=by rfl)(hplain:(b8 cpos (aA es X.env)).any (·.1)=false:=by rfl):PE X (.Call (.Attribute o name apos) (e::es) [] cpos) (tBM X.K T r to t):=by
 intro pins s σ H Q I h;refine wpAny_Call_method_late hbase hfew hline rfl (thn (ho pins s σ H _ I h) λv s1 hZ=>?_);obtain⟨x,H1,I1,r1,ty,q1⟩:=hZ;obtain⟨h1,h2⟩:=Ka I1 r1 ty;refine⟨T,id,pa,slot,hty,h1,h2,?_⟩;have hA:=ha cpos pins s1 σ H1 _ I1 q1;rw[hs]at hA ⊢;refine d7 (by show(false||(b8 cpos (aA es X.env)).any (·.1))=false;rw[hplain]<;>rfl) (Calls.evalArgs_plain ?_)
 exact thn hA λus s2⟨vs,H2,I2,r2,q2⟩=>hm pins s2 σ H2 x vs v us Q I2 r1 r2 q2
end
open PySem PySem.Spec PyProof.Rows
def MtM(X:Cx)(id:String)(r:V->List V->Hp->VK->Prop):Prop:=∀(pins:List (Addr×Obj))(s:ah)(σ:St)(H:Hp)(x:V)(xs:List V)(v:Value)(us:List Value)(Q:VK),Inv X pins σ H s->RelV x v->Vals xs us->r x xs H Q ->wpAny (model X.prog X.w) X.A (call (.builtin id) (v::us)) (EP X pins σ Q) X.xe s
theorem Vals.one:∀{x:V}{us:List Value},Vals [x] us->∃u,us=[u]/\RelV x u
|_,_,.cons r .nil=>⟨_,rfl,r⟩
theorem Vals.zero:∀{us:List Value},Vals [] us->us=[]
|_,.nil=>rfl
section
variable {X:Cx}{pins:List (Addr×Obj)}{σ:St}{H:Hp}{s:ah}{l b:Addr}{xs ys zs:List V}
theorem Inv.lset{its its':List Value}{n:Nat}{f:Array Value->Array Value}{t':Nat}(I:Inv X pins σ H s)(hH:H l=some (.lst xs))(e:s.heap.get? l=some {cls:=.type "list",data:=.seq its.toArray n})(hf:f its.toArray=its'.toArray)(hv:Vals ys its')(hz:ys.length<=sizeLine):Inv X pins σ (upd H l (.lst ys)) {s with heap:=s.heap.update l (Obj.mapSeq f),toks:=t'}:=by have q:=PySem.IsL.update e f;rw[hf]at q;refine I.write (x:=l) (e:=l) (by rw[hH];exact trivial) (.inl rfl) (λb' u hb hu=>(Heap.get?_update_other s.heap (Obj.mapSeq f) (bw hb)).trans hu) ⟨_,q⟩ ?_;exact⟨hz,its',_,hv,q⟩
theorem Inv.lnew{its:List Value}{t':Nat}(I:Inv X pins σ H s)(hv:Vals ys its)(hz:ys.length<=sizeLine):Inv X pins σ (upd H s.heap.objs.size (.lst ys)) {s with heap:=s.heap.push {cls:=.type "list",data:=.seq its.toArray},toks:=t'}:=I.laid (λ_ _ q=>Heap.get?_push_of_some _ q) (Nat.le_refl _) ⟨hz,its,0,hv,Heap.get?_push_size _ rfl⟩
theorem Inv.fresh(I:Inv X pins σ H s):H s.heap.objs.size=none:=I.hok.fresh (Nat.le_refl _)
theorem Inv.lstM(I:Inv X pins σ H s)(hH:H l=some (.lst xs)):xs.length<=sizeLine/\∃(its:List Value)(n:Nat),Vals xs its/\xs.length=its.length/\s.heap.get? l=some {cls:=.type "list",data:=.seq its.toArray n}:=by obtain⟨z,its,n,r,e⟩:=I.hok l _ hH;exact⟨z,its,n,r,r.length,e⟩
theorem Ld{n:Nat}(h:n<=sizeLine):eO n=false:=by unfold eO;exact decide_eq_false (by omega)
end
section
variable {X:Cx}
noncomputable def DF:V->List V->Hp->VK->Prop:=λx vs H Q=>∃l xs y,x=.ref l/\vs=[y]/\H l=some (.lst xs)/\xs.length<sizeLine/\Q .non (upd H l (.lst (xs++[y])))
theorem XE:MtM X "list.append" DF:=by intro pins s σ H x vs v us Q I rx rv h;obtain⟨l,xs,y,rfl,rfl,hH,hz,q⟩:=h;cases rx;obtain⟨u,rfl,ru⟩:=rv.one;obtain⟨z,its,n,r,hl,e⟩:=I.lstM hH;refine call_meets F.slot_list_append ⟨_,e,rfl⟩ F.entry_list_append (F.args_list_append_2 _ _) (PySem.list_append l its.toArray n u (by rw[ar];omega)) ⟨e,?_⟩;refine⟨.non,_,I.lset (its':=its++[u]) hH e (by simp) (r.append (.cons ru .nil)) ?_,rfl,q⟩;rw[ax,f9];omega
noncomputable def DE:V->List V->Hp->VK->Prop:=λx vs H Q=>∃l b xs zs,x=.ref l/\vs=[.ref b]/\H l=some (.lst xs)/\H b=some (.lst zs)/\xs.length+zs.length<=sizeLine/\Q .non (upd H l (.lst (xs++zs)))
theorem Gd:MtM X "list.extend" DE:=by
 intro pins s σ H x vs v us Q I rx rv h;obtain⟨l,b,xs,zs,rfl,rfl,hH,hB,hz,q⟩:=h;cases rx;obtain⟨u,rfl,ru⟩:=rv.one;cases ru;obtain⟨z,its,n,r,hl,e⟩:=I.lstM hH;obtain⟨z2,its2,n2,r2,hl2,e2⟩:=I.lstM hB;have hsz:its.toArray.size+its2.toArray.size<=sizeLine:=by rw[ar,ar];omega
 have hlong:¬(!its.toArray.isEmpty&&eO (its.toArray.size+its2.toArray.size))=true:=by rw[Ld hsz,Bool.and_false];exact Bool.false_ne_true
 refine call_meets F.slot_list_extend ⟨_,e,rfl⟩ F.entry_list_extend (F.args_list_extend_2 _ _) (AutoSeq1.list_extend_list_list_0 l its.toArray n b its2.toArray n2 hlong (by rw[ar];omega) (by omega)) ⟨e,e2,?_⟩;refine⟨.non,_,I.lset (its':=its++its2) hH e (by simp) (r.append r2) ?_,rfl,q⟩;rw[ax];omega
noncomputable def EW:V->List V->Hp->VK->Prop:=λx vs H Q=>∃l xs,x=.ref l/\vs=[]/\H l=some (.lst xs)/\Q .non (upd H l (.lst []))
theorem Mz:MtM X "list.clear" EW:=by intro pins s σ H x vs v us Q I rx rv h;obtain⟨l,xs,rfl,rfl,hH,q⟩:=h;cases rx;have hus:=rv.zero;subst hus;obtain⟨z,its,n,r,hl,e⟩:=I.lstM hH;refine call_meets F.slot_list_clear ⟨_,e,rfl⟩ F.entry_list_clear (F.args_list_clear_1 _) (AutoSeq1.list_clear_list_0 l its.toArray n (by rw[ar];omega)) ⟨e,?_⟩;exact⟨.non,_,I.lset (its':=[]) (ys:=[]) hH e rfl .nil (Nat.zero_le _),rfl,q⟩
def rCat:R2:=λx y H Q=>∃l b xs zs,x=.ref l/\y=.ref b/\H l=some (.lst xs)/\H b=some (.lst zs)/\xs.length+zs.length<=sizeLine/\∀p,H p=none->Q (.ref p) (upd H p (.lst (xs++zs)))
theorem VS:OpR X (eZ .Add) rCat:=by
 intro pins s σ H x y v u Q I rx ry h;obtain⟨l,b,xs,zs,rfl,rfl,hH,hB,hz,q⟩:=h;cases rx;cases ry;obtain⟨z,its,n,r,hl,e⟩:=I.lstM hH;obtain⟨z2,its2,n2,r2,hl2,e2⟩:=I.lstM hB;refine PySem.P.add_list e e2 ?_ (by rw[ar,ar];omega);have ea:its.toArray++its2.toArray=(its++its2).toArray:=by simp
 rw[ea];exact⟨.ref _,_,I.lnew (t':=s.toks) (r.append r2) (by rw[ax];omega),rfl,q _ I.fresh⟩
end
end L2
namespace Att
open PySem PySem.W PySem.Calls PyProof.Rows
theorem GX{P:Params}{h:Heap}:∀(ns:List Int)(vs:List Value),WellAll P h vs (ns.map WData.int)->IntsAre vs ns:=by
 intro ns;induction ns with
|nil=>intro vs w;rw[fT]at w;cases w;exact .nil
|cons n ns ih=>
  intro vs w;rw[aI]at w;cases w with
 |cons a b=>cases a;exact .cons _ _ (ih _ b)
theorem Wa{l:OpenLaw}{n:Nat}(hn:l.most=some n){P:Params}{h:Heap}{args:List WData}{vals:List Value}(hpre:l.row.toRowW.claim.pre args=true)(hwl:WellAll P h vals args):∃a vs ns,vals=[Value.ref a]/\args=[WData.list (ns.map WData.int)]/\h.get? a=some {cls:=.type "list",data:=.seq vs.toArray}/\IntsAre vs ns/\ns.length<=n:=by
 have hsh:WShape.hasAll [] args [.list .int]=true:=(pre_splitW hpre).1;have hc:l.pre.holds [] {args:=args}=true:=(pre_splitW hpre).2;obtain⟨d,r,rfl,h1,h2⟩:=hasAllW_cons hsh;obtain rfl:=hasAllW_nil h2;obtain⟨xs,rfl,h3⟩:=hasW_list h1;obtain⟨ns,rfl⟩:=items_int h3;have hlen:ns.length<=n:=by
  unfold OpenLaw.pre at hc;have h4:(WTm.not (.lt (.lit (.int (n:Int))) (.len (.arg 0)))).holds [] {args:=[.list (ns.map .int)]}=true:=by have h4:=(holds_andW hc).1;rw[hn]at h4;exact h4
  have h5:=condW_of h4 (w_not (w_lt w_lit (w_len_list (w_arg rfl))));rw[bu]at h5;refine Nat.le_of_not_lt λq=>?_;have q':(n:Int)<((ns.length:Nat):Int):=by omega
  first
  |(rw[decide_eq_true q']at h5;exact absurd h5 (by decide))
  |(simp at h5;omega)
 cases hwl with
|cons w1 w2=>
  cases w2;cases w1 with
 |list ho hall=>exact⟨_,_,ns,rfl,rfl,ho,GX ns _ hall,hlen⟩
theorem Wj(l:OpenLaw)(args:List WData):l.row.toRowW.claim.post args (.bool true) args=true:=postW_of (r:=l.row.toRowW) (X:=(true==true)) (show WShape.has [] (.bool true) .bool=true by first|rfl|decide|simp[WShape.has,WShape.arms,WShape.armsAll]) (show(WTm.eq .res (.lit (.bool true))).value [] {args:=args,res:=some (.bool true),after:=args}=some (.bool (true==true))from w_eq_bool (w_res rfl) w_lit) rfl
theorem attach_call{l:OpenLaw}{n:Nat}{q:Program}{loose:List Str}{XP:(Str->Option Value)->Heap->Prop}{YP:World->Heap->Prop}{d:DefRec}(hn:l.most=some n)(hdf:d.params.defaults=[])(call:∀(w:World)(s₀ s₁:ah)(mg mb:Str->Option Value)(fa:Addr)(o:Obj)(pm cd doc:Value)(a:Addr)(vs:List Value)(ns:List Int),Ground q loose [] XP w s₀ mg mb s₁.heap->YP w s₁.heap ->s₁.heap.get? fa=some o->o.data=.func (docDef d.name d.params d.body d.scope pm cd doc)->s₁.heap.CodeRec cd d.name->mg d.name=some (.ref fa) ->s₁.heap.get? a=some {cls:=.type "list",data:=.seq vs.toArray}->IntsAre vs ns->ns.length<=n->s₁.gens=#[] ->fS (model l.prog w) callerA (.call (.ref fa) ⟨[.ref a],[]⟩) (λr s'=>r=.ok (.ret (.bool true))/\OldK s₁.heap s'.heap/\s'.os=s₁.os/\fC s'.gens) s₁):WalkO q loose XP YP l.row.toRowW d [] (λf vs=>PySem.call f vs):=by intro w s₀ s₁ mg mb G Y fa o pm cd doc dV kV ho hd hcd hD hmg hg args vals as hpre hlay hrd hwl hlo;obtain rfl:dV=.none:=Dflts.none hD hdf;obtain rfl:kV=.none:=Dflts.noKw hD;obtain⟨a,vs,ns,rfl,rfl,hobj,hints,hlen⟩:=Wa hn hpre hwl;refine enter_call (fD (call w s₀ s₁ mg mb fa o pm cd doc a vs ns G Y ho (fd_plain hd) hcd hmg hobj hints hlen hg) λr s' hq=>?_);obtain⟨rfl,h2,h3,h4⟩:=hq;exact⟨.inl ⟨.bool true,.bool true,[],rfl,λ_=>rfl,.bool true,Wj l _,λ_=>⟨List.Pairwise.nil,λ_ hm=>(nomatch hm)⟩⟩,h2,h3,h4⟩
end Att
namespace L2
open PySem PySem.Spec PyProof.Rows
theorem Ni:∀{vs:List Value}{ns:List Int},IntsAre vs ns->Vals (ns.map V.int) vs
|_,_,.nil=>.nil
|_,_,.cons n t h=>.cons ⟨t,rfl⟩ (Ni h)
def Only(H:Hp):Prop:=∀b,H b=none\/∃o xs,H b=some (.frz o (.lst xs))
theorem Lm{P:Program}{w:World}{K:af}{mg mb:Str->Option Value}{CX:CXT}{k:Nat}{fa a:Addr}{fd:bH}{x:Str}{sp:Sp}{s₁:ah}{vs:List Value}{ns:List Int}(KX:K.In s₁.heap)(hns:s₁.heap.Ns aK mg)(hb:s₁.heap.Ns builtinsNs mb)(hbb:∀x:Str,x≠"__name__"->mb x=bX x)(hlim:s₁.heap.NoLimit)(hg:s₁.gens=#[])(ha:s₁.heap.get? a=some {cls:=.type "list",data:=.seq vs.toArray})(hi:IntsAre vs ns)(hl:ns.length<=sizeLine)(hr:Room k callerA)(F:∀base:Heap,K.In base->base.Ns aK mg->FnOk P w K mg base CX k fa fd [x] sp)(hbind:∀(s:ah)(u:Value),BindsTo s fd ⟨[u],[]⟩ [(x,u)])(hsp:∀H:Hp,Only H->SqL K H a (ns.map V.int)->sp [.ref a] H (λv _=>v=.bl true) λ_ _ _=>False)(hCX:∀H e s',CX [] H s₁ (λ_ _ _=>False) e s'->False):fS (model P w) callerA (.call (.ref fa) ⟨[.ref a],[]⟩) (λr s'=>r=.ok (.ret (.bool true))/\OldK s₁.heap s'.heap/\s'.os=s₁.os/\fC s'.gens) s₁:=by
 have rv:=Ni hi;have lenV:=hi.length;have core:∀H:Hp,Only H->SqL K H a (ns.map V.int)->HOk P w H s₁.heap->(∀b,H b≠none->b=a)->(H a≠none->K.lookup a=none) ->fS (model P w) callerA (.call (.ref fa) ⟨[.ref a],[]⟩) (λr s'=>r=.ok (.ret (.bool true))/\OldK s₁.heap s'.heap/\s'.os=s₁.os/\fC s'.gens) s₁:=by
  intro H hO hS hok hA hK;have base_of:∀{b:Addr}{o:Obj},s₁.heap.get? b=some o->H b=none->(hidT s₁.heap H).get? b=some o:=λe n=>Ly e n;have noA:∀{b:Addr}{o:Obj}{es:Array DictEntry}{ep:Nat},s₁.heap.get? b=some o->o.data=.dict es ep->H b=none:=λ{b o es ep}e d=>by
   cases q:H b with
  |none=>rfl
  |some u=>have e':b=a:=hA b (by rw[q];simp);subst e';rw[ha]at e;cases e;have d':Data.seq vs.toArray _=Data.dict es ep:=d;cases d'
  have nsK:∀{b:Addr}{m:Str->Option Value},s₁.heap.Ns b m->(hidT s₁.heap H).Ns b m:=λ{b m}⟨o,es,ep,e,d,r⟩=>⟨o,es,ep,base_of e (noA e d),d,r⟩;have hKb:K.In (hidT s₁.heap H):=λb o e=>base_of (KX b o e) (by
   cases q:H b with
  |none=>rfl
  |some u=>have e':b=a:=hA b (by rw[q];simp);subst e';rw[hK (by rw[q];simp)]at e;cases e)
  have hM:Mod K mg (hidT s₁.heap H):=⟨hKb,nsK hns,⟨mb,nsK hb,hbb⟩,let ⟨mc,h1,h2⟩:=hlim;⟨mc,nsK h1,h2⟩⟩;have e0:Env0 P w K mg (hidT s₁.heap H) callerA [] s₁ H:=⟨rfl,hM,λb o e=>DR e,Nat.le_of_eq (Wu _ _),trivial,λb hb=>absurd (show b∈([]:List Addr)from hb) (by simp),hok,.of_eq hg⟩;refine fD ((F _ hKb (nsK hns)).run callerA [] s₁ H ⟨[.ref a],[]⟩ [.ref a] [.ref a] _ _ hr e0 (hbind s₁ (.ref a)) (.cons rfl .nil) (hsp H hO hS)) λr s' h=>?_;cases r with
 |error e=>exact(hCX H e s' h).elim
 |ok fl=>
   cases fl with
  |next=>exact bL h
  |brk=>exact bL h
  |cont=>exact bL h
  |ret u=>
    obtain⟨v,H',os,bare,un,hok',r',q⟩:=h;have q':v=.bl true:=q;subst q';obtain rfl:u=Value.bool true:=r';refine⟨rfl,OldK.of_keep λb o e=>?_,os,bare⟩;cases q:H b with
   |none=>exact un.keep b o e q (by intro z;exact absurd (show b∈([]:List Addr)from z) (by simp)) (by simp)
   |some u=>
     rcases hO b with z|⟨ob,xs,z⟩
     ·rw[q]at z;cases z
     ·have z2:=un.frzs b ob _ z;obtain⟨e1,_⟩:=hok b _ z;obtain⟨e2,_⟩:=hok' b _ z2;rw[e]at e1;cases e1;exact e2
 cases hk:K.lookup a with
|some o=>have e:=KX a o hk;rw[ha]at e;cases e;refine core (λ_=>none) (λ_=>.inl rfl) (.inr ⟨_,vs.toArray,_,hk,rfl,rfl,rfl,by rw[ar,lenV];exact hl,by simpa using rv⟩) (λb u z=>by have z':(none:Option HO)=some u:=z;cases z') (λb z=>absurd rfl z) λz=>absurd rfl z
|none=>
  refine core (λb=>if b=a then some (.frz {cls:=.type "list",data:=.seq vs.toArray} (.lst (ns.map V.int)))else none) (λb=>?_) (.inl (.inr ⟨{cls:=.type "list",data:=.seq vs.toArray},if_pos rfl⟩)) (λb u z=>?_) (λb z=>?_) λ_=>hk
  ·by_cases hb:b=a
   ·exact .inr ⟨_,_,if_pos hb⟩
   ·exact .inl (if_neg hb)
  ·by_cases hb:b=a
   ·have z':=(if_pos hb).symm.trans z;cases z';subst hb;exact⟨ha,by rw[bu];exact hl,vs,_,rv,ha⟩
   ·have z':=(if_neg hb).symm.trans z;cases z'
  ·by_cases hb:b=a
   ·exact hb
   ·exact absurd (if_neg hb) z
open PySem PySem.Spec PyProof.Rows
noncomputable abbrev KOf{K:af}{h:Heap}(_:K.In h):af:=K
theorem Dj{l:hG}{n k:Nat}{q:Program}{loose:List Str}{XP:(Str->Option Value)->Heap->Prop}{YP:World->Heap->Prop}{d:DefRec}{K:Params->af}{CX:World->CXT}{sp:World->Sp}{x:Str}(hn:l.most=some n)(hn2:n<=sizeLine)(hdf:d.params.defaults=[])(hr:Room k callerA)(hY:∀(w:World)(h:Heap),YP w h->(K w.params).In h)(F:∀(w:World)(mg:Str->Option Value)(fa:Addr)(h:Heap),(K w.params).In h->h.Ns aK mg->mg d.name=some (.ref fa) ->∃fd:bH,(∀(s:ah)(u:Value),BindsTo s fd ⟨[u],[]⟩ [(x,u)]) /\∀base:Heap,(K w.params).In base->base.Ns aK mg->FnOk l.prog w (K w.params) mg base (CX w) k fa fd [x] (sp w))(hsp:∀(w:World)(H:Hp)(a:Addr)(ns:List Int),ns.length<=n->Only H->SqL (K w.params) H a (ns.map V.int)->sp w [.ref a] H (λv _=>v=.bl true) λ_ _ _=>False)(hCX:∀(w:World)(H:Hp)(s:ah)(e:Value)(s':ah),CX w [] H s (λ_ _ _=>False) e s'->False):PySem.W.WalkO q loose XP YP l.row.toRowW d [] (λf vs=>PySem.call f vs):=by refine Att.attach_call hn hdf λw s₀ s₁ mg mb fa o pm cd doc a vs ns G Y ho hd hcd hmg hobj hints hlen hg=>?_;have KX:=hY w _ Y;obtain⟨fd,hb,hF⟩:=F w mg fa _ KX G.T.g hmg;exact Lm KX G.T.g G.T.b G.T.builtins G.T.nolimit hg hobj hints (Nat.le_trans hlen hn2) hr hF hb (λH hO hS=>hsp w H a ns hlen hO hS) λH e s'=>hCX w H s₁ e s'
open PySem PySem.Spec PyProof.Rows
noncomputable def inClass(s:Stmt)(j:Nat):Stmt:=match s with
|.ClassDef _ _ _ body _ _ _ _ _ _ _=>body.getD j (.Pass ⟨0,0,0,0⟩)
|_=>.Pass ⟨0,0,0,0⟩
noncomputable def Yo(s:Stmt):Arguments:=match s with
|.FunctionDef _ a _ _ _ _ _ _ _ _=>a
|_=>{posonlyargs:=[],args:=[],vararg:=none,kwonlyargs:=[],kw_defaults:=[],kwarg:=none,defaults:=[]}
noncomputable def Zz(s:Stmt):List Stmt:=match s with
|.FunctionDef _ _ b _ _ _ _ _ _ _=>b
|_=>[]
noncomputable def Ze(s:Stmt):Scope:=match s with
|.FunctionDef _ _ _ _ _ _ sc _ _ _=>sc
|_=>{kind:=.function,names:=[],isGenerator:=false,isCoroutine:=false}
noncomputable abbrev CX0:CXT:=λ_ _ _ _ _ _=>False
abbrev E0:XK:=λ_ _ _=>False
theorem Yk{X:Cx}:Passes CX0 X E0:=λ_ _ _ _ _ _ _ h=>h.elim
structure Fun(K:af)(x qual:Str)(st:Stmt)(f:Addr)(fd:bH):Prop where
 ex:∃(oc:Value)(od:Option Addr)(kV doc pm:Value)(an:Option Addr)(cdv ct:Value)(osl:Array (Option Value)),
  fd=a9 x qual (Yo st) (Zz st) (Ze st) .none kV doc pm an cdv ct/\K.lookup f=some ⟨oc,od,.func fd,osl⟩/\bN K cdv qual=true
 kp:aJ K (.ref f)=true
section
variable {P:Program}{w:World}{K:af}{mg:Str->Option Value}{base:Heap}
theorem Fun.ok{x qual:Str}{st:Stmt}{f:Addr}{fd:bH}{N ps:List Str}{k:Nat}{sp:Sp}(F:Fun K x qual st f fd)(S:FnScope N ps (Ze st))(len:∀vs H Q E,sp vs H Q E->vs.length=ps.length)(hbody:∀(cdv:Value)(A:aL)(outer:List Env)(s:ah)(H:Hp)(vs:List V)(Q:VK)(E:XK),Room k (A.deeper (dD qual (Ze st) s.heap.objs.size f cdv))->sp vs H Q E ->∃t,PSs (cxOf CX0 P w K mg base N qual (Ze st) f cdv A outer s H E).nox (Zz st) t/\t {nx:=λ_ H'=>Q .non H',rt:=Q} (start N vs) H):FnOk P w K mg base CX0 (k+1) f fd ps sp:=by obtain⟨oc,od,kV,doc,pm,an,cdv,ct,osl,rfl,lk,hcd⟩:=F.ex;refine Ey lk hcd S len λA outer s H vs Q E hr hsp=>?_;obtain⟨t,h,q⟩:=hbody cdv A outer s H vs Q E hr hsp;exact⟨t,h.nox,q⟩
theorem Fun.binds{x qual:Str}{st:Stmt}{f:Addr}{fd:bH}{ps:List Str}(F:Fun K x qual st f fd)(h:∀(kV doc pm:Value)(an:Option Addr)(cdv ct:Value)(us:List Value),us.length=ps.length->bindArgs (a9 x qual (Yo st) (Zz st) (Ze st) .none kV doc pm an cdv ct) ⟨us,[]⟩=pure (ps.zip us)):Binds K fd ps []:=by obtain⟨oc,od,kV,doc,pm,an,cdv,ct,osl,rfl,lk,hcd⟩:=F.ex;exact .all (h kV doc pm an cdv ct)
theorem XN{x qual:Str}{st:Stmt}{f:Addr}{oc:Value}{od an:Option Addr}{osl:Array (Option Value)}{kV doc pm cdv ct:Value}(l:K.lookup f=some ⟨oc,od,.func (a9 x qual (Yo st) (Zz st) (Ze st) .none kV doc pm an cdv ct),osl⟩)(c:bN K cdv qual=true)(k:aJ K (.ref f)=true):Fun K x qual st f (a9 x qual (Yo st) (Zz st) (Ze st) .none kV doc pm an cdv ct):=⟨⟨oc,od,kV,doc,pm,an,cdv,ct,osl,rfl,l,c⟩,k⟩
end
theorem J4{A:aL}{k:Nat}(hr:Room k A):A.units+1<cLine:=Nat.lt_of_le_of_lt (Nat.add_le_add_left (by decide:1<=64) _) hr.units
theorem Xz{n:Nat}(h:n<=1000):n<sizeLine:=Nat.lt_of_le_of_lt h (by decide)
section
variable {X:Cx}
theorem pv(i:Nat){x:Str}{pos:Pos}(hN:X.N[i]?=some x:=by rfl)(hv:Vis X.env.scope x:=by first|exact bh rfl|exact dX (bh rfl)|exact dX (dX rfl))(hd:(x==("__debug__":Str))=false:=by decide)(hcd:(x==("__classdict__":Str))=false:=by decide):PE X (.Name x pos) (tVar i):=JB hN hv hd hcd
end
theorem iteF{A B:Prop}(h:B):if false=true then A else B:=by rw[if_neg Bool.false_ne_true];exact h
theorem iteT{A B:Prop}(h:A):if true=true then A else B:=by rw[if_pos rfl];exact h
theorem ite2{c A B:Prop}[Decidable c](h1:c->A)(h2:¬c->B):if c then A else B:=by
 by_cases h:c
 ·rw[if_pos h];exact h1 h
 ·rw[if_neg h];exact h2 h
def Same(H H':Hp):Prop:=∀b o,H b=some o->H' b=some o
theorem Same.refl(H:Hp):Same H H:=λ_ _ h=>h
theorem Same.trans{H H1 H2:Hp}(a:Same H H1)(b:Same H1 H2):Same H H2:=λc o h=>b c o (a c o h)
theorem Same.free{H H':Hp}(e:Same H H'){l:Addr}(h:H' l=Option.none):H l=Option.none:=by
 cases q:H l with
|none=>rfl
|some o=>rw[e l o q]at h;cases h
theorem Same.seq{K:af}{H H':Hp}{a:Addr}{xs:List V}(e:Same H H')(h:SqL K H a xs):SqL K H' a xs:=by
 rcases h with(h|⟨o,h⟩)|h
 ·exact .inl (.inl (e _ _ h))
 ·exact .inl (.inr ⟨o,e _ _ h⟩)
 ·exact .inr h
open PySem PySem.Spec PyProof.Rows
section
variable {κ:Type}[DecidableEq κ]
noncomputable def valV(kvs:List (κ×V))(k:κ):Option V:=(kvs.find? λkv=>decide (kv.1=k)).map (·.2)
noncomputable def putK(kvs:List (κ×V))(k:κ)(v:V):List (κ×V):=if(kvs.any λkv=>decide (kv.1=k))=true then kvs.map (λkv=>if kv.1=k then(kv.1,v)else kv)else kvs++[(k,v)]
theorem Yy{p:κ×V}{r:List (κ×V)}{k:κ}(e:p.1=k):valV (p::r) k=some p.2:=by simp[valV,cJ,e]
theorem Yz{p:κ×V}{r:List (κ×V)}{k:κ}(e:¬p.1=k):valV (p::r) k=valV r k:=by simp[valV,cJ,e]
theorem JP(k:κ):∀kvs:List (κ×V),(kvs.any λkv=>decide (kv.1=k))=(valV kvs k).isSome
|[]=>rfl
|p::r=>by
  rw[fJ];by_cases e:p.1=k
  ·simp only[Yy e,decide_eq_true e,Bool.true_or,Option.isSome_some]
  ·rw[Yz e,decide_eq_false e,Bool.false_or];exact JP k r
theorem PY(k j:κ)(y:V):∀kvs:List (κ×V),valV (kvs.map λkv=>if kv.1=k then(kv.1,y)else kv) j=(valV kvs j).map λx=>if j=k then y else x
|[]=>rfl
|p::r=>by
  have ih:=PY k j y r;rw[aI];by_cases h:p.1=k
  ·rw[if_pos h];by_cases e:p.1=j
   ·rw[Yy (p:=(p.1,y)) e,Yy e,fQ,if_pos (e.symm.trans h)]
   ·rw[Yz (p:=(p.1,y)) e,Yz e,ih]
  ·rw[if_neg h];by_cases e:p.1=j
   ·rw[Yy (p:=p) e,Yy e,fQ,if_neg (λz=>h (e.trans z))]
   ·rw[Yz (p:=p) e,Yz e,ih]
theorem Y3(k j:κ)(y:V):∀kvs:List (κ×V),valV kvs k=none->valV (kvs++[(k,y)]) j=if j=k then some y else valV kvs j
|[],_=>by
  by_cases e:k=j
  ·rw[if_pos e.symm];exact Yy (p:=(k,y)) e
  ·rw[if_neg (λz=>e z.symm)];exact Yz (p:=(k,y)) e
|p::r,hn=>by
  rw[hZ];have hk:¬p.1=k:=λz=>by rw[Yy z]at hn;cases hn
  rw[Yz hk]at hn;have ih:=Y3 k j y r hn;by_cases e:p.1=j
  ·rw[Yy e,Yy e,if_neg (λz=>hk (e.trans z))]
  ·rw[Yz e,Yz e,ih]
theorem V2(kvs:List (κ×V))(k j:κ)(y:V):valV (putK kvs k y) j=if j=k then some y else valV kvs j:=by
 unfold putK;by_cases a:(kvs.any λkv=>decide (kv.1=k))=true
 ·rw[if_pos a,PY];rw[JP]at a;by_cases e:j=k
  ·obtain⟨x,hx⟩:=dU.mp a;rw[if_pos e,e,hx,fQ,if_pos rfl]
  ·rw[if_neg e];cases valV kvs j with
  |none=>rfl
  |some x=>rw[fQ,if_neg e]
 ·rw[if_neg a];refine Y3 k j y kvs ?_;rw[JP]at a;cases q:valV kvs k with
 |none=>rfl
 |some x=>rw[q]at a;exact(a rfl).elim
theorem YH(kvs:List (κ×V))(k:κ)(v:V):(putK kvs k v).length<=kvs.length+1:=by
 unfold putK;split
 ·rw[bu];omega
 ·rw[ax,aP,List.length_nil];omega
theorem RelO.isSome_eq{o:Option V}{u:Option Value}(r:RelO o u):o.isSome=u.isSome:=by
 cases o with
|none=>cases u with
 |none=>rfl
 |some _=>exact(show False from r).elim
|some _=>cases u with
 |none=>exact(show False from r).elim
 |some _=>rfl
theorem RelO.getD{o:Option V}{u:Option Value}{d:V}{d':Value}(r:RelO o u)(rd:RelV d d'):RelV (o.getD d) (u.getD d'):=by
 cases o with
|none=>cases u with
 |none=>exact rd
 |some _=>exact(show False from r).elim
|some _=>cases u with
 |none=>exact(show False from r).elim
 |some _=>exact r
theorem KV.val{kvs:List (κ×V)}{vs:List (κ×Value)}(r:KV kvs vs)(k:κ):RelO (valV kvs k) (valueAt vs k):=by
 unfold KV at r;induction r with
|nil=>exact bD
|@cons p q ps qs h t ih=>
  obtain⟨h1,h2⟩:=h;by_cases e:p.1=k
  ·have e':q.1=k:=h1.symm.trans e;have b:valueAt (q::qs) k=some q.2:=by simp[valueAt,cJ,e']
   rw[Yy e,b];exact h2
  ·have e':¬q.1=k:=λz=>e (h1.trans z);have b:valueAt (q::qs) k=valueAt qs k:=by simp[valueAt,cJ,e']
   rw[Yz e,b];exact ih
theorem KV.any{kvs:List (κ×V)}{vs:List (κ×Value)}(r:KV kvs vs)(k:κ):(kvs.any λkv=>decide (kv.1=k))=vs.any λkv=>decide (kv.1=k):=by
 unfold KV at r;induction r with
|nil=>rfl
|cons h t ih=>rw[fJ,fJ,ih,h.1]
theorem KV.repl{kvs:List (κ×V)}{vs:List (κ×Value)}(r:KV kvs vs)(k:κ){y:V}{u:Value}(ry:RelV y u):KV (kvs.map λkv=>if kv.1=k then(kv.1,y)else kv) (vs.map λkv=>if kv.1=k then(kv.1,u)else kv):=by
 unfold KV at r ⊢;induction r with
|nil=>exact .nil
|@cons p q ps qs h t ih=>
  rw[aI,aI];refine .cons ?_ ih;obtain⟨h1,h2⟩:=h;by_cases e:p.1=k
  ·rw[if_pos e,if_pos (h1.symm.trans e)];exact⟨h1,ry⟩
  ·rw[if_neg e,if_neg (λz=>e (h1.trans z))];exact⟨h1,h2⟩
theorem KV.put{kvs:List (κ×V)}{vs:List (κ×Value)}(r:KV kvs vs)(k:κ){y:V}{u:Value}(ry:RelV y u):KV (putK kvs k y) (stored vs k u):=by
 unfold putK stored;rw[r.any k];by_cases e:(vs.any λkv=>decide (kv.1=k))=true
 ·rw[if_pos e,if_pos e];exact r.repl k ry
 ·rw[if_neg e,if_neg e];exact ft r ⟨rfl,ry⟩
theorem KV.length{kvs:List (κ×V)}{vs:List (κ×Value)}(r:KV kvs vs):kvs.length=vs.length:=bq r
end
theorem QF{P:Program}{w:World}{k:Key}{u:Value}(r:RelV (kV k) u):(Zy P w).is k u=true:=by
 cases k with
|inl i=>obtain⟨t,e⟩:=(show ∃t,u=Value.int i t from r);subst e;exact Qu P w i t
|inr x=>obtain⟨t,e⟩:=(show ∃t,u=Value.str x t from r);subst e;exact Qt P w x t
theorem Lr{a b:Key}(e:kV a=kV b):a=b:=by
 cases a with
|inl i=>cases b with
 |inl j=>have e':V.int i=V.int j:=e;injection e' with e';rw[e']
 |inr y=>exact nomatch (show V.int i=V.str y from e)
|inr x=>cases b with
 |inl j=>exact nomatch (show V.str x=V.int j from e)
 |inr y=>have e':V.str x=V.str y:=e;injection e' with e';rw[e']
theorem Tv:∀{a b:List Key},a.map kV=b.map kV->a=b
|[],[],_=>rfl
|[],_::_,e=>by simp at e
|_::_,[],e=>by simp at e
|x::xs,y::ys,e=>by rw[aI,aI]at e;injection e with e1 e2;rw[Lr e1,Tv e2]
theorem NC{P:Program}{w:World}:∀{ks:List Key}{us:List Value},Vals (ks.map kV) us->ItemsAre (Zy P w) ks us
|[],_,r=>by rw[fT]at r;cases r;exact .nil
|k::ks,_,r=>by
  rw[aI]at r;cases r with
 |cons h t=>exact .cons (QF h) (NC t)
noncomputable abbrev KT(H:Hp):List (List Key×V)->List (List Key×Addr×Value)->Prop:=cz λp q=>p.1=q.1/\H q.2.1=some (.tup (p.1.map kV))/\RelV p.2 q.2.2
theorem KT.val{H:Hp}{kvs:List (List Key×V)}{xs:List (List Key×Addr×Value)}(r:KT H kvs xs)(k:List Key):RelO (valV kvs k) ((atKey xs k).map (·.2)):=by
 induction r with
|nil=>exact bD
|@cons p q ps qs h t ih=>
  obtain⟨h1,_,h2⟩:=h;by_cases e:p.1=k
  ·have e':q.1=k:=h1.symm.trans e;have b:atKey (q::qs) k=some q.2:=by simp[atKey,cJ,e']
   rw[Yy e,b];exact h2
  ·have e':¬q.1=k:=λz=>e (h1.trans z);have b:atKey (q::qs) k=atKey qs k:=by simp[atKey,cJ,e']
   rw[Yz e,b];exact ih
theorem KT.repl{H:Hp}{kvs:List (List Key×V)}{xs:List (List Key×Addr×Value)}(r:KT H kvs xs)(k:List Key){y:V}{u:Value}(ry:RelV y u):KT H (kvs.map λkv=>if kv.1=k then(kv.1,y)else kv) (xs.map (putAt k u)):=by
 induction r with
|nil=>exact .nil
|@cons p q ps qs h t ih=>
  rw[aI,aI];refine .cons ?_ ih;obtain⟨h1,h2,h3⟩:=h;unfold putAt;by_cases e:p.1=k
  ·rw[if_pos e,if_pos (h1.symm.trans e)];exact⟨h1,h2,ry⟩
  ·rw[if_neg e,if_neg (λz=>e (h1.trans z))];exact⟨h1,h2,h3⟩
theorem KT.put{H:Hp}{kvs:List (List Key×V)}{xs:List (List Key×Addr×Value)}(r:KT H kvs xs)(k:List Key){b:Addr}{y:V}{u:Value}(hb:H b=some (.tup (k.map kV)))(ry:RelV y u):KT H (putK kvs k y) (storedH xs k b u):=by
 have e:(kvs.any λkv=>decide (kv.1=k))=(atKey xs k).isSome:=by rw[JP,(r.val k).isSome_eq,Option.isSome_map]
 unfold putK storedH;rw[e];by_cases q:(atKey xs k).isSome=true
 ·rw[if_pos q,if_pos q];exact r.repl k ry
 ·rw[if_neg q,if_neg q];exact ft r ⟨rfl,hb,ry⟩
theorem KT.keeps{H H':Hp}{kvs:List (List Key×V)}{xs:List (List Key×Addr×Value)}(r:KT H kvs xs)(ht:∀b ys,H b=some (.tup ys)->H' b=some (.tup ys)):KT H' kvs xs:=Paired.mapP r λ_ _ z=>⟨z.1,ht _ _ z.2.1,z.2.2⟩
section
variable {P:Program}{w:World}{H:Hp}{h:Heap}{a:Addr}
theorem Em{u:HO}(ok:HOk P w H h)(e:Rd H a u):ZE P w H h a u:=e.ok ok
theorem TM{kvs:List (Key×V)}(ok:HOk P w H h)(e:Rd H a (.dK kvs)):kvs.length<=sizeLine/\(a==sysModules)=false/\∃vs,KV kvs vs/\h.DictOf (Zy P w) a vs:=show ZE P w H h a (.dK kvs)from Em ok e
theorem Ez{kvs:List (Key×V)}(ok:HOk P w H h)(e:H a=some (.dK kvs)):kvs.length<=sizeLine/\(a==sysModules)=false/\∃vs,KV kvs vs/\h.DictOf (Zy P w) a vs:=TM ok (.inl e)
theorem MB{ks:List Key}(ok:HOk P w H h)(e:H a=some (.tup (ks.map kV))):(cY (Zy P w)).is h ks a:=by obtain⟨_,its,r,o,h1,h2,n,h3⟩:=(show ZE P w H h a (.tup (ks.map kV))from ok a _ e);exact⟨o,its.toArray,n,h1,h2,h3,by simpa using NC r⟩
theorem TK{kvs:List (List Key×V)}(ok:HOk P w H h)(e:Rd H a (.dT kvs)):kvs.length<=sizeLine/\(a==sysModules)=false /\∃xs,KT H kvs xs/\h.DictOfH (cY (Zy P w)) a xs:=by
 obtain⟨z,y,xs,r,o,es,ep,h1,h2,h3,h4,h5⟩:=(show ZE P w H h a (.dT kvs)from Em ok e);refine⟨z,y,xs,r,o,es,ep,h1,h2,h3,h4,λx hx=>?_,h5⟩;have all:∀{l:List (List Key×V)}{m:List (List Key×Addr×Value)},KT H l m->∀x∈m,(cY (Zy P w)).is h x.1 x.2.1:=by
  intro l m q;induction q with
 |nil=>intro x hx;exact nomatch hx
 |@cons p q ps qs hq t ih=>
   intro x hx;rcases au.mp hx with e|hx
   ·subst e;exact MB ok (by rw[<-hq.1];exact hq.2.1)
   ·exact ih x hx
 exact all r x hx
theorem LD{kvs:List (List Key×V)}(ok:HOk P w H h)(e:H a=some (.dT kvs)):kvs.length<=sizeLine/\(a==sysModules)=false /\∃xs,KT H kvs xs/\h.DictOfH (cY (Zy P w)) a xs:=TK ok (.inl e)
end
def DGet(H:Hp)(a:Addr)(y:V)(r:Option V):Prop:=(∃kvs k,Rd H a (.dK kvs)/\y=kV k/\r=valV kvs k)\/∃kvs k b,Rd H a (.dT kvs)/\y=.ref b/\H b=some (.tup (k.map kV))/\r=valV kvs k
def DPut(H:Hp)(a:Addr)(y v:V)(H':Hp):Prop:=(∃kvs k,H a=some (.dK kvs)/\y=kV k/\kvs.length<sizeLine/\H'=upd H a (.dK (putK kvs k v))) \/∃kvs k b,H a=some (.dT kvs)/\y=.ref b/\H b=some (.tup (k.map kV))/\kvs.length<sizeLine/\H'=upd H a (.dT (putK kvs k v))
theorem DGet.k{H:Hp}{a:Addr}{kvs:List (Key×V)}{k:Key}(e:H a=some (.dK kvs)):DGet H a (kV k) (valV kvs k):=.inl ⟨kvs,k,.inl e,rfl,rfl⟩
theorem DPut.k{H:Hp}{a:Addr}{kvs:List (Key×V)}{k:Key}{v:V}(e:H a=some (.dK kvs))(hl:kvs.length<sizeLine):DPut H a (kV k) v (upd H a (.dK (putK kvs k v))):=.inl ⟨kvs,k,e,rfl,hl,rfl⟩
theorem DPut.t{H:Hp}{a b:Addr}{kvs:List (List Key×V)}{k:List Key}{v:V}(e:H a=some (.dT kvs))(eb:H b=some (.tup (k.map kV)))(hl:kvs.length<sizeLine):DPut H a (.ref b) v (upd H a (.dT (putK kvs k v))):=.inr ⟨kvs,k,b,e,rfl,eb,hl,rfl⟩
section
variable {X:Cx}{pins:List (Addr×Obj)}{σ:St}{H:Hp}{s:ah}{a:Addr}{y v:V}{u r:Value}{o:Option V}{A:aL}{E:Value->ah->Prop}
theorem Inv.big(I:Inv X pins σ H s):sysModules<s.heap.objs.size:=by have h:aK<s.heap.objs.size:=(I.mod.glob.keeps I.bk).lt;exact Nat.lt_trans (by decide) h
theorem WE{Q:Value->ah->Prop}(hu:A.units+1<cLine)(I:Inv X pins σ H s)(g:DGet H a y (some v))(ry:RelV y u)(h:∀w' s',Inv X pins σ H s'->RelV v w'->Q w' s'):wpAny (model X.prog X.w) A (getItem (.ref a) u) Q E s:=by
 rcases g with⟨kvs,k,e,ey,l⟩|⟨kvs,k,b,e,ey,eb,l⟩
 ·subst ey;obtain⟨z,hd,vs,rel,dd⟩:=TM I.hok e;obtain⟨w',hw,rw'⟩:=RelO.some_of (v:=v) (o:=valueAt vs k) (by rw[l];exact rel.val k);exact wpAny_getItem_of (QF ry) dd.mapOf hw (h w' _ (I.tok _) rw')
 ·subst ey;cases(show u=Value.ref b from ry);obtain⟨z,hd,xs,rel,dd⟩:=TK I.hok e;obtain⟨w',hw,rw'⟩:=RelO.some_of (v:=v) (o:=(atKey xs k).map (·.2)) (by rw[l];exact rel.val k);obtain⟨p,hp,hp2⟩:=a_.mp hw;refine wpAny_getItem_heap (ip hu) (MB I.hok eb) dd hp ?_;rw[hp2];exact h w' _ (I.tok _) rw'
theorem d_in{Q:Value->ah->Prop}(hu:A.units+1<cLine)(I:Inv X pins σ H s)(g:DGet H a y o)(ry:RelV y u)(h:∀s',Inv X pins σ H s'->Q (.bool o.isSome) s'):wpAny (model X.prog X.w) A (bU .In u (.ref a)) Q E s:=by
 rcases g with⟨kvs,k,e,ey,l⟩|⟨kvs,k,b,e,ey,eb,l⟩
 ·subst ey;obtain⟨z,hd,vs,rel,dd⟩:=TM I.hok e;refine wpAny_in_of (QF ry) hd dd.mapOf ?_;rw[<-(rel.val k).isSome_eq,<-l];exact h _ (I.tok _)
 ·subst ey;cases(show u=Value.ref b from ry);obtain⟨z,hd,xs,rel,dd⟩:=TK I.hok e;refine wpAny_in_heap (ip hu) (MB I.hok eb) hd dd ?_;have q:=(rel.val k).isSome_eq;rw[Option.isSome_map]at q;rw[<-q,<-l];exact h _ (I.tok _)
theorem PB{h':Heap}{t':Nat}{ob:HO}(I:Inv X pins σ H s)(mu:Mut (H a))(hs:Heap.SameBut a s.heap h')(he:∃q,h'.get? a=some q)(new:ZE X.prog X.w (upd H a ob) h' a ob):Inv X pins σ (upd H a ob) {s with heap:=h',toks:=t'}:=I.write (x:=a) (e:=a) mu (.inl rfl) (λb q hb z=>(hs.2 b hb).trans z) he new
theorem FQ{P:Program}{w:World}{H':Hp}{h':Heap}{kvs:List (Key×V)}{vs:List (Key×Value)}(z:kvs.length<=sizeLine)(hd:(a==sysModules)=false)(rel:KV kvs vs)(dd:h'.DictOf (Zy P w) a vs):ZE P w H' h' a (.dK kvs):=⟨z,hd,vs,rel,dd⟩
theorem WC{H':Hp}{Q:Unit->ah->Prop}(hu:A.units+1<cLine)(I:Inv X pins σ H s)(g:DPut H a y v H')(ry:RelV y u)(rv:RelV v r)(h:∀s',Inv X pins σ H' s'->Q () s'):wpAny (model X.prog X.w) A (setItem (.ref a) u r) Q E s:=by
 rcases g with⟨kvs,k,e,ey,l,eH⟩|⟨kvs,k,b,e,ey,eb,l,eH⟩
 ·subst ey eH;obtain⟨z,hd,vs,rel,dd⟩:=Ez I.hok e;have hz:vs.length<=sizeLine:=by rw[<-rel.length];exact z
  have hl:(putK kvs k v).length<=sizeLine:=by have:=YH kvs k v;omega
  refine wpAny_setItem_pairs (hsz:=hz) (QF ry) dd λh' dd' hs=>h _ ?_;have he:∃q,h'.get? a=some q:=let ⟨q,_,_,hq,_⟩:=dd';⟨q,hq⟩
  exact PB I (by rw[e];exact bD) hs he (FQ hl hd (rel.put k rv) dd')
 ·subst ey eH;cases(show u=Value.ref b from ry);obtain⟨z,hd,xs,rel,dd⟩:=LD I.hok e;have hz:xs.length<=sizeLine:=by rw[<-bq rel];exact z
  have hl:(putK kvs k v).length<=sizeLine:=by have:=YH kvs k v;omega
  refine wpAny_setItem_heap (hsz:=hz) (ip hu) (MB I.hok eb) dd λh' dd' hs=>h _ ?_;obtain⟨q,es,ep,hq,h2,h3,h4,_,h5⟩:=dd';refine PB I (by rw[e];exact bD) hs ⟨q,hq⟩ ⟨hl,hd,_,(rel.put k eb rv).keeps λc ys ec=>?_,q,es,ep,hq,h2,h3,h4,h5⟩;rw[Zg (ne_of ec e (λz=>nomatch z))];exact ec
end
def NoSl(i:Expr):Prop:=∀ov iv,subscripted i false ov iv=operate [ov,iv] (getItem ov iv)
theorem SD{prog:Program}{w:World}{A:aL}{E:Value->ah->Prop}{s:ah}{env:Env}{value slice:Expr}{pos:Pos}{T id:String}{Q:Value->ah->Prop}(hl:ig (.type T) "__getitem__"=pure (some (.builtin id)))(hs:NoSl slice)(h:wpAny (model prog w) A (eval value env) (λo s₁=>wpAny (model prog w) A (eval slice env) (λi s₂=>s₂.TypeIs o T/\wpAny (model prog w) A (getItem o i) Q E s₂) E s₁) E s):wpAny (model prog w) A (eval (.Subscript value slice pos) env) Q E s:=by
 refine Subscript_ (cM h (λo s₁ h₁=>cM h₁ (λi s₂ h₂=>?_) λ_ _ x=>x) λ_ _ x=>x);obtain⟨hT,h₂⟩:=h₂;unfold subscriptTail;refine ae ?_;rw[getitemInPython_of_ne hT.not_modules];refine ae (gF hT hl ?_);have fin:wpAny (model prog w) A (subscripted slice false o i) (λr s₃=>wpAny (model prog w) A (letTemporaryGo value o r >>= λ_=>pure r) Q E s₃) E s₂:=by rw[hs o i];exact wpAny_operating (cM h₂ (λr s₃ h₃=>ae (wpAny_letTemporaryGo (ai h₃))) λ_ _ x=>x)
 first
 |exact ai (ae fin)
 |exact ae (ai (ae fin))
 |exact ae fin
theorem QP{X:Cx}{pins:List (Addr×Obj)}{σ:St}{H:Hp}{s:ah}{a:Addr}{y:V}{o:Option V}(I:Inv X pins σ H s)(g:DGet H a y o):s.TypeIs (.ref a) "dict":=by
 rcases g with⟨kvs,k,e,_,_⟩|⟨kvs,k,b,e,_,_,_⟩
 ·obtain⟨_,_,vs,_,dd⟩:=TM I.hok e;exact dd.typeIs
 ·obtain⟨_,_,xs,_,dd⟩:=TK I.hok e;exact dd.typeIs
def Hy(td ty:TE):TE:=λσ H Q=>td σ H λx H1=>ty σ H1 λy H2=>∃a v,x=.ref a/\DGet H2 a y (some v)/\Q v H2
def tDIn(ty td:TE):TE:=λσ H Q=>ty σ H λy H1=>td σ H1 λx H2=>∃a o,x=.ref a/\DGet H2 a y o/\Q (.bl o.isSome) H2
def HG(td ty tv:TE):TS:=λD σ H=>tv σ H λv H1=>td σ H1 λx H2=>ty σ H2 λy H3=>∃a H4,x=.ref a/\DPut H3 a y v H4/\D.nx σ H4
section
variable {X:Cx}{o i e value:Expr}{pos pos' tpos:Pos}{td ty tv:TE}
theorem DL(hu:X.A.units+1<cLine)(ho:PE X o td)(hi:PE X i ty)(hs:NoSl i):PE X (.Subscript o i pos) (Hy td ty):=by intro pins s σ H Q I h;refine SD PySem.F.slot_dict_getitem.lookup hs (thn (ho pins s σ H _ I h) λu s1⟨x,H1,I1,rx,q1⟩=>thn (hi pins s1 σ H1 _ I1 q1) λiv s2 hZ=>?_);obtain⟨y,H2,I2,ry,a,v,ex,g,q2⟩:=hZ;subst ex;obtain rfl:u=Value.ref a:=rx;exact⟨QP I2 g,WE hu I2 g ry λw' s3 I3 rw'=>⟨v,H2,I3,rw',q2⟩⟩
theorem KR(hu:X.A.units+1<cLine)(hi:PE X i ty)(ho:PE X o td):PC X .In i o (tDIn ty td):=by intro pins s σ H Q I h;refine thn (hi pins s σ H _ I h) λiv s1⟨y,H1,I1,ry,q1⟩=>thn (ho pins s1 σ H1 _ I1 q1) λu s2 hZ=>?_;obtain⟨x,H2,I2,rx,a,ov,ex,g,q2⟩:=hZ;subst ex;obtain rfl:u=Value.ref a:=rx;exact d_in hu I2 g ry λs3 I3=>⟨.bl ov.isSome,H2,I3,rfl,q2⟩
theorem Ja(hu:X.A.units+1<cLine)(ho:PE X o td)(hi:PE X i ty)(hv:PE X value tv)(hs:fG value (some (.Subscript o i pos')) pos.line X.env=pure false):PS X (.Assign [.Subscript o i pos'] value pos) (HG td ty tv):=by intro pins s σ H D I h;refine wpAny_Assign_Subscript (thn (hv pins s σ H _ I h) λr s1⟨v,H1,I1,rv,q1⟩=>thn (ho pins s1 σ H1 _ I1 q1) λu s2⟨x,H2,I2,rx,q2⟩=>thn (hi pins s2 σ H2 _ I2 q2) λiv s3 hZ=>?_) hs;obtain⟨y,H3,I3,ry,a,H4,ex,g,q3⟩:=hZ;subst ex;obtain rfl:u=Value.ref a:=rx;exact WC hu I3 g ry rv λs4 I4=>⟨σ,H4,I4,q3⟩
end
theorem LG{P:Program}{w:World}{H:Hp}(h:Heap)(hb:sysModules<h.objs.size):ZE P w H (h.push {cls:=.type "dict",data:=.dict #[]}) h.objs.size (.dK []):=⟨Nat.zero_le _,beq_eq_false_iff_ne.mpr (bw (Nat.ne_of_lt hb)),[],.nil,Heap.DictOf.new h⟩
theorem LF{P:Program}{w:World}{H:Hp}(h:Heap)(hb:sysModules<h.objs.size):ZE P w H (h.push {cls:=.type "dict",data:=.dict #[]}) h.objs.size (.dT []):=⟨Nat.zero_le _,beq_eq_false_iff_ne.mpr (bw (Nat.ne_of_lt hb)),[],.nil,_,#[],0,Heap.get?_push_size _ rfl,⟨rfl,rfl,rfl⟩,rfl,rfl,fh⟩
def EJ:TE:=λ_ H Q=>∀p,H p=none->Q (.ref p) (upd H p (.dK []))
def EI:TE:=λ_ H Q=>∀p,H p=none->Q (.ref p) (upd H p (.dT []))
section
variable {X:Cx}{pos:Pos}
theorem JV:PE X (.Dict [] [] pos) EJ:=λpins s σ H Q I h=>wpAny_Dict_empty ⟨.ref s.heap.objs.size,_,I.laid (a:=s.heap.objs.size) (o:=.dK []) (t':=s.toks) (λ_ _ q=>Heap.get?_push_of_some _ q) (Nat.le_refl _) (LG s.heap I.big),rfl,h _ (I.hok.fresh (Nat.le_refl _))⟩
theorem KQ:PE X (.Dict [] [] pos) EI:=λpins s σ H Q I h=>wpAny_Dict_empty ⟨.ref s.heap.objs.size,_,I.laid (a:=s.heap.objs.size) (o:=.dT []) (t':=s.toks) (λ_ _ q=>Heap.get?_push_of_some _ q) (Nat.le_refl _) (LF s.heap I.big),rfl,h _ (I.hok.fresh (Nat.le_refl _))⟩
end
structure M1(X:Cx)(o:Expr)(m:Str)(apos:Pos)(e:Expr)(cpos:Pos):Prop where
 base:dq o m X.env (eval o X.env)=eval o X.env
 few:((b8 cpos (aA [e] X.env)).all (λx=>!x.1)&&(d6 cpos (cU [] X.env)).all (λx=>x.1.isSome)
 &&decide (([e]:List Expr).length+([]:List gZ).length+(if([]:List gZ).isEmpty then 0 else 1)<30))=true
 line:(apos.endLine==cpos.line)=true
 trees:b8 cpos (aA [e] X.env)=[(false,eval e X.env)]
structure M2(X:Cx)(o:Expr)(m:Str)(apos:Pos)(e f:Expr)(cpos:Pos):Prop where
 base:dq o m X.env (eval o X.env)=eval o X.env
 few:((b8 cpos (aA [e,f] X.env)).all (λx=>!x.1)&&(d6 cpos (cU [] X.env)).all (λx=>x.1.isSome)
 &&decide (([e,f]:List Expr).length+([]:List gZ).length+(if([]:List gZ).isEmpty then 0 else 1)<30))=true
 line:(apos.endLine==cpos.line)=true
 trees:b8 cpos (aA [e,f] X.env)=[(false,eval e X.env),(false,eval f X.env)]
open PySem PySem.Spec PyProof.Rows
theorem VL(z:Str):gV z="str_ascii_iterator"\/gV z="str_iterator":=by
 unfold gV;split
 ·exact .inl rfl
 ·exact .inr rfl
theorem Nc{P:Program}{w:World}{A:aL}(hh:A.handled=none)(it:Addr)(x:Str)(t:Tok):Walks P w A it [it] [it] x.cps.size (SignAt x) (λi h=>h.IsStrIter it (gV x) x t i):=by
 rcases VL x with e|e
 ·rw[e];exact Walks.strAscii hh it x t
 ·rw[e];exact Walks.strWide hh it x t
noncomputable def Its(z:Str):It:=⟨λi _=>i<z.length,λi H x H'=>H'=H/\∃c,z.cps.toList[i]?=some c/\x=.str ⟨#[c]⟩,λi _=>z.length<=i⟩
theorem Kb{P:Program}{w:World}{K:af}{tg:Expr}(z:Str)(t:Tok)(it:Addr):
  Turn P w K tg (Its z) [it] it (λi h=>i<=z.length/\h.IsStrIter it (gV z) z t i) where
 mem:=by simp
 obj:=λi h st b hb=>by
  have e:b=it:=by simpa using hb
  subst e
  obtain⟨_,o,e,c,d⟩:=st
  exact⟨o,e,λv z=>by rw[d]at z;cases z⟩
 keep:=λi h h' st k=>by
  obtain⟨l,o,e,r⟩:=st
  exact⟨l,o,k it (by simp) o e,r⟩
 item:=by
  intro X hP hw hK hc i pins s σ H E I hf st hg
  subst hP hw hK
  obtain⟨f0,f1,f2,f3,f4,f5⟩:=hf it (by simp)
  have W:=Nc (P:=X.prog) (w:=X.w) (I.ok.hd hc) it z t
  refine W.item i s _ _ hg st.2 λv h' tk hv st' kk=>?_
  obtain⟨c,u,hcps,rfl⟩:=hv
  have I1:Inv X pins σ H {s with heap:=h',toks:=tk}:=I.turned (λb o hb e=>kk b o (by simpa using hb) e) f0 f1 f3 f4 f5
  obtain⟨o,e,c',d⟩:=id st'
  refine⟨_,rfl,TC (s:={s with heap:=h',toks:=tk}) e c' d ?_ ⟨.str ⟨#[c]⟩,H,I1,⟨u,rfl⟩,⟨rfl,c,by simpa using hcps,rfl⟩,⟨hg,st'⟩,λb hb=>(hf b hb).1⟩⟩
  rcases VL z with e|e<;>rw[e]<;>decide
 done:=by
  intro X hP hw hK hc i pins s σ H E I hf st hg
  subst hP hw hK
  obtain⟨f0,f1,f2,f3,f4,f5⟩:=hf it (by simp)
  have W:=Nc (P:=X.prog) (w:=X.w) (I.ok.hd hc) it z t
  obtain⟨hl,st⟩:=st
  have e:i=z.length:=Nat.le_antisymm hl hg
  subst e
  exact W.done s _ _ st λh' tk kk=>⟨rfl,I.turned (λb o hb e=>kk b o (by simpa using hb) e) f0 f1 f3 f4 f5⟩
 self:=λA i s Q E st h=>by
  obtain⟨_,st⟩:=st
  rcases VL z with e|e
  ·rw[e]at st;exact wpAny_pyIter_striter_ascii st h
  ·rw[e]at st;exact wpAny_pyIter_striter_wide st h
section
variable {X:Cx}{tg:Expr}
noncomputable def iStr(tl:TE):TI:=λσ H R=>tl σ H λx H1=>∃z,x=.str z/\R (Its z) H1
theorem E2{l:Expr}{tl:TE}(hl:PE X l tl):PI X tg l (iStr tl):=by
 intro pins s σ H R I h;refine thn (hl pins s σ H _ I h) λv s1 hZ=>?_;obtain⟨x,H1,I1,r1,q1⟩:=hZ;obtain⟨z,e,q⟩:=q1;subst e;obtain⟨t,rfl⟩:=r1;refine wpAny_pyIter_strU ?_;refine⟨s1.heap.objs.size,[s1.heap.objs.size],_,_,H1,rfl,I1.kept (t':=s1.toks) λb o e=>Heap.get?_push_of_some _ e,Kb z t _,⟨Nat.zero_le _,_,Heap.get?_push_size _ rfl,rfl,rfl⟩,λb hb=>?_,q⟩;have e:b=s1.heap.objs.size:=by simpa using hb
 subst e;exact I1.fpOk (Nat.le_refl _) (I1.hok.fresh (Nat.le_refl _))
end
theorem Js{α:Type}{n:Nat}{l:List α}(h:l.length=n+1):∃a t,l=a::t/\t.length=n:=by
 cases l with
|nil=>cases h
|cons a t=>exact⟨a,t,rfl,Nat.succ.inj h⟩
theorem len1{α:Type}{l:List α}(h:l.length=1):∃a,l=[a]:=by obtain⟨a,t,rfl,h'⟩:=Js h;exact⟨a,by rw[eJ h']⟩
theorem len2{α:Type}{l:List α}(h:l.length=2):∃a b,l=[a,b]:=by obtain⟨a,t,rfl,h'⟩:=Js h;obtain⟨b,rfl⟩:=len1 h';exact⟨a,b,rfl⟩
theorem len3{α:Type}{l:List α}(h:l.length=3):∃a b c,l=[a,b,c]:=by obtain⟨a,t,rfl,h'⟩:=Js h;obtain⟨b,c,rfl⟩:=len2 h';exact⟨a,b,c,rfl⟩
theorem len4{α:Type}{l:List α}(h:l.length=4):∃a b c d,l=[a,b,c,d]:=by obtain⟨a,t,rfl,h'⟩:=Js h;obtain⟨b,c,d,rfl⟩:=len3 h';exact⟨a,b,c,d,rfl⟩
theorem len5{α:Type}{l:List α}(h:l.length=5):∃a b c d e,l=[a,b,c,d,e]:=by obtain⟨a,t,rfl,h'⟩:=Js h;obtain⟨b,c,d,e,rfl⟩:=len4 h';exact⟨a,b,c,d,e,rfl⟩
theorem len6{α:Type}{l:List α}(h:l.length=6):∃a b c d e f,l=[a,b,c,d,e,f]:=by obtain⟨a,t,rfl,h'⟩:=Js h;obtain⟨b,c,d,e,f,rfl⟩:=len5 h';exact⟨a,b,c,d,e,f,rfl⟩
section
variable {prog:Program}{w:World}{A:aL}{R:Result->ah->Prop}{s:ah}
noncomputable abbrev NoX:Value->ah->Prop:=λ_ _=>False
theorem ED{α:Type}{M:Model}{t:Sem α}{Q:α->ah->Prop}{E:Value->ah->Prop}(h:wpAny M A t Q NoX s):wpAny M A t Q E s:=cM h (λ_ _ q=>q) λ_ _ x=>x.elim
theorem QW{elt target iter:Expr}{ifs:List Expr}{scope:Scope}{pos:Pos}{it acc:Value}{env:Env}(I:Nat->ah->Prop)
  (turn:∀n s,I n s->wpAny (model prog w) A (fq it) (λr s₁=>match r with
  |none=>R (.ok .next) s₁
  |some v=>wpAny (model prog w) A (gK target it v) (λ_ s₀=>wpAny (model prog w) A (assign target env v) (λ_ s₂=>
     wpAny (model prog w) A (forIn ifs true λc r=>if r=true then do let ok <-isTrue c env (eval c env);pure (dS ok)else pure (dS r)) (λok s₃=>
      if ok=true then wpAny (model prog w) A (eval elt env) (λx s₄=>wpAny (model prog w) A (call (.builtin "list.append") [acc,x]) (λ_ s₅=>∃m,m<n/\I m s₅) NoX s₄) NoX s₃
      else ∃m,m<n/\I m s₃) NoX s₂) NoX s₀) NoX s₁) NoX s)
  (n:Nat) (h:I n s):
  fS (model prog w) A (.compLoop (.ListComp elt [⟨target,iter,ifs,0⟩] scope pos) 0 it acc env) R s:=by
 refine codeAny_loop rfl I (λn s hI=>?_) n h
 show wpAny _ A ((compTurn (.ListComp elt [⟨target,iter,ifs,0⟩] scope pos) 0 it acc env).onRaise (λx=>do noteFrame x env;theTreesLotGoes x)) _ _ s
 refine wpAny_noted (ED ?_)
 rw[compTurn_list]
 refine ae (eU (ae (thn (turn n s hI) (λr s₁ h₁=>?_))))
 cases r with
|none=>exact ai h₁
|some v=>
  refine ae (thn h₁ λ_ s₀ h₀=>?_)
  refine ae (thn h₀ λ_ s₂ h₂=>ae (thn h₂ λok s₃ h₃=>?_))
  cases ok with
 |false=>exact ai ⟨rfl,h₃⟩
 |true=>exact ae (ae (thn h₃ λx s₄ h₄=>ae (thn h₄ λ_ s₅ h₅=>ai (ai ⟨rfl,h₅⟩))))
end
noncomputable def clGo(env:Env):List (Str×dW)->List (Str×Addr)->List (Str×Addr)
|[],cs=>cs
|(n,k)::r,cs=>clGo env r (if k==.free then(n,(env.cells.lookup n).getD 0)::cs else cs)
noncomputable def clOf(scope:Scope)(env:Env):List (Str×Addr):=clGo env scope.names []
theorem VW{env:Env}:∀(names:List (Str×dW))(cs:List (Str×Addr)),(∀x∈names,x.2=.free->∃c,env.cells.lookup x.1=some c) ->
  (forIn names cs λ(x:Str×dW)(r:List (Str×Addr))=>(match x with
  |(name,kind)=>if(kind==.free)=true then(do let c <-cellOf env name;pure (dS ((name,c)::r)))else pure (dS r):Sem (ForInStep (List (Str×Addr)))))
   = pure (clGo env names cs)
|[],cs,_=>rfl
|(n,k)::r,cs,h=>by
  rw[List.forIn_cons]
  cases hk:k==bY with
 |true=>
   obtain⟨c,hc⟩:=h (n,k) az (by simpa using hk)
   have e:cellOf env n=pure c:=by unfold cellOf;rw[show env.cells.lookup n=some c from hc]
   simp only[hk,if_true,e,clGo,pure_bind]
   rw[show env.cells.lookup n=some c from hc]
   exact VW r _ λx hx=>h x (aq _ hx)
 |false=>
   simp only[hk,Bool.false_eq_true,if_false,clGo,pure_bind]
   exact VW r _ λx hx=>h x (aq _ hx)
theorem RQ{scope:Scope}{env:Env}(h:∀x∈scope.names,x.2=.free->∃c,env.cells.lookup x.1=some c):closureFor scope env=pure (clOf scope env):=by have e:=VW (env:=env) scope.names [] h;unfold closureFor clOf;rw[<-e];simp only[bind_pure]
theorem Vr{env:Env}{x:Str}:∀(names:List (Str×dW))(cs:List (Str×Addr)),(∀y∈names,y.2=.free->∃c,env.cells.lookup y.1=some c)->(∀c,cs.lookup x=some c->env.cells.lookup x=some c) ->(∀c,(clGo env names cs).lookup x=some c->env.cells.lookup x=some c)/\(((x,bY)∈names\/(cs.lookup x).isSome=true)->((clGo env names cs).lookup x).isSome=true)
|[],cs,_,h=>⟨h,λz=>z.elim (λz=>absurd z (by simp)) id⟩
|(n,k)::r,cs,hf,h=>by
  have hr:∀y∈r,y.2=bY->∃c,env.cells.lookup y.1=some c:=λy hy=>hf y (aq _ hy);show(∀c,(clGo env r (if k==.free then(n,(env.cells.lookup n).getD 0)::cs else cs)).lookup x=some c->_)/\(_->((clGo env r (if k==.free then(n,(env.cells.lookup n).getD 0)::cs else cs)).lookup x).isSome=true);cases hk:k==bY with
 |true=>
   obtain⟨c0,hc0⟩:=hf (n,k) az (by simpa using hk);have hc0':env.cells.lookup n=some c0:=hc0;simp only[if_true,hc0',Option.getD_some];have h2:∀c,((n,c0)::cs).lookup x=some c->env.cells.lookup x=some c:=λc q=>by
    rw[di]at q;cases hx:x==n with
   |true=>
     rw[hx]at q;have e:x=n:=by simpa using hx
     subst e;cases q;exact hc0'
   |false=>rw[hx]at q;exact h c q
   obtain⟨a,b⟩:=Vr r ((n,c0)::cs) hr h2;refine⟨a,λz=>b ?_⟩;by_cases hx:x=n
   ·right;subst hx;simp
   ·rcases z with z|z
    ·rcases au.mp z with e|z
     ·exact absurd (congrArg Prod.fst e) hx
     ·exact .inl z
    ·right;have:(x==n)=false:=by simpa using hx
     rw[di,this];exact z
 |false=>
   simp only[Bool.false_eq_true,if_false];obtain⟨a,b⟩:=Vr r cs hr h;refine⟨a,λz=>b ?_⟩;rcases z with z|z
   ·rcases au.mp z with e|z
    ·have:k=.free:=(congrArg Prod.snd e).symm;rw[this]at hk;exact absurd hk (by decide)
    ·exact .inl z
   ·exact .inr z
structure CompScope(scope sc:Scope):Prop where
 kind:scope.kind=.function
 nocell:∀y∈scope.names,y.2≠.cell
 loc:∀y∈scope.names,y.2=.local->scope.names.lookup y.1=some .local
 free:∀y∈scope.names,y.2=.free->sc.names.lookup y.1=some .cell\/sc.names.lookup y.1=some .free
theorem V8{scope:Scope}{env:Env}{x:Str}(nc:∀y∈scope.names,y.2≠.cell):∀{k:dW},(relabel scope env).names.lookup x=some k->(k=.cell\/k=.free)->(x,bY)∈scope.names:=by
 have go:∀(names:List (Str×dW)),(∀y∈names,y.2≠fg)->∀{k:dW},(names.map λ(n,k)=>if(k==bY&&env.scope.kind==.function&&env.kindOf n==some .cell)then(n,fg)else(n,k)).lookup x=some k->(k=.cell\/k=.free)->(x,bY)∈names:=by
  intro names;induction names with
 |nil=>intro _ k h _;simp at h
 |cons y r ih=>
   intro hn k h hk;obtain⟨n,k'⟩:=y;have hn':∀y∈r,y.2≠fg:=λy hy=>hn y (aq _ hy);have hk':k'≠fg:=hn (n,k') az;rw[aI]at h;by_cases hc:(k'==bY&&env.scope.kind==.function&&env.kindOf n==some .cell)=true
   ·simp only[hc,if_true]at h;rw[di]at h;cases hx:x==n with
   |true=>
     have e:x=n:=by simpa using hx
     have e2:k'=.free:=by simp only[Bool.and_eq_true]at hc;simpa using hc.1.1
     subst e e2;exact az
   |false=>rw[hx]at h;exact aq _ (ih hn' h hk)
   ·simp only[hc]at h;simp only[if_false,Bool.false_eq_true]at h;rw[di]at h;cases hx:x==n with
   |true=>
     rw[hx]at h;cases h;have e:x=n:=by simpa using hx
     subst e;rcases hk with e|e
     ·exact absurd e hk'
     ·rw[e];exact az
   |false=>rw[hx]at h;exact aq _ (ih hn' h hk)
 intro k h hk;exact go scope.names nc h hk
theorem M9{scope:Scope}{env:Env}{x:Str}:(relabel scope env).names.lookup x=some .local->scope.names.lookup x=some .local:=by
 have go:∀(names:List (Str×dW)),(names.map λ(n,k)=>if(k==bY&&env.scope.kind==.function&&env.kindOf n==some .cell)then(n,fg)else(n,k)).lookup x=some .local->names.lookup x=some .local:=by
  intro names;induction names with
 |nil=>intro h;simp at h
 |cons y r ih=>
   intro h;obtain⟨n,k'⟩:=y;rw[aI]at h;rw[di];by_cases hc:(k'==bY&&env.scope.kind==.function&&env.kindOf n==some .cell)=true
   ·simp only[hc,if_true]at h;rw[di]at h;cases hx:x==n with
   |true=>rw[hx]at h;cases h
   |false=>rw[hx]at h;exact ih h
   ·simp only[hc]at h;simp only[if_false,Bool.false_eq_true]at h;rw[di]at h;cases hx:x==n with
   |true=>rw[hx]at h;exact h
   |false=>rw[hx]at h;exact ih h
 exact go scope.names
noncomputable def XO(X:Cx)(scope:Scope)(N:List Str)(C:Addr)(s:ah)(H:Hp)(ex:List Addr)(pn:List (Addr×Obj)):Cx where
 prog:=X.prog
 w:=X.w
 K:=X.K
 mg:=X.mg
 base:=X.base
 A:=X.A
 N:=N
 s₀:=s
 H₀:=H
 env:=compEnvC scope (clOf scope X.env) C X.env
 outer:=X.stack
 stack:=X.stack
 ex:=ex
 calm:=X.calm
 fn:=λ_=>false
 pn:=pn
 xe:=NoX
noncomputable def inner(cp:List (Option Nat))(σ:St):St:=cp.map λo=>o.bind λj=>(σ[j]?).join
structure CompNames(N0:List Str)(scope:Scope)(N:List Str)(cp:List (Option Nat)):Prop where
 len:cp.length=N.length
 at_:∀(i j:Nat)(x:Str),cp[i]?=some (some j)->N[i]?=some x->N0[j]?=some x/\scope.names.lookup x=some .free
noncomputable def namesOk(N0:List Str)(scope:Scope)(N:List Str)(cp:List (Option Nat)):Bool:=(cp.length==N.length)&&(aT cp.length).all λi=>match cp[i]?,N[i]? with
 |some (some j),some x=>N0[j]?==some x&&scope.names.lookup x==some .free
 |_,_=>true
theorem CompNames.mk'{N0:List Str}{scope:Scope}{N:List Str}{cp:List (Option Nat)}(h:namesOk N0 scope N cp=true):CompNames N0 scope N cp:=by unfold namesOk at h;rw[Bool.and_eq_true,bV]at h;refine⟨by simpa using h.1,λi j x h1 h2=>?_⟩;have hi:i<cp.length:=(aw.mp h1).1;have q:=h.2 i (cA.mpr hi);rw[h1,h2]at q;simpa using q
section
variable {X:Cx}{pins:List (Addr×Obj)}{σ:St}{H:Hp}{s:ah}
theorem QX{scope:Scope}(I:Inv X pins σ H s)(S:CompScope scope X.env.scope):∀y∈scope.names,y.2=.free->∃c,X.env.cells.lookup y.1=some c:=λy hy e=>I.ok.has y.1 (S.free y hy e)
theorem Lv{scope:Scope}{N:List Str}{cp:List (Option Nat)}{fp:List Addr}{od:Obj}{h4:Heap}{tk:Nat}(S:CompScope scope X.env.scope)(CN:CompNames X.N scope N cp)(I:Inv X pins σ H s)(hfp:∀b∈fp,FpOk X pins H b)(hfo:∀b∈fp,∃o,s.heap.get? b=some o)(hod:∀v,od.data≠.cell v)(hns:h4.Ns (s.heap.push od).objs.size (λx=>([]:List (Str×Value)).reverse.lookup x))(hk:∀b o,(s.heap.push od).get? b=some o->h4.get? b=some o)(hfr:od.isFreed=false):Inv (XO X scope N (s.heap.push od).objs.size {s with heap:=s.heap.push od} H (s.heap.objs.size::fp) (X.pn++pins)) [(s.heap.objs.size,od)] (inner cp σ) H {s with heap:=h4,toks:=tk}:=by
 have cl:=QX I S;have look:∀x c,(clOf scope X.env).lookup x=some c->X.env.cells.lookup x=some c:=λx=>(Vr scope.names [] cl (λc q=>by simp at q)).1;have hasc:∀x,(x,bY)∈scope.names->∃c,(clOf scope X.env).lookup x=some c:=λx hx=>
  dU.mp ((Vr scope.names [] cl (λc q=>by simp at q)).2 (.inl hx));have kp:∀b o,s.heap.get? b=some o->(s.heap.push od).get? b=some o:=λb o e=>Heap.get?_push_of_some _ e;have kp4:∀b o,s.heap.get? b=some o->h4.get? b=some o:=λb o e=>hk b o (kp b o e);have hz:(s.heap.push od).objs.size=s.heap.objs.size+1:=Heap.size_push ..;have I3:Inv X pins σ H {s with heap:=s.heap.push od}:=I.kept (t':=s.toks) kp;have hD:H s.heap.objs.size=none:=I.hok.fresh (Nat.le_refl _);have hC:H (s.heap.push od).objs.size=none:=I3.hok.fresh (Nat.le_refl _);have hDo:h4.get? s.heap.objs.size=some od:=hk _ _ (Heap.get?_push_size _ hfr);have stk:∀b∈frs X.stack,b<s.heap.objs.size:=λb hb=>by
  rcases au.mp (I.stkSub b hb)with e|e
  ·rw[e];exact I.lt
  ·exact Nat.lt_of_not_le λz=>I.nofs z e
 have fpn:∀b∈fp,b∉frs X.stack:=λb hb hs=>by
  obtain⟨_,g1,g2,_⟩:=hfp b hb;rcases au.mp (I.stkSub b hs)with e|e
  ·exact g1 e
  ·exact g2 e
 have fplt:∀b∈fp,b<s.heap.objs.size:=λb hb=>let ⟨o,e⟩:=hfo b hb;Heap.lt_size e
 refine⟨⟨I.ok.mod,S.kind,I.ok.glob,I.ok.blt,Nat.le_refl _,λx y c h1 h2=>I.ok.inj x y c (look x c h1) (look y c h2),λx hx=>?_,λx c hf _=>(by cases hf),I.ok.hd,I.ok.frames,.inl rfl,λb hb=>?_,I3.bs,Nat.le_trans I.ok.bsz I3.sz,λb o e hb=>?_,λb hb=>?_,I3.stack,I3.stkFree⟩,rfl,I.bare,Un.kept hk,⟨_,hns,λi x v h1 h2 h3=>?_⟩,λx c hx=>?_,hC,λx c hx=>I.freeC x c (look x c hx),λp hp=>?_,I.hok.kept kp4,?_⟩
 ·have hx':(relabel scope X.env).names.lookup x=some .cell\/(relabel scope X.env).names.lookup x=some .free:=hx;rcases hx' with e|e
  ·exact hasc x (V8 S.nocell e (.inl rfl))
  ·exact hasc x (V8 S.nocell e (.inr rfl))
 ·show b≠(s.heap.push od).objs.size/\∀x c,(clOf scope X.env).lookup x=some c->c≠b;rcases au.mp hb with e|hb
  ·subst e;refine⟨by rw[hz];exact Nat.ne_of_lt (Nat.lt_succ_self _),λx c hx z=>?_⟩;obtain⟨v,q⟩:=I.cell x c (look x c hx);exact absurd q.lt (by rw[z];exact Nat.lt_irrefl _)
  ·exact⟨by rw[hz];exact Nat.ne_of_lt (Nat.lt_succ_of_lt (fplt b hb)),λx c hx=>(hfp b hb).2.2.2.2.1 x c (look x c hx)⟩
 ·rcases au.mp hb with z|hb
  ·subst z;have h1:=Heap.lt_size (I.bk _ _ e);exact Nat.lt_irrefl _ h1
  ·obtain⟨_,_,_,g3,_⟩:=hfp b hb;rcases g3 with g3|g3
   ·exact I.ok.noex b o e g3
   ·have h1:=Heap.lt_size e;have h2:=I.ok.bsz;exact absurd (Nat.lt_of_lt_of_le h1 (Nat.le_trans h2 g3)) (Nat.lt_irrefl _)
 ·show b∉frs X.stack;rcases au.mp hb with z|hb
  ·subst z;exact λz=>Nat.lt_irrefl _ (stk _ z)
  ·exact fpn b hb
 ·have h2':(inner cp σ)[i]?=some (some v):=h2;unfold inner at h2';rw[aD]at h2';cases hc:cp[i]? with
 |none=>rw[hc]at h2';cases h2'
 |some oj=>
   rw[hc]at h2';cases oj with
  |none=>have:(none:Option V)=some v:=ao h2';cases this
  |some j=>
    have h2'':(σ[j]?).join=some v:=ao h2';have hσ:σ[j]?=some (some v):=by
     cases q:σ[j]? with
    |none=>rw[q]at h2'';cases h2''
    |some o=>rw[q]at h2'';exact congrArg some h2''
    obtain⟨hN,hlook⟩:=CN.at_ i j x hc h1;have hfree:(x,bY)∈scope.names:=df hlook;have hk2:=S.free _ hfree rfl;obtain⟨m,hn,hl⟩:=I.loc;have hvis:Vis X.env.scope x:=hk2.elim (λz=>.inr (.inl z)) λz=>.inr (.inr z);obtain⟨u,ru,lk⟩:=hl j x v hN hσ hvis;refine⟨u,ru,?_⟩;rcases lk with⟨z,_⟩|⟨_,c,hcl,cc⟩
    ·rcases hk2 with q|q<;>(have z':=z.symm.trans q;cases z')
    ·obtain⟨c2,hc2⟩:=hasc x hfree;have hcc:c2=c:=by have:=(look x c2 hc2).symm.trans hcl;exact ao this
     subst hcc;obtain⟨o,ho,hd⟩:=cc;refine .inr ⟨?_,c2,hc2,⟨o,kp4 _ _ ho,hd⟩⟩;rcases h3 with q|q|q
     ·have q':=(M9 q).symm.trans hlook;cases q'
     ·exact .inl q
     ·exact .inr q
 ·obtain⟨v,o,ho,hd⟩:=I.cell x c (look x c hx);exact⟨v,o,kp4 _ _ ho,hd⟩
 ·have hp':p∈(X.pn++pins)++[(s.heap.objs.size,od)]:=hp;rcases aN.mp hp' with hp1|hp1
  ·obtain⟨e,n,ne,nf,d⟩:=I.pin p hp1;have hlt:=Heap.lt_size e;refine⟨kp4 _ _ e,n,by show p.1≠(s.heap.push od).objs.size;rw[hz];exact Nat.ne_of_lt (Nat.lt_succ_of_lt hlt),λhb=>?_,d⟩;rcases au.mp (I.stkSub _ hb)with z|z
   ·exact ne z
   ·exact nf z
  ·have e:p=(s.heap.objs.size,od):=by simpa using hp1
   subst e;exact⟨hDo,hD,by show s.heap.objs.size≠(s.heap.push od).objs.size;rw[hz];exact Nat.ne_of_lt (Nat.lt_succ_self _),λz=>Nat.lt_irrefl _ (stk _ z),hod⟩
 ·show(inner cp σ).length=N.length;unfold inner;rw[bu];exact CN.len
end
noncomputable def ZR(its:List Value)(k:Nat):Obj:={cls:=.type "list",data:=.seq its.toArray k}
theorem GQ{its:List Value}{k:Nat}:∀v,(ZR its k).data≠.cell v:=λv z=>by have z':Data.seq its.toArray k=Data.cell v:=z;cases z'
section
variable {X:Cx}
def PTs(X:Cx)(ifs:List Expr)(t:TT):Prop:=
 ∀(pins:List (Addr×Obj))(s:ah)(σ:St)(H:Hp)(Q:Bool->Hp->Prop),Inv X pins σ H s->t σ H Q ->
  wpAny (model X.prog X.w) X.A (forIn ifs true λc r=>if r=true then do let ok <-isTrue c X.env (eval c X.env);pure (dS ok)else pure (dS r)) (TP X pins σ Q) X.xe s
def tYes:TT:=λ_ H Q=>Q true H
theorem Z9:PTs X [] tYes:=λ_ _ _ H _ I h=>wpAny_tests_nil ⟨H,I,h⟩
theorem G5{c:Expr}{t:TT}(h:PT X c t):PTs X [c] t:=λpins s σ H Q I hw=>wpAny_tests_one (h pins s σ H Q I hw)
def Kf(cp:List (Option Nat))(wi:TI)(g:TG)(tc:TT)(te:TE):TE:=λσ H Q=>wi σ H λJ H1=>∃W:Nat->Nat->List V->St->Hp->Prop,(∃m,W 0 m [] (inner cp σ) H1)/\∀i m ys τ H,W i m ys τ H ->(J.stop i H/\∀l,H l=none->Q (.ref l) (upd H l (.lst ys))) \/(J.go i H/\ys.length<sizeLine/\∃N:List V->St->Hp->Prop,(∀ys' τ' H',N ys' τ' H'->∃m',m'<m/\W (i+1) m' ys' τ' H') /\∀x H',J.yld i H x H'->g x τ H' λτ2 H2=>tc τ2 H2 λb H3=>if b=true then te τ2 H3 λy H4=>N (ys++[y]) τ2 H4 else N ys τ2 H3)
theorem Ma{J:It}{g:TG}{tc:TT}{te:TE}{τ0:St}{H0:Hp}{R:List V->Hp->Prop}(n:Nat)(hn:n<=sizeLine)(Pv:Nat->List V->St->Hp->Prop)(h0:Pv 0 [] τ0 H0)(hl:∀i ys τ H,Pv i ys τ H->ys.length<=i)(hgo:∀i ys τ H,i<n->Pv i ys τ H->J.go i H)(hstop:∀ys τ H,Pv n ys τ H->J.stop n H)(hs:∀i ys τ H x H',i<n->Pv i ys τ H->J.yld i H x H'->g x τ H' λτ2 H2=>tc τ2 H2 λb H3=>if b=true then te τ2 H3 λy H4=>Pv (i+1) (ys++[y]) τ2 H4 else Pv (i+1) ys τ2 H3)(hd:∀ys τ H,Pv n ys τ H->R ys H):∃W:Nat->Nat->List V->St->Hp->Prop,(∃m,W 0 m [] τ0 H0)/\∀i m ys τ H,W i m ys τ H ->(J.stop i H/\R ys H) \/(J.go i H/\ys.length<sizeLine/\∃N:List V->St->Hp->Prop,(∀ys' τ' H',N ys' τ' H'->∃m',m'<m/\W (i+1) m' ys' τ' H') /\∀x H',J.yld i H x H'->g x τ H' λτ2 H2=>tc τ2 H2 λb H3=>if b=true then te τ2 H3 λy H4=>N (ys++[y]) τ2 H4 else N ys τ2 H3):=by
 refine⟨λi m ys τ H=>m=n-i/\i<=n/\Pv i ys τ H,⟨n,rfl,Nat.zero_le _,h0⟩,?_⟩;rintro i m ys τ H ⟨rfl,hi,p⟩;by_cases hlt:i<n
 ·refine .inr ⟨hgo i ys τ H hlt p,?_,Pv (i+1),λys' τ' H' p'=>⟨n-(i+1),by omega,rfl,hlt,p'⟩,λx H' y=>hs i ys τ H x H' hlt p y⟩;have:=hl i ys τ H p;omega
 ·have e:i=n:=by omega
  subst e;exact .inl ⟨hstop ys τ H p,hd ys τ H p⟩
theorem ZY{J:It}{g:TG}{te:TE}{τ0:St}{H0:Hp}{R:List V->Hp->Prop}(n:Nat)(hn:n<=sizeLine)(Pv:Nat->List V->St->Hp->Prop)(h0:Pv 0 [] τ0 H0)(hl:∀i ys τ H,Pv i ys τ H->ys.length<=i)(hgo:∀i ys τ H,i<n->Pv i ys τ H->J.go i H)(hstop:∀ys τ H,Pv n ys τ H->J.stop n H)(hs:∀i ys τ H x H',i<n->Pv i ys τ H->J.yld i H x H'->g x τ H' λτ2 H2=>te τ2 H2 λy H4=>Pv (i+1) (ys++[y]) τ2 H4)(hd:∀ys τ H,Pv n ys τ H->R ys H):∃W:Nat->Nat->List V->St->Hp->Prop,(∃m,W 0 m [] τ0 H0)/\∀i m ys τ H,W i m ys τ H ->(J.stop i H/\R ys H) \/(J.go i H/\ys.length<sizeLine/\∃N:List V->St->Hp->Prop,(∀ys' τ' H',N ys' τ' H'->∃m',m'<m/\W (i+1) m' ys' τ' H') /\∀x H',J.yld i H x H'->g x τ H' λτ2 H2=>tYes τ2 H2 λb H3=>if b=true then te τ2 H3 λy H4=>N (ys++[y]) τ2 H4 else N ys τ2 H3):=Ma (J:=J) (g:=g) (tc:=tYes) (te:=te) n hn Pv h0 hl hgo hstop hs hd
theorem NO{use:Option (Value->Sem Unit)}{R:Value->ah->Prop}{elt iter tg:Expr}{ifs:List Expr}{scope:Scope}{pos pos2:Pos}{N:List Str}{cp:List (Option Nat)}{wi:TI}{g:TG}{tc:TT}{te:TE}{Q:VK}{pins:List (Addr×Obj)}{s:ah}{σ:St}{H:Hp}(hc:X.calm=true)(hS:CompScope scope X.env.scope)(hN:CompNames X.N scope N cp)(hi:PI X tg iter wi)(hg:∀C s H ex pn,PG (XO X scope N C s H ex pn) tg g)(ht:∀C s H ex pn,PTs (XO X scope N C s H ex pn) ifs tc)(he:∀C s H ex pn,PE (XO X scope N C s H ex pn) elt te)(hs:∀x,fU iter X.env x=pure x)(I:Inv X pins σ H s)(h:Kf cp wi g tc te σ H Q)(out:∀(D C:Addr)(H5:Hp)(s4:ah)(m:Str->Option Value),Inv X pins σ H5 s4->s4.heap.Ns C m->C≠X.env.locals->(∀y c,X.env.cells.lookup y=some c->c≠C)->H5 C=none->X.s₀.heap.objs.size<=C->(∀p∈X.pn++pins,p.1≠C)->Q (.ref D) H5->compPost (model X.prog X.w) X.A X.xe use R (.ref D) C (.ok .next) s4):wpAny (model X.prog X.w) X.A (comprehension (.ListComp elt [⟨tg,iter,ifs,0⟩] scope pos) scope X.env pos2 (newList []) false (eval iter X.env) use) R X.xe s:=by
 refine wpAny_comprehension_free (use:=use) (cl:=clOf scope X.env) rfl hs (RQ (QX I hS)) hS.kind hS.loc (thn (hi pins s σ H _ I h) λv s1 h1=>thn h1 λitv s2 h2=>?_);obtain⟨it,fp,tn,J,H2,rfl,I2,T,st2,f2,W,⟨m0,w0⟩,turn⟩:=h2;refine bt (wpAny_newFunctionEnv hS.nocell (by intro y hy;simp at hy) (λh4 hns hsb=>?_) hS.kind);dsimp only at hns hsb ⊢;have hz:(s2.heap.push (ZR [] 0)).objs.size=s2.heap.objs.size+1:=Heap.size_push ..;have hk4:∀b o,(s2.heap.push (ZR [] 0)).get? b=some o->h4.get? b=some o:=λb o e=>hsb.extBut b o (Nat.ne_of_lt (Heap.lt_size e)) (Heap.get?_push_of_some _ e);have hfo:∀b∈fp,∃o,s2.heap.get? b=some o:=λb hb=>let ⟨o,e,_⟩:=T.obj _ _ st2 b hb;⟨o,e⟩
 have fplt:∀b∈fp,b<s2.heap.objs.size:=λb hb=>let ⟨o,e⟩:=hfo b hb;Heap.lt_size e
 generalize hXc:XO X scope N (s2.heap.push (ZR [] 0)).objs.size {s2 with heap:=s2.heap.push (ZR [] 0)} H2 (s2.heap.objs.size::fp) (X.pn++pins)=Xc;have J0:∀tk,Inv Xc [(s2.heap.objs.size,ZR [] 0)] (inner cp σ) H2 {s2 with heap:=h4,toks:=tk}:=λtk=>by rw[<-hXc];exact Lv hS hN I2 f2 hfo GQ hns hk4 rfl
 have hg':PG Xc tg g:=hXc▸hg _ _ _ _ _;have ht':PTs Xc ifs tc:=hXc▸ht _ _ _ _ _;have he':PE Xc elt te:=hXc▸he _ _ _ _ _;have eP:Xc.prog=X.prog:=by rw[<-hXc];rfl
 have eW:Xc.w=X.w:=by rw[<-hXc];rfl
 have eK:Xc.K=X.K:=by rw[<-hXc];rfl
 have eA:Xc.A=X.A:=by rw[<-hXc];rfl
 have eC:Xc.calm=true:=by rw[<-hXc];exact hc
 have eX:Xc.xe=NoX:=by rw[<-hXc];rfl
 have eE:Xc.env=compEnvC scope (clOf scope X.env) (s2.heap.push (ZR [] 0)).objs.size X.env:=by rw[<-hXc];rfl
 have eL:Xc.env.locals=(s2.heap.push (ZR [] 0)).objs.size:=by rw[eE];rfl
 have eFs:Xc.fs=frs X.stack:=by rw[<-hXc];rfl
 have eEx:Xc.ex=s2.heap.objs.size::fp:=by rw[<-hXc];rfl
 have eH0:Xc.H₀=H2:=by rw[<-hXc];rfl
 have eS0:Xc.s₀={s2 with heap:=s2.heap.push (ZR [] 0)}:=by rw[<-hXc];rfl
 have ePn:Xc.pn=X.pn++pins:=by rw[<-hXc];rfl
 have stk:∀b∈frs X.stack,b<s2.heap.objs.size:=λb hb=>by
  rcases au.mp (I2.stkSub b hb)with e|e
  ·rw[e];exact I2.lt
  ·exact Nat.lt_of_not_le λz=>I2.nofs z e
 have hDne:s2.heap.objs.size≠Xc.env.locals:=by rw[eL,hz];exact Nat.ne_of_lt (Nat.lt_succ_self _)
 have hDfs:s2.heap.objs.size∉Xc.fs:=by rw[eFs];exact λz=>Nat.lt_irrefl _ (stk _ z)
 have hDp:∀p∈Xc.pn,p.1≠s2.heap.objs.size:=λp hp=>by rw[ePn]at hp;exact Nat.ne_of_lt (Heap.lt_size (I2.pin p hp).1)
 have hDc:∀{τ:St}{H':Hp}{s':ah}{ps:List (Addr×Obj)},Inv Xc ps τ H' s'->∀x c,Xc.env.cells.lookup x=some c->c≠s2.heap.objs.size:=λI' x c e=>(I'.ok.exf _ (by rw[eEx];exact az)).2 x c e;have stat:∀{τ:St}{H':Hp}{s':ah}{ps:List (Addr×Obj)}{o:Obj},Inv Xc ps τ H' s'->(∀b∈fp,H' b=none)->∀b∈fp,FpOk Xc [(s2.heap.objs.size,o)] H' b:=λI' hn b hb=>by
  have q:=I'.ok.exf b (by rw[eEx];exact aq _ hb);refine⟨hn b hb,q.1,I'.ok.exfs b (by rw[eEx];exact aq _ hb),.inl (by rw[eEx];exact aq _ hb),q.2,λp hp=>?_⟩;rcases aN.mp hp with hp|hp
  ·rw[ePn]at hp;exact(f2 b hb).2.2.2.2.2 p hp
  ·have e:p.1=s2.heap.objs.size:=by rw[aU]at hp;rw[hp]
   rw[e];exact Nat.ne_of_gt (fplt b hb)
 have run:∀s5:ah,(∃tk,s5={s2 with heap:=h4,toks:=tk})->fS (model X.prog X.w) X.A (.compLoop (.ListComp elt [⟨tg,iter,ifs,0⟩] scope pos) 0 (.ref it) (.ref s2.heap.objs.size) Xc.env) (compPost (model X.prog X.w) X.A X.xe use R (.ref s2.heap.objs.size) (s2.heap.push (ZR [] 0)).objs.size) s5:=by
  rintro s5 ⟨tk,rfl⟩;refine QW (λn s'=>∃i ys τ H' its k,Inv Xc [(s2.heap.objs.size,ZR its k)] τ H' s'/\Vals ys its/\tn i s'.heap/\(∀b∈fp,H' b=none)/\W i n ys τ H'/\ys.length<=sizeLine) ?_ m0 ⟨0,[],inner cp σ,H2,[],0,J0 tk,.nil,T.keep _ _ _ st2 λb hb o e=>hk4 b o (Heap.get?_push_of_some _ e),λb hb=>(f2 b hb).1,w0,Nat.zero_le _⟩;rintro n s3 ⟨i,ys,τ,H3,its,k,I3,rv,st3,fr3,w3,hl3⟩;rcases turn i n ys τ H3 w3 with⟨stop,qn⟩|⟨go,hl,Nw,hNw,step⟩
  ·have dn:=T.done Xc eP eW eK eC i _ s3 τ H3 NoX I3 (stat I3 fr3) st3 stop;rw[eA]at dn;refine thn dn λr s4⟨hr,I4⟩=>?_;subst hr;obtain⟨m,hn,_⟩:=id I4.loc;rw[eL]at hn;have hs':Heap.SameBut (s2.heap.push (ZR [] 0)).objs.size s4.heap s4.heap:=Heap.SameBut.refl ..;obtain⟨eD,nD,_⟩:=I4.pin (s2.heap.objs.size,ZR its k) (aZ _ az);have u4:=I4.base;rw[eFs,eEx,eH0,eS0]at u4;have hD2:H2 s2.heap.objs.size=none:=I2.hok.fresh (Nat.le_refl _);have hfree:=I4.free;rw[eL]at hfree;have kp:∀b o,s2.heap.get? b=some o->(s2.heap.push (ZR [] 0)).get? b=some o:=λb o e=>Heap.get?_push_of_some _ e;have nD':∀b o,s2.heap.get? b=some o->b≠s2.heap.objs.size:=λb o e=>Nat.ne_of_lt (Heap.lt_size e);have nC':∀b o,s2.heap.get? b=some o->b≠(s2.heap.push (ZR [] 0)).objs.size:=λb o e=>by rw[hz];exact Nat.ne_of_lt (Nat.lt_succ_of_lt (Heap.lt_size e))
   have nex:∀b o,s2.heap.get? b=some o->b∉fp->b∉s2.heap.objs.size::fp:=λb o e hb z=>(au.mp z).elim (nD' b o e) hb;have I5:Inv X pins σ (upd H3 s2.heap.objs.size (.lst ys)) s4:=by
    refine I2.call' (s':=s4) (ch:=fp) ?_ ⟨λb o e n hb hx=>?_,λb o e n hb hx=>?_,λb o e n hx=>?_,λb o e hx=>?_,λb xs q=>?_,λb o u q=>?_,λb ps q=>?_⟩ ?_ I4.bare λb hb=>?_
    ·have:=I4.os;rw[eS0]at this;exact this
    ·exact(hs'.2 b (nC' b o e)).trans (u4.keep b o (kp b o e) n hb (nex b o e hx))
    ·obtain⟨sl,q⟩:=u4.slot b o (kp b o e) n hb (nex b o e hx);exact⟨sl,(hs'.2 b (nC' b o e)).trans q⟩
    ·rw[Zg (nD' b o e)];exact u4.free b o (kp b o e) n (nex b o e hx)
    ·obtain⟨o',q⟩:=u4.there b o (kp b o e) (nex b o e hx);exact⟨o',(hs'.2 b (nC' b o e)).trans q⟩
    ·rw[Zg (Zf q hD2)];exact u4.tups b xs q
    ·rw[Zg (Zf q hD2)];exact u4.frzs b o u q
    ·rw[Zg (Zf q hD2)];exact u4.tbls b ps q
    ·intro b ob q;have keepC:∀c v,H3 c≠none->s4.heap.get? c=some v->s4.heap.get? c=some v:=λc v hc q=>(hs'.2 c (λz=>hc (by rw[z];exact hfree))).trans q;by_cases hb:b=s2.heap.objs.size
     ·subst hb;rw[Zb]at q;cases q;exact⟨hl3,its,k,rv,(hs'.2 _ (by rw[hz];exact Nat.ne_of_lt (Nat.lt_succ_self _))).trans eD⟩
     ·rw[Zg hb]at q;have ok4:ZE X.prog X.w H3 s4.heap b ob:=by have:=I4.hok b ob q;rw[eP,eW]at this;exact this
      refine ok4.stay (λc v hc' q'=>keepC c v ?_ q') (λc q'=>by rw[Zg (Zf q' nD)];exact q') λc xs q'=>by rw[Zg (Zf q' nD)];exact q'
      rcases hc' with rfl|hc'
      ·rw[q];simp
      ·rw[hc'];simp
    ·obtain⟨g0,g1,g2,g3,g4,g5⟩:=f2 b hb;exact⟨g3,g1,g4,g5⟩
   have hCn:(s2.heap.push (ZR [] 0)).objs.size≠X.env.locals:=by rw[hz];exact Nat.ne_of_gt (Nat.lt_succ_of_lt I2.lt)
   have hCc:∀y c,X.env.cells.lookup y=some c->c≠(s2.heap.push (ZR [] 0)).objs.size:=λy c e=>by obtain⟨v,o,ho,_⟩:=I2.cell y c e;exact nC' c o ho
   have hCH:upd H3 s2.heap.objs.size (.lst ys) (s2.heap.push (ZR [] 0)).objs.size=none:=by rw[Zg (by rw[hz];exact Nat.succ_ne_self _)];exact hfree
   exact out _ _ _ _ m I5 hn hCn hCc hCH (by rw[hz];exact Nat.le_succ_of_le I2.sz) (λp hp=>nC' p.1 p.2 (I2.pin p hp).1) (qn _ nD)
  ·have itm:=T.item Xc eP eW eK eC i _ s3 τ H3 NoX I3 (stat I3 fr3) st3 go;rw[eA]at itm;refine thn itm λr s4⟨u,hr,h4'⟩=>?_;subst hr;refine thn h4' λ_ s5 hZ=>?_;obtain⟨x,H5,I5,r5,y5,st5,fr5⟩:=hZ;have I5':=I5.pinned (stat I5 fr5) (T.obj _ _ st5);have a1:=hg' _ s5 τ H5 x u _ I5' r5 (step x H5 y5);rw[eP,eW,eA,eX]at a1;refine thn a1 λ_ s6 hZ=>?_;obtain⟨τ6,H6,I6,q6⟩:=hZ;have a2:=ht' _ s6 τ6 H6 _ I6 q6;rw[eP,eW,eA,eX]at a2;refine thn a2 λok s7⟨H7,I7,q7⟩=>?_;have tnAt:∀{τ':St}{H':Hp}{s':ah},Inv Xc ([(s2.heap.objs.size,ZR its k)]++Mv fp s5.heap) τ' H' s'->tn (i+1) s'.heap/\∀b∈fp,H' b=none:=λI'=>
    ⟨T.keep _ _ _ st5 λb hb o e=>(I'.pin (b,o) (aZ _ (aZ _ (mem_pinsAt hb e)))).1,λb hb=>by
     obtain⟨o,e,d⟩:=T.obj _ _ st5 b hb;exact(I'.pin (b,o) (aZ _ (aZ _ (mem_pinsAt hb e)))).2.1⟩;cases ok with
  |false=>rw[if_neg Bool.false_ne_true]at q7;rw[if_neg Bool.false_ne_true];obtain⟨m',hm,w7⟩:=hNw _ _ _ q7;exact⟨m',hm,i+1,ys,τ6,H7,its,k,I7.unpinned,rv,(tnAt I7).1,(tnAt I7).2,w7,hl3⟩
  |true=>
    rw[if_pos rfl]at q7;rw[if_pos rfl];have a3:=he' _ s7 τ6 H7 _ I7 q7;rw[eP,eW,eA,eX]at a3;refine thn a3 λv s8 hZ=>?_;obtain⟨y,H8,I8,r8,q8⟩:=hZ;obtain⟨m',hm,w8⟩:=hNw _ _ _ q8;obtain⟨eD,nD,_⟩:=I8.pin (s2.heap.objs.size,ZR its k) (aZ _ (ba _ az));have hlen:=rv.length;refine call_meets F.slot_list_append ⟨_,eD,rfl⟩ F.entry_list_append (F.args_list_append_2 _ _) (PySem.list_append s2.heap.objs.size its.toArray k v (by rw[ar];omega)) ⟨eD,?_⟩;have q0:=PySem.IsL.update eD (·.push v);obtain⟨k',q⟩:∃k',(s8.heap.update s2.heap.objs.size (Obj.mapSeq (·.push v))).get? s2.heap.objs.size=some (ZR (its++[v]) k'):=⟨_,by
     have e:(its++[v]).toArray=its.toArray.push v:=by simp
     unfold ZR;rw[e];exact q0⟩;have I9:Inv Xc [] τ6 H8 s8:=I8.pins_of λp hp=>absurd (show p∈([]:List (Addr×Obj))from hp) (by simp);refine⟨m',hm,i+1,ys++[y],τ6,H8,its++[v],k',?_,rv.append (.cons r8 .nil),T.keep _ _ _ (tnAt I8).1 λb hb o e=>?_,(tnAt I8).2,w8,?_⟩
    ·refine Inv.pins_of (pins:=[]) (I9.turned (t':=s8.toks) (it:=s2.heap.objs.size) (λb o hb e=>(Heap.get?_update_other _ _ (bw hb)).trans e) nD hDne (.inl (by rw[eEx];exact az)) (hDc I9) (λp hp=>hDp p (by simpa using hp))) λp hp=>?_;have e:p=(s2.heap.objs.size,ZR (its++[v]) k'):=by simpa using hp
     subst e;exact⟨q,nD,hDne,hDfs,GQ⟩
    ·exact(Heap.get?_update_other _ _ (Nat.ne_of_gt (fplt b hb))).trans e
    ·rw[ax,f9];omega
 have st4:tn 0 h4:=T.keep _ _ _ st2 λb hb o e=>hk4 b o (Heap.get?_push_of_some _ e);have fin:=codeAny_compStart_list (run _ ⟨_,rfl⟩) (T.self X.A 0 {s2 with heap:=h4,toks:=s2.toks+([]:List (Str×Value)).length} _ (notedBy (model X.prog X.w) X.A Xc.env λex s'=>(compPost (model X.prog X.w) X.A X.xe use R (.ref s2.heap.objs.size) (s2.heap.push (ZR [] 0)).objs.size) (.error ex) s') st4 (run _ ⟨_,rfl⟩));rw[eE]at fin;exact fin
theorem YJ{elt iter tg:Expr}{ifs:List Expr}{scope:Scope}{pos:Pos}{N:List Str}{cp:List (Option Nat)}{wi:TI}{g:TG}{tc:TT}{te:TE}(hc:X.calm=true){sc:Scope}{N0:List Str}(hS0:CompScope scope sc)(hN0:CompNames N0 scope N cp)(hi:PI X tg iter wi)(hg:∀C s H ex pn,PG (XO X scope N C s H ex pn) tg g)(ht:∀C s H ex pn,PTs (XO X scope N C s H ex pn) ifs tc)(he:∀C s H ex pn,PE (XO X scope N C s H ex pn) elt te)(hsc:X.env.scope=sc:=by rfl)(hxn:X.N=N0:=by rfl)(hs:∀x,fU iter X.env x=pure x:=by intro _;rfl):PE X (.ListComp elt [⟨tg,iter,ifs,0⟩] scope pos) (Kf cp wi g tc te):=by subst hsc hxn;intro pins s σ H Q I h;rw[eval_ListComp];exact NO (use:=none) hc hS0 hN0 hi hg ht he hs I h λD C H5 s4 m I5 hn h1 h2 h3 h4 h5 q=>⟨m,hn,λh' hs'=>⟨.ref D,_,I5.turned (t':=s4.toks) (it:=C) (λb o hb e=>(hs'.2 b hb).trans e) h3 h1 (.inr h4) h2 h5,rfl,q⟩⟩
theorem Dk{bs:List Bool}:∀{us:List Value},Vals (bs.map V.bl) us->∀(i:Nat)(v:Value),us[i]?=some v->∃b,bs[i]?=some b/\v=.bool b:=by
 induction bs with
|nil=>intro us r i v e;rw[fT]at r;cases r;simp at e
|cons b bs ih=>
  intro us r i v e;rw[aI]at r;cases r with
 |cons r1 r2=>
   cases i with
  |zero=>simp at e;subst e;exact⟨b,rfl,r1⟩
  |succ i=>obtain⟨b',h1,h2⟩:=ih r2 i v (by simpa using e);exact⟨b',by simpa using h1,h2⟩
theorem all_range(bs:List Bool):(aT bs.length).all (λi=>bs.getD i true)=bs.all id:=by
 rw[Bool.eq_iff_iff,bV,bV];constructor
 ·intro h b hb;obtain⟨i,hi⟩:=bj.mp hb;have hl:i<bs.length:=(aw.mp hi).1;have:=h i (cA.mpr hl);rw[bp,hi]at this;exact this
 ·intro h i hi;have hl:=cA.mp hi;rw[bp,List.getElem?_eq_getElem hl];exact h _ (aH hl)
theorem L5(hc:X.calm=true):Y1 X (.builtin "all") (λxs H Q=>∃(p:Addr)(bs:List Bool),xs=[.ref p]/\SqL X.K H p (bs.map V.bl)/\Q (.bl (bs.all id)) H):=by
 intro pins s σ H xs us Q I r h;obtain⟨p,bs,rfl,hq,q⟩:=h;obtain⟨u,rfl,ru⟩:=vals1 r;cases ru;obtain⟨its,rv,pl,hz⟩:=I.list hq;have hl:=rv.length;rw[bu]at hl;refine call_all_walk (wpAny_pyIter_list pl.isList ?_);have hne:p≠s.heap.objs.size:=by obtain⟨o,n,e,_⟩:=pl;exact Nat.ne_of_lt (Heap.lt_size e)
 refine⟨s.heap.objs.size,_,_,_,_,_,λi=>bs.getD i true,rfl,Walks.list (A:=X.A.in1) (I.ok.hd hc) s.heap.objs.size p hne its.toArray,⟨⟨_,Heap.get?_push_size _ rfl,rfl,rfl⟩,?_⟩,λi v s' Q' E' hp hQ=>?_,λh' tk kk=>?_⟩
 ·obtain⟨o,e,c,n,d⟩:=pl.isList;exact⟨o,Heap.get?_push_of_some _ e,c,n,d⟩
 ·obtain⟨b,hb,rfl⟩:=Dk rv i v (by simpa using hp);have:bs.getD i true=b:=by rw[bp,hb];rfl
  exact bS (this▸hQ)
 ·have e:(aT its.toArray.size).all (λi=>bs.getD i true)=bs.all id:=by rw[ar,<-hl];exact all_range bs
  rw[e];refine⟨.bl (bs.all id),H,I.kept (t':=tk) λb o q=>?_,rfl,q⟩;exact kk b o (by simp;exact Nat.ne_of_lt (Heap.lt_size q)) (Heap.get?_push_of_some _ q)
theorem Dp{ys:List Str}:∀{us:List Value},Vals (ys.map V.str) us->StrsAre us ys:=by
 induction ys with
|nil=>intro us r;rw[fT]at r;cases r;exact .nil
|cons y ys ih=>
  intro us r;rw[aI]at r;cases r with
 |cons r1 r2=>obtain⟨t,e⟩:=r1;subst e;exact .cons y t (ih r2)
theorem To:MtR X "str.join" (λx vs H Q=>∃(z:Str)(p:Addr)(ys:List Str),x=.str z/\vs=[.ref p]/\SqL X.K H p (ys.map V.str)/\(ys.map (·.length)).sum+ys.length*z.length<=16777216/\Q (.str (Txt.join z ys)) H):=by intro pins s σ H x xs v us Q I rx rs h;obtain⟨z,p,ys,rfl,rfl,hq,hz,q⟩:=h;obtain⟨t,rfl⟩:=rx;obtain⟨u,rfl,ru⟩:=vals1 rs;cases ru;obtain⟨its,rv,pl,hl⟩:=I.list hq;exact join_list pl.isList (by simpa using Dp rv) hz λt' k=>⟨.str (Txt.join z ys),H,I.tok k,⟨t',rfl⟩,q⟩
theorem Rl:SlR X (λx lo hi H Q=>∃z,x=.str z/\z.length<=sizeLine/\Q (.str (Txt.slice z lo hi)) H):=by
 intro pins s σ H x v vl vu lo hi sl Q I rx hs pl pu h;obtain⟨z,rfl,hz,q⟩:=h;obtain⟨t,rfl⟩:=rx;have fin:∀t' k,EP X pins σ Q (.str (Txt.slice z lo hi) t') {s with toks:=k}:=λt' k=>⟨.str _,H,I.tok k,⟨t',rfl⟩,q⟩;have len:=Nat.le_trans (Txt.slice_le z lo hi) hz;refine⟨"str",_,PyProof.Rows.slot_str_getitem.lookup,typeIs_str _ _ _,?_⟩;obtain⟨o,ho,hc,hd⟩:=hs;cases pl with
|none=>
  cases pu with
 |none=>exact d9 (l:=none) (u:=none) (st:=none) ⟨o,ho,hc,hd⟩ rfl (gI ⟨len,fin⟩)
 |int j uj=>exact d9 (l:=none) (u:=some (j,uj)) (st:=none) ⟨o,ho,hc,hd⟩ rfl (gI ⟨len,fin⟩)
|int i ui=>
  cases pu with
 |none=>exact d9 (l:=some (i,ui)) (u:=none) (st:=none) ⟨o,ho,hc,hd⟩ rfl (gI ⟨len,fin⟩)
 |int j uj=>exact d9 (l:=some (i,ui)) (u:=some (j,uj)) (st:=none) ⟨o,ho,hc,hd⟩ rfl (gI ⟨len,fin⟩)
def Ab(i j:Int):Prop:=0<j/\j.natAbs.log2<9000
theorem KZ:OpR X (eZ .FloorDiv) (rI Ab λi j=>.int (i / j)):=opI λi j _ _ _ _ _ hc q=>by have h1:(0:Int)<j:=hc.1;exact floordiv_int (by omega) (by rw[Int.fdiv_eq_ediv_of_nonneg i (by omega)];exact q) (.inl (PyProof.noPylong_of_log2 hc.2))
theorem L4:Y1 X (.builtin "isinstance") (λxs H Q=>∃x c t b,xs=[x,.ty c]/\TyOf X.K H x t/\aj X.K t (.type c)=some b/\Q (.bl b) H):=by intro pins s σ H xs us Q I r h;obtain⟨x,c,t,b,rfl,ty,e,q⟩:=h;obtain⟨u,w',rfl,ru,rw'⟩:=vals2 r;cases rw';exact ND I ru ty e λtk=>⟨.bl b,H,I.tok tk,rfl,q⟩
end
theorem MS:bX "int"=some (.type "int"):=by decide +kernel
theorem PH:bX "bool"=some (.type "bool"):=by decide +kernel
theorem MR:bX "str"=some (.type "str"):=by decide +kernel
def Df(K:af)(mg:Str->Option Value)(x:Str)(st:Stmt)(ps:List Str):Prop:=∃f fd,Fun K x x st f fd/\mg x=some (.ref f)/\Binds K fd ps []
def Can(P:Program)(w:World)(K:af)(mg:Str->Option Value)(base:Heap)(k:Nat)(x:Str)(ps:List Str)(sp:Sp):Prop:=∃f fd,FnOk P w K mg base CX0 k f fd ps sp/\mg x=some (.ref f)/\aJ K (.ref f)=true/\Binds K fd ps []
section
variable {P:Program}{w:World}{K:af}{mg:Str->Option Value}{base:Heap}
theorem Can.mono{j k:Nat}{x:Str}{ps:List Str}{sp:Sp}(C:Can P w K mg base j x ps sp)(h:j<=k):Can P w K mg base k x ps sp:=by obtain⟨f,fd,F,r⟩:=C;exact⟨f,fd,F.mono h,r⟩
theorem Df.can{x:Str}{st:Stmt}{N ps:List Str}{k:Nat}{sp:Sp}(D:Df K mg x st ps)(S:FnScope N ps (Ze st))(len:∀vs H Q E,sp vs H Q E->vs.length=ps.length)(hbody:∀(f:Addr)(cdv:Value)(A:aL)(outer:List Env)(s:ah)(H:Hp)(vs:List V)(Q:VK)(E:XK),Room k (A.deeper (dD x (Ze st) s.heap.objs.size f cdv))->sp vs H Q E ->∃t,PSs (cxOf CX0 P w K mg base N x (Ze st) f cdv A outer s H E).nox (Zz st) t/\t {nx:=λ_ H'=>Q .non H',rt:=Q} (start N vs) H):Can P w K mg base (k+1) x ps sp:=by obtain⟨f,fd,F,m,b⟩:=D;exact⟨f,fd,F.ok S len (λcdv A outer s H vs Q E hr h=>hbody f cdv A outer s H vs Q E hr h),m,F.kp,b⟩
end
section
variable {X:Cx}
theorem Z3{k:Nat}{x:Str}{ps:List Str}{sp:Sp}{p pos:Pos}{e:Expr}{es:List Expr}{t:TA}(C:Can X.prog X.w X.K X.mg X.base k x ps sp)(hr:Room k X.A)(hg:Gl X x)(ha:PA X (e::es) t)(hdb:(x==("__debug__":Str))=false:=by decide)(he:aA (e::es) X.env=(false,eval e X.env)::aA es X.env:=by rfl)(hpl:(b8 pos (aA es X.env)).any (·.1)=false:=by rfl):PE X (.Call (.Name x p) (e::es) [] pos) (Nn sp [] E0 t):=by obtain⟨f,fd,F,m,kp,b⟩:=C;exact Te F hr hg m kp b .nil Yk ha hdb he hpl
end
inductive Th(H:Hp):V->String->Prop where
|non:Th H .non "NoneType"
|bl (b:Bool):Th H (.bl b) "bool"
|int (i:Int):Th H (.int i) "int"
|str (z:Str) (h:z.length<=1000):Th H (.str z) "str"
|lst {a:Addr}{xs:List V} (e:H a=some (.lst xs)):Th H (.ref a) "list"
|tup {a:Addr}{xs:List V} (e:H a=some (.tup xs)):Th H (.ref a) "tuple"
|dK {a:Addr}{kvs:List (Key×V)} (e:H a=some (.dK kvs)):Th H (.ref a) "dict"
theorem Th.ty{K:af}{H:Hp}{v:V}{T:String}(h:Th H v T):TyOf K H v (.type T):=by
 cases h with
|non=>exact .non
|bl b=>exact .bl b
|int i=>exact .int i
|str z h=>exact .str z
|lst e=>exact .lst e
|tup e=>exact .tup e
|dK e=>exact .dK e
theorem Th.same{H H':Hp}(s:Same H H'){v:V}{T:String}(h:Th H v T):Th H' v T:=by
 cases h with
|non=>exact .non
|bl b=>exact .bl b
|int i=>exact .int i
|str z h=>exact .str z h
|lst e=>exact .lst (s _ _ e)
|tup e=>exact .tup (s _ _ e)
|dK e=>exact .dK (s _ _ e)
section
variable (K:af)
theorem Fn:aj K (.type "NoneType") (.type "int")=some false:=by kernel_rfl
theorem Fo:aj K (.type "NoneType") (.type "bool")=some false:=by kernel_rfl
theorem Fm:aj K (.type "NoneType") (.type "str")=some false:=by kernel_rfl
theorem FA:aj K (.type "bool") (.type "int")=some true:=by kernel_rfl
theorem RE:aj K (.type "bool") (.type "bool")=some true:=by kernel_rfl
theorem Fz:aj K (.type "bool") (.type "str")=some false:=by kernel_rfl
theorem Fu:aj K (.type "int") (.type "int")=some true:=by kernel_rfl
theorem Fv:aj K (.type "int") (.type "bool")=some false:=by kernel_rfl
theorem Ft:aj K (.type "int") (.type "str")=some false:=by kernel_rfl
theorem Fj:aj K (.type "str") (.type "int")=some false:=by kernel_rfl
theorem Fl:aj K (.type "str") (.type "bool")=some false:=by kernel_rfl
theorem Fi:aj K (.type "str") (.type "str")=some true:=by kernel_rfl
theorem Fq:aj K (.type "list") (.type "int")=some false:=by kernel_rfl
theorem Fs:aj K (.type "list") (.type "bool")=some false:=by kernel_rfl
theorem Fp:aj K (.type "list") (.type "str")=some false:=by kernel_rfl
theorem Fg:aj K (.type "tuple") (.type "int")=some false:=by kernel_rfl
theorem Fh:aj K (.type "tuple") (.type "bool")=some false:=by kernel_rfl
theorem Ff:aj K (.type "tuple") (.type "str")=some false:=by kernel_rfl
theorem Fx:aj K (.type "dict") (.type "int")=some false:=by kernel_rfl
theorem Fy:aj K (.type "dict") (.type "bool")=some false:=by kernel_rfl
theorem Fw:aj K (.type "dict") (.type "str")=some false:=by kernel_rfl
end
noncomputable def FH:V->Bool
|.str _=>true
|_=>false
noncomputable def Lu:V->Bool
|.int _=>true
|_=>false
noncomputable def Ew:V->Bool
|.bl _=>true
|_=>false
theorem Th.kitS{K:af}{H:Hp}{v:V}{T:String}(h:Th H v T):aj K (.type T) (.type "str")=some (FH v):=by
 cases h with
|non=>exact Fm K
|bl b=>exact Fz K
|int i=>exact Ft K
|str z h=>exact Fi K
|lst e=>exact Fp K
|tup e=>exact Ff K
|dK e=>exact Fw K
theorem Th.kitB{K:af}{H:Hp}{v:V}{T:String}(h:Th H v T):aj K (.type T) (.type "bool")=some (Ew v):=by
 cases h with
|non=>exact Fo K
|bl b=>exact RE K
|int i=>exact Fv K
|str z h=>exact Fl K
|lst e=>exact Fs K
|tup e=>exact Fh K
|dK e=>exact Fy K
theorem Th.kitI{K:af}{H:Hp}{v:V}{T:String}(h:Th H v T):aj K (.type T) (.type "int")=some (Lu v||Ew v):=by
 cases h with
|non=>exact Fn K
|bl b=>exact FA K
|int i=>exact Fu K
|str z h=>exact Fj K
|lst e=>exact Fq K
|tup e=>exact Fg K
|dK e=>exact Fx K
section
variable {X:Cx}
def tIsi(K:af)(c:String)(te:TE):TE:=tCB (λxs H Q=>∃x c t b,xs=[x,.ty c]/\TyOf K H x t/\aj K t (.type c)=some b/\Q (.bl b) H) (JH te (JH (tC (.ty c)) tNil))
theorem YU{e:Expr}{te:TE}{c:String}{cx:Str}{p p2 pos:Pos}(he:PE X e te)(hg:Gl X "isinstance")(hm:X.mg "isinstance"=none)(hg2:Gl X cx)(hm2:X.mg cx=none)(hb:bX cx=some (.type c))(hn:cx≠"__name__":=by decide)(hd:(cx==("__debug__":Str))=false:=by decide)(hs:aA [e,.Name cx p2] X.env=(false,eval e X.env)::aA [.Name cx p2] X.env:=by rfl):PE X (.Call (.Name "isinstance" p) [e,.Name cx p2] [] pos) (tIsi X.K c te):=ZO (p:=p) (pos:=pos) (L4 (X:=X)) hg hm bK (Zk he (Zk (Pt (v:=V.ty c) (pos:=p2) hg2 hm2 hb rfl hn hd) Zh) hs) (he:=hs)
end
def RecX(B:Heap)(x:Addr)(c:Value)(dd:Option Addr)(fl:Value)(h:Heap):Prop:=∃o vs,h.get? x=some o/\o.cls=c/\o.dict=dd/\o.data=.fields vs/\1<vs.size /\((vs[1]?=some .none/\fl=.none)\/∃T oT ts,vs[1]?=some (.ref T)/\B.get? T=none/\T≠x/\h.get? T=some oT/\oT.data=.fields ts/\ts[3]?=some fl)
structure Fly(B:Heap)(l:List Env)(x:Addr)(c:Value)(dd:Option Addr)(fl:Value)(h:Heap):Prop where
 keep:B.StaysIn h
 new:B.get? x=none
 frames:h.FunFrames B l
 row:RecX B x c dd fl h
theorem Wm(o:Obj)(f:Array Value->Array Value):(o.mapFields f).dict=o.dict:=by obtain⟨c,d,dt,sl⟩:=o;cases dt<;>rfl
theorem Y7{h:Heap}{b T:Addr}{o oT:Obj}{ts:Array Value}(hb:h.get? b=some o)(hn:∀vs,o.data≠.fields vs)(hT:h.get? T=some oT)(hd:oT.data=.fields ts):b≠T:=by rintro rfl;rw[hT]at hb;cases hb;exact hn ts hd
section
variable {M:Model}{A:aL}{E:Value->ah->Prop}{s:ah}{B:Heap}{env:Env}{outer:List Env}{L x:Addr}{c:Value}{dd:Option Addr}{Q:Unit->ah->Prop}
theorem NI{o:Obj}{vs:Array Value}{head:Value}{had:Bool}(hfr:A.frames=some (env::outer))(hf:env.frame=some L)(hl:s.heap.FunFrames B (env::outer))(hk:B.StaysIn s.heap)(hn:B.get? x=none)
  (hx:s.heap.get? x=some o) (hc:o.cls=c) (hdd:o.dict=dd) (hd:o.data=.fields vs) (hz:1<vs.size)
  (hQ:∀h',Fly B (env::outer) x c dd (bC L) h'->s.heap.UpToSlots h'->Q () {s with heap:=h'}):
  wpAny M A (do let fr <-frameOf env;let pl <-entryPlaceOf L had;let t <-EntryCells.newEntry head fr .none (bC L) .none pl;setField (.ref x) 1 t) Q E s:=by
 have xf:x∉(env::outer).filterMap (·.frame):=λhm=>by
  obtain⟨_,u,hu,hnf⟩:=hl.mem hm
  rw[hx]at hu
  cases hu
  exact hnf vs hd
 refine ae (wpAny_frameOf_fun hfr hl hf λh1 so=>?_)
 refine ae (wpAny_entryPlaceOf λpl hpl=>?_)
 unfold EntryCells.newEntry newFields
 refine ae (bt ?_ (hpl.sizeOk5 _ _ _ _ _))
 have x1:h1.get? x=some o:=(so.2.1 x xf).trans hx
 have k1:B.StaysIn h1:=λb u hb=>(so.2.1 b λhm=>by rw[(hl.mem hm).1]at hb;cases hb).trans (hk b u hb)
 generalize hOT:({cls:=.type "traceback",dict:=none,data:=.fields ([head,.ref L,.none,bC L,.none]++(if pl.isEmpty then List.replicate 6 Value.none else pl)).toArray}:Obj)=oT
 have x2:(h1.push oT).get? x=some o:=Heap.get?_push_of_some _ x1
 have nT:h1.objs.size≠x:=Nat.ne_of_gt (Heap.lt_size x1)
 have d3:=Obj.data_mapFields hd (·.setIfInBounds 1 (Value.ref h1.objs.size))
 have x3:=Heap.get?_update_self (Obj.mapFields (·.setIfInBounds 1 (Value.ref h1.objs.size))) x2 (Obj.isFreed_of_fields d3)
 refine bz x2 hd hz (hQ _ ?_ ?_)
 ·have other:∀b u,b≠x->h1.get? b=some u->((h1.push oT).update x (Obj.mapFields (·.setIfInBounds 1 (Value.ref h1.objs.size)))).get? b=some u:=λb u hb q=>by
   rw[Heap.get?_update_other _ _ (bw hb)]
   exact Heap.get?_push_of_some _ q
  refine⟨λb u hb=>other b u (λq=>by rw[q,hn]at hb;cases hb) (k1 b u hb),hn,hl.of_keeps λb u hb hnf=>?_,?_⟩
  ·obtain⟨sl,q⟩:=so.2.2 b u hb
   exact⟨_,other b _ (Y7 hb hnf hx hd) q,rfl⟩
  ·have oTf:oT.isFreed=false:=by rw[<-hOT];rfl
   refine⟨_,_,x3,(Obj.cls_mapFields _ _).trans hc,(Wm _ _).trans hdd,d3,by simpa using hz,.inr ⟨h1.objs.size,oT,([head,.ref L,.none,bC L,.none]++(if pl.isEmpty then List.replicate 6 Value.none else pl)).toArray,by simp[hz],k1.fresh,nT,?_,by rw[<-hOT],?_⟩⟩
   ·rw[Heap.get?_update_other _ _ (bw nT)]
    exact Heap.get?_push_size h1 oTf
   ·first
    |(simp;done)
    |(rcases hpl with rfl|⟨_,_,_,_,_,_,_,rfl⟩<;>simp)
 ·intro b u hb hnf
  obtain⟨sl,q⟩:=so.2.2 b u hb
  refine⟨sl,?_⟩
  rw[Heap.get?_update_other _ _ (bw (Y7 hb hnf hx hd))]
  exact Heap.get?_push_of_some _ q
theorem QK(hfr:A.frames=some (env::outer))(hf:env.frame=some L)(F:Fly B (env::outer) x c dd .none s.heap)(hQ:∀h',Fly B (env::outer) x c dd (bC L) h'->s.heap.UpToSlots h'->Q () {s with heap:=h'}):wpAny M A (noteFrame (.ref x) env) Q E s:=by
 obtain⟨o,vs,hx,hc,hdd,hd,hz,tr⟩:=F.row;unfold noteFrame;simp only[hf];rcases tr with⟨h1,_⟩|⟨T,oT,ts,h1,bT,nT,hT,hdT,h3⟩
 ·refine ae (bc hx hd h1 ?_);rw[if_neg (by decide)];exact NI hfr hf F.frames F.keep F.new hx hc hdd hd hz hQ
 ·refine ae (bc hx hd h1 ?_);rw[if_pos (show(Value.ref T != Value.none)=true from by simp)];refine ae (bc hT hdT h3 ?_);rw[if_neg (show ¬((Value.none==bC L)=true)from by simp[bC])];refine ae (bz hT hdT (ff.mp h3).1 ?_);have other:∀b,b≠T->(s.heap.update T (Obj.mapFields (·.setIfInBounds 3 Value.none))).get? b=s.heap.get? b:=λb hb=>Heap.get?_update_other _ _ (bw hb);refine NI hfr hf (F.frames.of_keeps λb u hb hnf=>⟨u,(other b (Y7 hb hnf hT hdT)).trans hb,rfl⟩) (λb u hb=>(other b λq=>by rw[q,bT]at hb;cases hb).trans (F.keep b u hb)) F.new ((other x (bw nT)).trans hx) hc hdd hd hz λh' F' U=>hQ h' F' λb u hb hnf=>U b u ((other b (Y7 hb hnf hT hdT)).trans hb) hnf
theorem QL{l:List Env}{fl:Value}(F:Fly B l x c dd fl s.heap)(hQ:∀h',Fly B l x c dd .none h'->s.heap.UpToSlots h'->Q () {s with heap:=h'}):wpAny M A (setFlight (.ref x) none) Q E s:=by
 obtain⟨o,vs,hx,hc,hdd,hd,hz,tr⟩:=F.row;unfold setFlight;rcases tr with⟨h1,e⟩|⟨T,oT,ts,h1,bT,nT,hT,hdT,h3⟩
 ·subst e;refine ae (bc hx hd h1 ?_);rw[if_neg (by decide)];exact ai (hQ _ F (.refl _))
 ·have z3:3<ts.size:=(ff.mp h3).1;refine ae (bc hx hd h1 ?_);rw[if_pos (show(Value.ref T != Value.none)=true from by simp)];have other:∀b,b≠T->(s.heap.update T (Obj.mapFields (·.setIfInBounds 3 ((none:Option Addr).elim Value.none λf=>bC f)))).get? b=s.heap.get? b:=λb hb=>Heap.get?_update_other _ _ (bw hb);refine bz hT hdT z3 (hQ _ ⟨λb u hb=>(other b λq=>by rw[q,bT]at hb;cases hb).trans (F.keep b u hb),F.new,F.frames.of_keeps λb u hb hnf=>⟨u,(other b (Y7 hb hnf hT hdT)).trans hb,rfl⟩,?_⟩ λb u hb hnf=>⟨u.slots,(other b (Y7 hb hnf hT hdT)).trans hb⟩);exact⟨o,vs,(other x (bw nT)).trans hx,hc,hdd,hd,hz,.inr ⟨T,_,_,h1,bT,nT,Heap.get?_update_self _ hT (Obj.isFreed_of_fields (Obj.data_mapFields hdT _)),Obj.data_mapFields hdT _,by simp[z3]⟩⟩
theorem Wz(hfr:A.frames=some (env::outer))(hf:env.frame=some L)(F:Fly B (env::outer) x c dd .none s.heap)(hQ:∀h',Fly B outer x c dd .none h'->s.heap.UpToSlots h'->Q () {s with heap:=h'}):wpAny M A (leaving env (.ref x)) Q E s:=by unfold leaving;refine ae (QK hfr hf F λh1 F1 U1=>?_);refine QL (s:={s with heap:=h1}) F1 λh2 F2 U2=>?_;exact hQ h2 ⟨F2.keep,F2.new,F2.frames.2.2,F2.row⟩ (U1.trans U2)
end
structure BaseX(B:Heap)(fs:List Addr)(x:Addr)(H H':Hp)(h:Heap):Prop where
 trk:∀b u,H' b=some u->∃o,B.get? b=some o
 old:∀b o,h.get? b=some o->H b=none->b∉fs->B.get? b=some o
 all:∀b o,h.get? b=some o->b∈fs\/b=x\/∃o',B.get? b=some o'
 xn:H' x=none
noncomputable def CX1(P:Program)(w:World):CXT:=λouter H s E e s'=>∃(x:Addr)(c:Value)(dd:Option Addr)(B:Heap)(H':Hp),e=.ref x/\s'.os=s.os/\fC s'.gens/\Un (frs outer) [] H H' s.heap s'.heap/\HOk P w H' s'.heap /\Fly B outer x c dd .none s'.heap/\BaseX B (frs outer) x H H' s.heap/\E c dd H'
theorem QI{P:Program}{w:World}{H:Hp}{h h' B:Heap}(ok:HOk P w H h)(trk:∀b u,H b=some u->∃o,B.get? b=some o)(k:B.StaysIn h)(k':B.StaysIn h'):HOk P w H h':=λb u e=>by
 have go:∀c v,H c≠none->h.get? c=some v->h'.get? c=some v:=λc v hc q=>by
  cases e':H c with
 |none=>exact absurd e' hc
 |some u'=>obtain⟨o,ho⟩:=trk c u' e';have:=k c o ho;rw[q]at this;cases this;exact k' c _ ho
 refine(ok b u e).stay (λc v hc q=>go c v ?_ q) (λ_ q=>q) λ_ _ q=>q;rcases hc with rfl|hc
 ·rw[e];simp
 ·rw[hc];simp
section
variable {P:Program}{w:World}{K:af}{mg:Str->Option Value}{base:Heap}{N:List Str}{qual:Str}{scope:Scope}{f:Addr}{cd:Value}{A:aL}{outer:List Env}{s:ah}{H:Hp}{E:XK}
theorem Ll{pins:List (Addr×Obj)}{σ:St}{H1:Hp}{s1:ah}{x:Addr}{c:Value}{dd:Option Addr}{B:Heap}(I:Inv (cxOf (CX1 P w) P w K mg base N qual scope f cd A outer s H E) pins σ H1 s1)(F:Fly B (cxOf (CX1 P w) P w K mg base N qual scope f cd A outer s H E).stack x c dd .none s1.heap)(b:BaseX B (frs outer) x H H1 s.heap)(hE:E c dd H1):(cxOf (CX1 P w) P w K mg base N qual scope f cd A outer s H E).xe (.ref x) s1:=by
 refine Wz (L:=s.heap.objs.size) I.ok.frames rfl F λh2 F2 U=>?_;have un:Un (frs outer) [] H H1 s.heap s1.heap:=I.base;refine⟨x,c,dd,B,H1,rfl,I.os,I.bare,⟨λd o e n hd _=>F2.keep d o (b.old d o e n hd),λd o e n hd _=>?_,un.free,λd o e _=>?_,un.tups,un.frzs,un.tbls⟩,QI I.hok b.trk F.keep F2.keep,F2,b,hE⟩
 ·obtain⟨sl,q⟩:=un.slot d o e n hd (by simp);obtain⟨_,o',ho',hnf⟩:=I.ok.funs.mem hd;have eo:o'=o:=by have:s.heap.get? d=some o':=ho';rw[e]at this;exact(ao this).symm
  subst eo;obtain⟨sl2,q2⟩:=U d _ q hnf;exact⟨sl2,q2⟩
 ·rcases b.all d o e with z|z|⟨o',z⟩
  ·obtain⟨_,o2,ho2,hnf⟩:=I.ok.funs.mem z;have ho2':s.heap.get? d=some o2:=ho2;obtain⟨sl,q⟩:=un.slot d o2 ho2' (I.ok.frf d z) z (by simp);obtain⟨sl2,q2⟩:=U d _ q hnf;exact⟨_,q2⟩
  ·subst z;obtain⟨o3,_,q,_⟩:=F2.row;exact⟨o3,q⟩
  ·exact⟨o',F2.keep d o' z⟩
theorem BaseX.up{X:Cx}{pins:List (Addr×Obj)}{σ:St}{H1 H2:Hp}{s1:ah}{x:Addr}{B:Heap}(I:Inv X pins σ H1 s1)(hex:X.ex=[])(b:BaseX B (frs X.stack) x H1 H2 s1.heap):BaseX B X.fs x X.H₀ H2 X.s₀.heap:=by
 have low:∀d o,X.s₀.heap.get? d=some o->d∈frs X.stack->d∈X.fs:=λd o e hd=>by
  rcases au.mp (I.stkSub d hd)with z|z
  ·exact absurd (Nat.lt_of_lt_of_le (Heap.lt_size e) I.ok.above) (by rw[z];exact Nat.lt_irrefl _)
  ·exact z
 refine⟨b.trk,λd o e n hd=>?_,λd o e=>?_,b.xn⟩
 ·exact b.old d o (I.base.keep d o e n hd (by rw[hex];simp)) (I.base.free d o e n (by rw[hex];simp)) λz=>hd (low d o e z)
 ·obtain⟨o1,e1⟩:=I.base.there d o e (by rw[hex];simp);rcases b.all d o1 e1 with z|z|z
  ·exact .inl (low d o e z)
  ·exact .inr (.inl z)
  ·exact .inr (.inr z)
theorem YV:Passes (CX1 P w) (cxOf (CX1 P w) P w K mg base N qual scope f cd A outer s H E) E:=by intro pins σ H1 s1 e s2 I h;obtain⟨x,c,dd,B,H2,rfl,os,bare,un,hok,F,b,hE⟩:=h;have I2:Inv (cxOf (CX1 P w) P w K mg base N qual scope f cd A outer s H E) pins σ H2 s2:=I.call' os un hok bare λb z=>absurd z (by simp);exact Ll I2 F (BaseX.up I rfl b) hE
end
noncomputable abbrev bmV:List Value:=[.type "ValueError",.type "Exception",.type "BaseException",.type "object"]
structure XC(K:af)(C fI Qa:Addr):Prop where
 obj:∃nm q N bs sn sub ab col dd k0 k1 k2 k3 k5,K.lookup C=some (excClassObj nm q C N bs (.ref Qa::bmV) true sn sub ab col dd k0 k1 k2 k3 k5 "ValueError.__new__") /\
  cO K N=true/\aX K N "__init__"=some (some (.ref fI))
 tail:da K bmV (.ref Qa::bmV)=true
 fn:∃o,K.lookup fI=some o/\o.cls=.type "function"
 sa:ak K (.ref C) "__setattr__"=some (some (.builtin "object.__setattr__"))
 ob:cL K C (.type "object")=some true
theorem Ry{K:af}{h:Heap}{N:Addr}{mg:Str->Option Value}{n:Str}{v:Value}(X:K.In h)(G:h.Ns N mg)(e:aX K N n=some (some v)):mg n=some v:=by
 obtain⟨o,es,ep,ho,hd,_,hf⟩:=G;unfold aX at e;split at e
 ·rename_i c d es' n' sl q;have this:=X _ _ q;rw[ho]at this;cases this;cases hd;split at e
  ·rename_i en he;cases e;rw[<-hf];unfold nsFind findBy;rw[<-Array.find?_toList,he];rfl
  ·split at e<;>cases e
 ·cases e
section
variable {prog:Program}{w:World}{A:aL}{E:Value->ah->Prop}{K:af}{C fI Qa:Addr}{h:Heap}{g:Array GenState}{d:Drawn}{t:Nat}{os:bA}{rest:List Value}
theorem Q5{Q:Fin->ah->Prop}(X:K.In h)(c:XC K C fI Qa)(hz:rest.length<=sizeLine)(hq:∀h' e,h.objs.size<=e->Heap.MadeExcOf h h' e (.ref C) rest->wpAny (model prog w) A (call (.ref fI) (.ref e::rest)) (λr s'=>r=.none/\Q (.done (.ret (.ref e))) s') E ⟨h',g,d,t,os⟩):wpAny (model prog w) A (cC.«type.__call__» ⟨.ref C::rest,[]⟩) Q E ⟨h,g,d,t,os⟩:=by
 obtain⟨nm,q,N,bs,sn,sub,ab,col,dd,k0,k1,k2,k3,k5,lk,nok,hin⟩:=c.obj;obtain⟨oI,lI,cI⟩:=c.fn;have FV:=PySem.F.excBase_ValueError;have hC:=X _ _ lk;have hN:h.Ns N (h.nsMap N):=.of_isNs (PySem.W.isNs_of_in X nok);have hI:h.nsMap N "__init__"=some (.ref fI):=Ry X hN hin;have TL:OwnTail h bmV (.ref Qa::bmV):=PySem.W.tail_of_in X c.tail;repeat (first|with_reducible refine b_ hC ?_|(with_reducible refine wpAny_madeBy_exc hC ?_)|wp_step)
 refine codeAny_call_builtin_code (Code.quiet_builtin _ FV.quiet) (wpAny_check_new_subU FV FV.hasB TL hC ?_);refine codeAny_exc_new_subU FV FV.hasB FV TL hC ?_ hz;show wpAny _ _ _ _ _ _;generalize hh1:(h.push {cls:=.type "tuple",data:=.seq rest.toArray}).push {cls:=.ref C,data:=.fields #[.ref h.objs.size,.none,.none,.none,.bool false,.none]}=h1;have k1':∀b o,h.get? b=some o->h1.get? b=some o:=λb o e=>by rw[<-hh1];exact Heap.get?_push_of_some _ (Heap.get?_push_of_some _ e)
 have ge:h1.get? (h.objs.size+1)=some {cls:=.ref C,data:=.fields #[.ref h.objs.size,.none,.none,.none,.bool false,.none]}:=by rw[<-hh1];heap_get
 have gt:h1.get? h.objs.size=some {cls:=.type "tuple",data:=.seq rest.toArray}:=by rw[<-hh1];exact Heap.get?_push_of_some _ (Heap.get?_push_at rfl rfl)
 have hC1:=k1' _ _ hC;have hcC:(Value.ref C::.ref Qa::bmV).contains (.ref C)=true:=by simp
 unfold isInstance;repeat (first|with_reducible refine b_ ge ?_|(with_reducible refine fB hC1 ?_;rw[hcC])|wp_step)
 show wpAny _ _ (ig (.ref C) _) _ _ _;refine wpAny_typeLookup_tail hC1 (hN.keeps k1') (TL.keeps k1') FV.mroIs FV.init.lookup ?_;rw[hI];refine aW (ae (m:=bindSpecial _ _) ?_);unfold bindSpecial;refine ae (wpAny_typeOf (T:="function") ⟨_,k1' _ _ (X _ _ lI),cI⟩ ?_);rw[if_pos (by decide)];have mk:Heap.MadeExcOf h h1 (h.objs.size+1) (.ref C) rest:=⟨k1',Heap.get?_none_of_le (Nat.le_succ _),h.objs.size,ge,Heap.get?_none_of_le (Nat.le_refl _),gt⟩;refine ai (ae (cM (hq h1 _ (Nat.le_succ _) mk) (λr s' hr=>?_) λ_ _ z=>z));obtain⟨rfl,hQ⟩:=hr;wp_walk;exact hQ
theorem FZ{Q:Value->ah->Prop}(X:K.In h)(c:XC K C fI Qa)(hz:rest.length<=sizeLine)(hq:∀h' e,h.objs.size<=e->Heap.MadeExcOf h h' e (.ref C) rest->wpAny (model prog w) (A.under (.builtin "type.__call__" ⟨.ref C::rest,[]⟩)) (call (.ref fI) (.ref e::rest)) (λr s'=>r=.none/\Q (.ref e) s') E ⟨h',g,d,t,os⟩):wpAny (model prog w) A (call (.ref C) rest) Q E ⟨h,g,d,t,os⟩:=by
 obtain⟨nm,q,N,bs,sn,sub,ab,col,dd,k0,k1,k2,k3,k5,lk,nok,hin⟩:=id c.obj;have hC:=X _ _ lk;have f1:=tc_lookup;have f2:=tc_bind (.ref C);have hT:(⟨h,g,d,t,os⟩:ah).TypeIs (.ref C) "type":=⟨_,hC,rfl⟩;refine gv (codeAny_of_tree ?_);show wpAny _ _ (callAny (.ref C) _) _ _ _;repeat (any_goals (first|assumption|with_reducible refine b_ hC ?_|wp_step))
 refine⟨rfl,codeAny_call_builtin_at (Code.quiet_builtin _ (by decide +kernel)) entry_typeCall (wpAny_check_type_call_sub hC ?_)⟩;exact Q5 X c hz λh' e he hm=>hq h' e he hm
theorem NX{x:Addr}{name:Str}{v:Value}{mA:Str->Option Value}{tk:Tok}{Q:Fin->ah->Prop}{ns:List Str}(X:K.In h)(c:XC K C fI Qa)(hna:ak K (.ref C) name=some none)(I:h.Inst x C mA)(hw:Within mA ns)(hz:ns.length<=1000)(hq:∀h' tk',h'.Inst x C (λy=>if y=name then some v else mA y) ->(∀b o,b≠x->(∀o₀ dx,h.get? x=some o₀->o₀.dict=some dx->b≠dx)->h.get? b=some o->h'.get? b=some o) ->(∀o₀,h.get? x=some o₀->∃o₁ d₁,h'.get? x=some o₁/\o₁.cls=o₀.cls/\o₁.data=o₀.data/\o₁.dict=some d₁/\((o₀.dict=some d₁)\/(o₀.dict=none/\h.get? d₁=none)))->Q (.done (.ret .none)) ⟨h',g,d,tk',os⟩):wpAny (model prog w) A (cC.«object.__setattr__» ⟨[.ref x,.str name tk,v],[]⟩) Q E ⟨h,g,d,t,os⟩:=by
 obtain⟨nm,q,N,bs,sn,sub,ab,col,dd,k0,k1,k2,k3,k5,lk,nok,hin⟩:=c.obj;have hC:=X _ _ lk;obtain⟨o,hx,hc,hnc,hd⟩:=I;have hpass:=PySem.F.store_ValueError.passes (.ref x);have LN:=eh (M:=model prog w) X hna;unfold cC.«object.__setattr__»;repeat (first|rw[refuse_eq]|(rw[refuseLoop_ref,refuseLoop_ref,hpass])|(with_reducible refine b_ hx ?_;rw[hc])|(with_reducible refine wpAny_mroOf_exc hC ?_)|(with_reducible refine LN.at ?_)|wp_step)
 rcases hd with⟨hdn,hmA⟩|⟨dx,hdx,hne,hns⟩
 ·rw[hdn,if_neg (by simp[typeHasDict])];split
  ·rename_i hcd;cases hcd
  split
  ·rename_i cc hcd;exact absurd hcd (hnc cc)
  ·have xs:x≠h.objs.size:=Nat.ne_of_lt (Heap.lt_size hx);have dn:h.get? h.objs.size=none:=Heap.get?_none_of_le (Nat.le_refl _);have x1:(h.push {cls:=.type "dict",data:=.dict #[]}).get? x=some o:=Heap.get?_push_of_some _ hx;refine ae (wpAny_alloc' (ae (wpAny_update' x1 (ai ?_))));generalize hU:(h.push {cls:=.type "dict",data:=.dict #[]}).update x (λo=>{cls:=o.cls,dict:=some h.objs.size,data:=o.data,slots:=o.slots})=hu;have gd:hu.get? h.objs.size=some {cls:=.type "dict",data:=.dict #[]}:=by rw[<-hU];exact(Heap.get?_update_ne _ _ _ _ xs.symm).trans (Heap.get?_push_at rfl rfl)
   have gx:hu.get? x=some {cls:=o.cls,dict:=some h.objs.size,data:=o.data,slots:=o.slots}:=by rw[<-hU];refine Heap.get?_update_self _ x1 ?_;have hfr:=(Heap.get?_some_iff.mp hx).2;obtain⟨oc,od,odt,osl⟩:=o;cases odt<;>first|rfl|exact hfr
   have nd:hu.Ns h.objs.size (λ_=>none):=⟨_,#[],_,gd,rfl,λe he=>absurd he (by simp),λ_=>rfl⟩;have ob:∀b u,b≠x->h.get? b=some u->hu.get? b=some u:=λb u hb e=>by rw[<-hU];exact(Heap.get?_update_ne _ _ _ _ hb).trans (Heap.get?_push_of_some _ e)
   show wpAny _ _ (cQ h.objs.size (.str name tk) name v) _ _ _;unfold cQ fP;refine ae (ai (ae (wpAny_nsSet1 (Heap.Ns1.of_empty nd) λh2 n2 s2=>?_)));obtain⟨oD,esD,epD,hoD,hdD,hcD⟩:=n2.count (Within.cons name v Within.nil);refine ae (wpAny_lookBehind hoD (by rw[hdD];exact pastItsLine_dict (Nat.le_trans hcD (by rw[aP,List.length_nil,fe];omega))) ?_);wp_walk;have gx2:h2.get? x=some {cls:=o.cls,dict:=some h.objs.size,data:=o.data,slots:=o.slots}:=(s2.2 x xs).trans gx;refine hq h2 _ ⟨_,gx2,hc,hnc,.inr ⟨h.objs.size,rfl,xs.symm,?_⟩⟩ (λb u hb _ e=>(s2.2 b (Nat.ne_of_lt (Heap.lt_size e))).trans (ob b u hb e)) λo₀ e₀=>?_
   ·obtain⟨o',es,ep,e1,e2,e3,eu,e4⟩:=n2;exact⟨o',es,ep,e1,e2,e3,eu,λy=>by rw[e4 y];by_cases hy:y=name<;>simp[hy,hmA]⟩
   ·have eo:o=o₀:=ao (hx.symm.trans e₀);subst eo;exact⟨_,h.objs.size,gx2,rfl,rfl,rfl,.inr ⟨hdn,dn⟩⟩
 ·rw[hdx];refine ai ?_;show wpAny _ _ (cQ dx (.str name tk) name v) _ _ _;unfold cQ fP;refine ae (ai (ae (wpAny_nsSet1 hns λh2 n2 s2=>?_)));obtain⟨oD,esD,epD,hoD,hdD,hcD⟩:=n2.count (Within.cons name v hw);refine ae (wpAny_lookBehind hoD (by rw[hdD];exact pastItsLine_dict (Nat.le_trans hcD (by rw[aP,fe];omega))) ?_);wp_walk;have gx2:=(s2.2 x hne.symm).trans hx;refine hq h2 _ ⟨o,gx2,hc,hnc,.inr ⟨dx,hdx,hne,n2⟩⟩ (λb u _ hbd e=>(s2.2 b (hbd o dx hx hdx)).trans e) λo₀ e₀=>?_;have eo:o=o₀:=ao (hx.symm.trans e₀);subst eo;exact⟨_,dx,gx2,rfl,rfl,hdx,.inl hdx⟩
end
noncomputable def ErrN(x C:Addr)(dd:Option Addr):HO:=.ext λh=>∃o vs,h.get? x=some o/\o.cls=.ref C/\o.dict=dd/\o.data=.fields vs/\1<vs.size/\vs[1]?=some .none
noncomputable def XD(d:Addr)(fs:List (Str×V)):HO:=.ext λh=>∃mA,h.Ns1 d mA/\(∀f,RelO (fs.lookup f) (mA f))/\dR mA (fs.map (·.1))/\fs.length<=1000
section
variable {P:Program}{w:World}{H:Hp}{h:Heap}{x C d:Addr}{dd:Option Addr}{fs:List (Str×V)}
theorem Je:ZE P w H h x (ErrN x C dd)↔∃o vs,h.get? x=some o/\o.cls=.ref C/\o.dict=dd/\o.data=.fields vs/\1<vs.size/\vs[1]?=some .none:=by
 constructor
 ·intro z;exact z.1
 ·rintro ⟨o,vs,hx,r⟩;exact⟨⟨o,vs,hx,r⟩,⟨o,hx⟩,λh1 h2⟨o',vs',e,r'⟩k=>⟨o',vs',k _ e,r'⟩⟩
theorem Sw:ZE P w H h d (XD d fs)↔∃mA,h.Ns1 d mA/\(∀f,RelO (fs.lookup f) (mA f))/\dR mA (fs.map (·.1))/\fs.length<=1000:=by
 constructor
 ·intro z;exact z.1
 ·rintro ⟨mA,⟨o,es,ep,e,r⟩,q⟩;exact⟨⟨mA,⟨o,es,ep,e,r⟩,q⟩,⟨o,e⟩,λh1 h2⟨m,⟨o',es',ep',e',r'⟩,q'⟩k=>⟨m,⟨o',es',ep',k _ e',r'⟩,q'⟩⟩
end
section
variable {X:Cx}{pins:List (Addr×Obj)}{σ:St}{H:Hp}{s:ah}{x C fI Qa:Addr}{name:Str}{y:V}{u:Value}{Q:Unit->ah->Prop}
theorem PV{A:aL}{E:Value->ah->Prop}{mA:Str->Option Value}{ns:List Str}(I:Inv X pins σ H s)(c:XC X.K C fI Qa)(hna:ak X.K (.ref C) name=some none)(In:s.heap.Inst x C mA)(hw:dR mA ns)(hz:ns.length<=1000)(hq:∀h' tk',h'.Inst x C (λz=>if z=name then some u else mA z) ->(∀b o,b≠x->(∀o₀ dx,s.heap.get? x=some o₀->o₀.dict=some dx->b≠dx)->s.heap.get? b=some o->h'.get? b=some o) ->(∀o₀,s.heap.get? x=some o₀->∃o₁ d₁,h'.get? x=some o₁/\o₁.cls=o₀.cls/\o₁.data=o₀.data/\o₁.dict=some d₁/\((o₀.dict=some d₁)\/(o₀.dict=none/\s.heap.get? d₁=none)))->Q () {s with heap:=h',toks:=tk'}):wpAny (model X.prog X.w) A (setAttr (.ref x) name u) Q E s:=by
 have KX:=I.kIn;obtain⟨o,hx,hc,hnc,hd⟩:=id In;have no:fY o=true:=by
  unfold fY;split
  ·rename_i cc e;exact absurd e (hnc cc)
  ·rfl
 obtain⟨od,IA⟩:∃od,iu s.heap x o C od:=by
  rcases hd with⟨e,_⟩|⟨dx,e,_,oD,es,ep,hD,_⟩
  ·exact⟨none,hx,hc,no,by rw[e];trivial⟩
  ·exact⟨some oD,hx,hc,no,by rw[e];exact hD⟩
 have SF:=PySem.F.store_object;refine PySem.W.set_plain KX IA c.sa ?_;have sub:PySem.W.Looks (model X.prog X.w) s.heap (isInstance (.ref x) (.type "object")) true:=IA.type.andThen (PySem.W.looks_mroIn KX c.ob);refine codeAny_call_builtin SF.slot.plain SF.entry (@PySem.W.check_slot (model X.prog X.w) _ _ {s with toks:=s.toks+1} "object.__setattr__" "object" "__setattr__" (.ref x) [.str name s.toks,u] [] _ SF.kind SF.split sub (SF.args (.ref x) (.str name s.toks) u) ?_);exact NX (h:=s.heap) (g:=s.gens) (d:=s.drawn) (t:=s.toks+1) (os:=s.os) KX c hna In hw hz λh' tk' I' kk same=>hq h' tk' I' kk same
end
def JM(H:Hp)(h:Heap)(d:Addr):Prop:=(H d=none/\h.get? d=none)\/∃φ,H d=some (.ext φ)
section
variable {P:Program}{w:World}{H:Hp}{h h':Heap}{x d:Addr}{o1 o2:HO}{fs:List Addr}
theorem JM.ne{b:Addr}{u:HO}(q:JM H h d)(e:H b=some u)(hu:∀φ,u≠.ext φ):b≠d:=by
 rintro rfl;rcases q with⟨z,_⟩|⟨φ,z⟩
 ·rw[e]at z;cases z
 ·rw[e]at z;cases z;exact hu φ rfl
theorem VJ{b:Addr}(hx:b≠x)(hd:b≠d):upd (upd H d o1) x o2 b=H b:=by rw[Zg hx,Zg hd]
theorem Qp{a:Addr}{o:HO}(z:ZE P w H h a o):∃ob,h.get? a=some ob:=by
 induction o with
|lst xs=>obtain⟨_,_,_,_,e⟩:=z;exact⟨_,e⟩
|tup xs=>obtain⟨_,_,_,ob,e,_⟩:=z;exact⟨_,e⟩
|dK kvs=>obtain⟨_,_,_,_,ob,_,_,e,_⟩:=z;exact⟨_,e⟩
|dT kvs=>obtain⟨_,_,_,_,ob,_,_,e,_⟩:=z;exact⟨_,e⟩
|set S n=>obtain⟨ob,_,_,_,e,_⟩:=z;exact⟨_,e⟩
|ins C dx fs=>obtain⟨_,_,_,e,_⟩:=z;exact⟨_,e⟩
|own y=>exact z
|xd fs=>obtain⟨_,⟨ob,_,_,e,_⟩,_⟩:=z;exact⟨_,e⟩
|rng lo hi=>obtain⟨_,_,_,e⟩:=z;exact⟨_,e⟩
|frz ob u ih=>exact⟨_,z.1⟩
|tbl ps=>exact⟨_,z⟩
|met f y=>exact⟨_,z⟩
|ext φ=>exact z.2.1
theorem W8(qx:JM H h x)(qd:JM H h d)(k:∀b o,b≠x->b≠d->h.get? b=some o->h'.get? b=some o)(xo:∃o,h'.get? x=some o)(dO:∃o,h'.get? d=some o):Un fs [] H (upd (upd H d o1) x o2) h h':=by
 have off:∀{z:Addr},JM H h z->∀b o,h.get? b=some o->H b=none->b≠z:=by
  intro z q b o e n;rintro rfl;rcases q with⟨_,y⟩|⟨φ,y⟩
  ·rw[e]at y;cases y
  ·rw[n]at y;cases y
 refine⟨λb o e n _ _=>k b o (off qx b o e n) (off qd b o e n) e,λb o e n _ _=>⟨o.slots,k b o (off qx b o e n) (off qd b o e n) e⟩,λb o e n _=>(VJ (off qx b o e n) (off qd b o e n)).trans n,λb o e _=>?_,λb xs e=>(VJ (qx.ne e (by simp)) (qd.ne e (by simp))).trans e,λb o u e=>(VJ (qx.ne e (by simp)) (qd.ne e (by simp))).trans e,λb ps e=>⟨#[],(VJ (qx.ne e (by simp)) (qd.ne e (by simp))).trans (by simpa using e)⟩⟩;by_cases hx:b=x
 ·exact hx▸xo
 ·by_cases hd:b=d
  ·exact hd▸dO
  ·exact⟨o,k b o hx hd e⟩
theorem Tz(ok:HOk P w H h)(qx:JM H h x)(qd:JM H h d)(ne:d≠x)(k:∀b o,b≠x->b≠d->h.get? b=some o->h'.get? b=some o)(nx:ZE P w (upd (upd H d o1) x o2) h' x o2)(nd:ZE P w (upd (upd H d o1) x o2) h' d o1):HOk P w (upd (upd H d o1) x o2) h':=λb u e=>by
 by_cases hx:b=x
 ·subst hx;rw[Zb]at e;cases e;exact nx
 ·by_cases hd:b=d
  ·subst hd;rw[Zg ne,Zb]at e;cases e;exact nd
  ·rw[VJ hx hd]at e;refine(ok b u e).stay (λc v hc q=>?_) (λc q=>(VJ (qx.ne q (by simp)) (qd.ne q (by simp))).trans q) λc xs q=>(VJ (qx.ne q (by simp)) (qd.ne q (by simp))).trans q;rcases hc with rfl|hc
   ·exact k _ v hx hd q
   ·exact k _ v (qx.ne hc (by simp)) (qd.ne hc (by simp)) q
end
section
variable {X:Cx}{pins:List (Addr×Obj)}{σ:St}{H:Hp}{s:ah}{x C fI Qa:Addr}{f:Str}{y:V}{u:Value}{Q:Unit->ah->Prop}
theorem NJ{dd:Option Addr}{h:Heap}(e:H x=some (ErrN x C dd)):JM H h x:=.inr ⟨_,e⟩
theorem Qg{fs:List (Str×V)}{mA:Str->Option Value}(r:∀g,RelO (fs.lookup g) (mA g))(ry:RelV y u)(g:Str):RelO ((putF f y fs).lookup g) (if g=f then some u else mA g):=by
 rw[Zl];by_cases q:g=f
 ·rw[if_pos q,if_pos q];exact ry
 ·rw[if_neg q,if_neg q];exact r g
theorem Mg{fs:List (Str×V)}{mA:Str->Option Value}(wi:dR mA (fs.map (·.1))):dR (λg=>if g=f then some u else mA g) ((putF f y fs).map (·.1)):=λg hg=>by
 by_cases q:g=f
 ·rw[q];exact(Jt f y fs).1
 ·refine(Jt f y fs).2 g (wi g λz=>hg ?_);show(if g=f then some u else mA g)=none;rw[if_neg q];exact z
theorem W5{A:aL}{E:Value->ah->Prop}(I:Inv X pins σ H s)(c:XC X.K C fI Qa)(hna:ak X.K (.ref C) f=some none)(e:H x=some (ErrN x C none))(ry:RelV y u)(h:∀d s',d≠x->H d=none->Inv X pins σ (upd (upd H d (XD d [(f,y)])) x (ErrN x C (some d))) s'->Q () s'):wpAny (model X.prog X.w) A (setAttr (.ref x) f u) Q E s:=by
 obtain⟨o,vs,hx,hc,hdd,hd,hz,h1⟩:=Je.mp (I.hok x _ e);have In:s.heap.Inst x C (λ_=>none):=⟨o,hx,hc,(λcc q=>by rw[hd]at q;cases q),.inl ⟨hdd,λ_=>rfl⟩⟩;refine PV (ns:=[]) I c hna In (λg hg=>absurd rfl hg) (Nat.zero_le _) λh' tk' I' k same=>?_;obtain⟨o₁,d₁,hx',c1,dt1,dd1,sd⟩:=same o hx;have dn:s.heap.get? d₁=none:=by
  rcases sd with z|⟨_,z⟩
  ·rw[hdd]at z;cases z
  ·exact z
 obtain⟨o',hx2,_,_,hdx⟩:=I';have eo:o'=o₁:=ao (hx2.symm.trans hx');subst eo;have Hd:H d₁=none:=by
  cases q:H d₁ with
 |none=>rfl
 |some v=>
   obtain⟨ob,z⟩:∃ob,s.heap.get? d₁=some ob:=by have:=I.hok _ _ q;exact Qp this
   rw[dn]at z;cases z
 rcases hdx with⟨z,_⟩|⟨dx,z,ne,ns⟩
 ·rw[dd1]at z;cases z
 ·have ed:d₁=dx:=by rw[dd1]at z;exact ao z
  subst ed;have kk:∀b ob,b≠x->b≠d₁->s.heap.get? b=some ob->h'.get? b=some ob:=λb ob hb _ q=>k b ob hb (λo₀ dx' e0 e1=>by rw[hx]at e0;cases e0;rw[hdd]at e1;cases e1) q;have qx:JM H s.heap x:=NJ e;have qd:JM H s.heap d₁:=.inl ⟨Hd,dn⟩;have nd:ZE X.prog X.w (upd (upd H d₁ (XD d₁ [(f,y)])) x (ErrN x C (some d₁))) h' d₁ (XD d₁ [(f,y)]):=Sw.mpr ⟨_,ns,λg=>Qg (fs:=[]) (mA:=λ_=>none) (λ_=>bD) ry g,Mg (fs:=[]) λg hg=>absurd rfl hg,by simp⟩;have nx:ZE X.prog X.w (upd (upd H d₁ (XD d₁ [(f,y)])) x (ErrN x C (some d₁))) h' x (ErrN x C (some d₁)):=Je.mpr ⟨o',vs,hx',c1.trans hc,dd1,dt1.trans hd,hz,h1⟩;obtain⟨oD,_,_,hoD,_⟩:=id ns;exact h d₁ _ ne Hd (I.un (W8 qx qd kk ⟨_,hx'⟩ ⟨_,hoD⟩) (Tz I.hok qx qd ne kk nx nd))
theorem T7{A:aL}{E:Value->ah->Prop}{d:Addr}{fs:List (Str×V)}(I:Inv X pins σ H s)(c:XC X.K C fI Qa)(hna:ak X.K (.ref C) f=some none)(e:H x=some (ErrN x C (some d)))(ed:H d=some (XD d fs))(ne:d≠x)(hl:fs.length<1000)(ry:RelV y u)(h:∀s',Inv X pins σ (upd (upd H d (XD d (putF f y fs))) x (ErrN x C (some d))) s'->Q () s'):wpAny (model X.prog X.w) A (setAttr (.ref x) f u) Q E s:=by
 obtain⟨o,vs,hx,hc,hdd,hd,hz,h1⟩:=Je.mp (I.hok x _ e);obtain⟨mA,ns,r,wi,_⟩:=Sw.mp (I.hok d _ ed);have In:s.heap.Inst x C mA:=⟨o,hx,hc,(λcc q=>by rw[hd]at q;cases q),.inr ⟨d,hdd,ne,ns⟩⟩;refine PV (ns:=fs.map (·.1)) I c hna In wi (by rw[bu];omega) λh' tk' I' k same=>?_;obtain⟨o₁,d₁,hx',c1,dt1,dd1,sd⟩:=same o hx;have e1:d₁=d:=by
  rcases sd with z|⟨z,_⟩
  ·rw[hdd]at z;exact(ao z).symm
  ·rw[hdd]at z;cases z
 subst e1;obtain⟨o',hx2,_,_,hdx⟩:=I';have eo:o'=o₁:=ao (hx2.symm.trans hx');subst eo;rcases hdx with⟨z,_⟩|⟨dx,z,_,ns'⟩
 ·rw[dd1]at z;cases z
 ·have ed':d₁=dx:=by rw[dd1]at z;exact ao z
  subst ed';have kk:∀b ob,b≠x->b≠d₁->s.heap.get? b=some ob->h'.get? b=some ob:=λb ob hb hbd q=>k b ob hb (λo₀ dx' e0 e1=>by rw[hx]at e0;cases e0;rw[hdd]at e1;cases e1;exact hbd) q;have qx:JM H s.heap x:=NJ e;have qd:JM H s.heap d₁:=.inr ⟨_,ed⟩;have nd:ZE X.prog X.w (upd (upd H d₁ (XD d₁ (putF f y fs))) x (ErrN x C (some d₁))) h' d₁ (XD d₁ (putF f y fs)):=Sw.mpr ⟨_,ns',λg=>Qg r ry g,Mg wi,by have:=Yd f y fs;omega⟩;have nx:ZE X.prog X.w (upd (upd H d₁ (XD d₁ (putF f y fs))) x (ErrN x C (some d₁))) h' x (ErrN x C (some d₁)):=Je.mpr ⟨o',vs,hx',c1.trans hc,dd1,dt1.trans hd,hz,h1⟩;obtain⟨oD,_,_,hoD,_⟩:=id ns';exact h _ (I.un (W8 qx qd kk ⟨_,hx'⟩ ⟨_,hoD⟩) (Tz I.hok qx qd ne kk nx nd))
def HD(K:af)(ta tv:TE)(f:Str):TS:=λD σ H=>tv σ H λy H1=>ta σ H1 λx H2=>∃a C fI Qa,x=.ref a/\H2 a=some (ErrN a C none)/\XC K C fI Qa/\ak K (.ref C) f=some none /\∀d,d≠a->H2 d=none->D.nx σ (upd (upd H2 d (XD d [(f,y)])) a (ErrN a C (some d)))
def HE(K:af)(ta tv:TE)(f:Str):TS:=λD σ H=>tv σ H λy H1=>ta σ H1 λx H2=>∃a C fI Qa d fs,x=.ref a/\H2 a=some (ErrN a C (some d))/\H2 d=some (XD d fs)/\d≠a/\fs.length<1000/\XC K C fI Qa/\ak K (.ref C) f=some none /\D.nx σ (upd (upd H2 d (XD d (putF f y fs))) a (ErrN a C (some d)))
section
variable {o value:Expr}{pos pos':Pos}{ta tv:TE}
theorem SV(ha:PE X o ta)(hv:PE X value tv)(hs:fG value (some (.Attribute o f pos')) pos.line X.env=pure false):PS X (.Assign [.Attribute o f pos'] value pos) (HD X.K ta tv f):=by intro pins s σ H D I h;refine eM (thn (hv pins s σ H _ I h) λu s1⟨y,H1,I1,ry,q⟩=>thn (ha pins s1 σ H1 _ I1 q) λov s2 hZ=>?_) hs;obtain⟨x,H2,I2,rx,a,C,fI,Qa,ex,ea,c,n,q2⟩:=hZ;subst ex;obtain rfl:ov=Value.ref a:=rx;exact W5 I2 c n ea ry λd s3 ne hn I3=>⟨σ,_,I3,q2 d ne hn⟩
theorem SW(ha:PE X o ta)(hv:PE X value tv)(hs:fG value (some (.Attribute o f pos')) pos.line X.env=pure false):PS X (.Assign [.Attribute o f pos'] value pos) (HE X.K ta tv f):=by intro pins s σ H D I h;refine eM (thn (hv pins s σ H _ I h) λu s1⟨y,H1,I1,ry,q⟩=>thn (ha pins s1 σ H1 _ I1 q) λov s2 hZ=>?_) hs;obtain⟨x,H2,I2,rx,a,C,fI,Qa,d,fs,ex,ea,ed,ne,hl,c,n,q2⟩:=hZ;subst ex;obtain rfl:ov=Value.ref a:=rx;exact T7 I2 c n ea ed ne hl ry λs3 I3=>⟨σ,_,I3,q2⟩
end
end
section
variable {X:Cx}{CX:CXT}{k:Nat}{f C Qa:Addr}{fd:bH}{ps:List Str}{sp:Sp}{dvs:List V}{ds:List Value}{E:XK}{x m:Str}{p pos apos:Pos}{e o:Expr}{es:List Expr}{ta:TE}{t:TA}
theorem We{pins:List (Addr×Obj)}{σ:St}{H:Hp}{s:ah}{Q:VK}{us:List Value}{vs:List V}(c:XC X.K C f Qa)(F:FnOk X.prog X.w X.K X.mg X.base CX k f fd ps sp)(hr:Room (k+1) X.A)(hb:Binds X.K fd ps ds)(hd:Vals dvs ds)(hx:Passes CX X E)(I:Inv X pins σ H s)(r:Vals vs us)(hz:us.length<=sizeLine)(h:∀x,H x=none->sp (.ref x::(vs++dvs)) (upd H x (ErrN x C none)) (λv H2=>v=.non/\Q (.ref x) H2) E):wpAny (model X.prog X.w) X.A (call (.ref C) us) (EP X pins σ Q) X.xe s:=by
 refine FZ (h:=s.heap) (g:=s.gens) (d:=s.drawn) (t:=s.toks) (os:=s.os) I.kIn c hz λh' a ha mk=>?_;obtain⟨kk,_,T,ge,_,_⟩:=mk;have hq:=h a (I.hok.fresh ha);have I2:Inv X pins σ (upd H a (ErrN a C none)) {s with heap:=h'}:=I.laid (t':=s.toks) kk ha (Je.mpr ⟨_,_,ge,rfl,rfl,rfl,by simp,by simp⟩);have r2:Vals (V.ref a::(vs++dvs)) (Value.ref a::(us++ds)):=.cons rfl (r.append hd);have hl:(Value.ref a::us++ds).length=ps.length:=by have e:=r2.length;rw[F.len _ _ _ _ hq]at e;exact e.symm
 refine gv (fD (F.run _ X.stack {s with heap:=h'} _ ⟨Value.ref a::us,[]⟩ (Value.ref a::(us++ds)) _ _ E (hr.make C us []) (I2.env0.make C us []) (hb _ (Value.ref a::us) I2.kIn hl) r2 hq) λr s' hq'=>?_);cases r with
|error e=>exact hx pins σ _ _ e s' I2 hq'
|ok fl=>
  cases fl with
 |ret u=>obtain⟨v,H',I3,rv,ev,q3⟩:=I2.after hq';subst ev;exact⟨rv,⟨V.ref a,H',I3,rfl,q3⟩⟩
 |next=>exact bL hq'
 |brk=>exact bL hq'
 |cont=>exact bL hq'
end
noncomputable def del(H:Hp)(a:Addr):Hp:=λb=>if b=a then none else H b
theorem J5{H:Hp}{a:Addr}:del H a a=none:=by simp[del]
theorem Jh{H:Hp}{a b:Addr}(h:b≠a):del H a b=H b:=by simp[del,h]
section
variable {M:Model}{A:aL}{E:Value->ah->Prop}{env:Env}{K:af}
theorem Wh{s:ah}{x:Sem Value}{Q:Flow->ah->Prop}(hh:A.handled=none)(h:wpAny M A x (λv s₁=>∃e oe C fI Qa vs,v=.ref e/\XC K C fI Qa/\K.In s₁.heap/\s₁.heap.get? e=some oe/\oe.cls=.ref C/\oe.data=.fields vs/\vs[1]?=some .none/\E (.ref e) s₁) E s):wpAny M A (raiseStmt env (some x) none) Q E s:=by
 unfold raiseStmt;refine ae (cM h (λv s₁ h₁=>?_) λ_ _ x=>x);obtain⟨e,⟨oc,od,odt,osl⟩,C,fI,Qa,vs,rfl,c,KI,he,hc,hvs,h1,hE⟩:=h₁;obtain rfl:oc=.ref C:=hc;obtain rfl:odt=.fields vs:=hvs;obtain⟨hp,g,d,tk,os⟩:=s₁;obtain⟨nm,q,N,bs,sn,sub,ab,col,dd,k0,k1,k2,k3,k5,lk,nok,hin⟩:=id c.obj;have hC:=KI _ _ lk;have hcB:(Value.ref C::.ref Qa::bmV).contains (.type "BaseException")=true:=by rw[dC,dC,show bmV.contains (.type "BaseException")=true from by decide,Bool.or_true,Bool.or_true]
 repeat (first|with_reducible refine b_ he ?_|with_reducible refine b_ hC ?_|(with_reducible refine fB hC ?_;rw[hcB])|wp_step)
 show wpAny M A (match vs[1]? with|some x=>pure x|none=>unsupported "internal:no-such-field") _ _ _
 rw[h1];refine ai ?_;show wpAny M A (if(Value.none != Value.none)=true then _ else pure ()) _ _ _;rw[if_neg (by decide)];exact ai (wpAny_raiseNew_none hh hE)
end
section
variable {X:Cx}{pins:List (Addr×Obj)}{σ:St}{H:Hp}{s:ah}{a C:Addr}{dd:Option Addr}{E:XK}
theorem raised(I:Inv X pins σ H s)(e:H a=some (ErrN a C dd))(hE:E (.ref C) dd (del H a)):CX1 X.prog X.w X.stack H s E (.ref a) s:=by
 obtain⟨o,vs,hx,hc,hdd,hd,hz,h1⟩:=Je.mp (I.hok a _ e);have na:∀b u,H b=some u->(∀φ,u≠.ext φ)->b≠a:=λb u q n z=>by subst z;rw[e]at q;cases q;exact n _ rfl
 have fr:a∉frs X.stack:=λz=>by rw[I.stkFree a z]at e;cases e
 have hB:∀b o',s.heap.get? b=some o'->b≠a->b∉frs X.stack->(fN s.heap (a::frs X.stack)).get? b=some o':=λb o' q n1 n2=>PySem.W.hideAll_get _ q λz=>by
  rcases au.mp z with z|z
  ·exact n1 z
  ·exact n2 z
 refine⟨a,.ref C,dd,fN s.heap (a::frs X.stack),del H a,rfl,rfl,I.bare,⟨λb o q _ _ _=>q,λb o q _ _ _=>⟨o.slots,q⟩,λb o q n _=>?_,λb o q _=>⟨o,q⟩,λb xs q=>(Jh (na b _ q (by simp))).trans q,λb o u q=>(Jh (na b _ q (by simp))).trans q,λb ps q=>⟨#[],by rw[Jh (na b _ q (by simp))];simpa using q⟩⟩,?_,?_,?_,hE⟩
 ·by_cases hb:b=a
  ·rw[hb];exact J5
  ·rw[Jh hb];exact n
 ·intro b u q;have hb:b≠a:=λz=>by rw[z,J5]at q;cases q
  rw[Jh hb]at q;exact(I.hok b u q).stay (λ_ _ _ z=>z) (λc z=>(Jh (na c _ z (by simp))).trans z) λc xs z=>(Jh (na c _ z (by simp))).trans z
 ·refine⟨λb u q=>PySem.W.of_hideAll _ q,f6 _ (.head _),?_,o,vs,hx,hc,hdd,hd,hz,.inl ⟨h1,rfl⟩⟩;have go:∀l:List Env,(∀b∈frs l,b∈a::frs X.stack)->s.heap.FunFrames X.base l->s.heap.FunFrames (fN s.heap (a::frs X.stack)) l:=by
   intro l;induction l with
  |nil=>intro _ _;trivial
  |cons env r ih=>
    intro hs ⟨hk,⟨L,oL,hf,hn,ho,hnd⟩,hr⟩;have hL:frs (env::r)=L::frs r:=by unfold frs;rw[eR,hf]
    exact⟨hk,⟨L,oL,hf,f6 _ (hs L (by rw[hL];exact .head _)),ho,hnd⟩,ih (λb hb=>hs b (by rw[hL];exact .tail _ hb)) hr⟩
  exact go X.stack (λb hb=>.tail _ hb) I.stack
 ·refine⟨λb u q=>?_,λb o' q n hb=>hB b o' q (λz=>by rw[z,e]at n;cases n) hb,λb o' q=>?_,J5⟩
  ·have hb:b≠a:=λz=>by rw[z,J5]at q;cases q
   rw[Jh hb]at q;obtain⟨o',z⟩:=Qp (I.hok b u q);exact⟨o',hB b o' z hb λm=>by rw[I.stkFree b m]at q;cases q⟩
  ·by_cases hb:b=a
   ·exact .inr (.inl hb)
   ·by_cases hf:b∈frs X.stack
    ·exact .inl hf
    ·exact .inr (.inr ⟨o',hB b o' q hb hf⟩)
end
noncomputable def ErrC(x C:Addr)(dd:Option Addr):HO:=.ext λh=>∃o vs,h.get? x=some o/\o.cls=.ref C/\o.dict=dd/\o.data=.fields vs
structure XB(K:af)(D:Addr):Prop where
 obj:∃nm q N bs bm hd sn sub ab col dd k0 k1 k2 k3 k5 nid,K.lookup D=some (excClassObj nm q D N bs bm hd sn sub ab col dd k0 k1 k2 k3 k5 nid)/\bm.contains (.type "BaseException")=true
theorem TJ{P:Program}{w:World}{H:Hp}{h:Heap}{x C:Addr}{dd:Option Addr}:ZE P w H h x (ErrC x C dd)↔∃o vs,h.get? x=some o/\o.cls=.ref C/\o.dict=dd/\o.data=.fields vs:=by
 constructor
 ·intro z;exact z.1
 ·rintro ⟨o,vs,hx,r⟩;exact⟨⟨o,vs,hx,r⟩,⟨o,hx⟩,λh1 h2⟨o',vs',e,r'⟩k=>⟨o',vs',k _ e,r'⟩⟩
section
variable {M:Model}{A:aL}{E:Value->ah->Prop}{K:af}{C D fI Qa e:Addr}{h:Heap}{g:Array GenState}{d:Drawn}{t:Nat}{os:bA}{oe:Obj}
theorem GU{Q:Bool->ah->Prop}(KI:K.In h)(c:XC K C fI Qa)(b:XB K D)(he:h.get? e=some oe)(hcls:oe.cls=.ref C)(hq:Q ((Value.ref C::.ref Qa::bmV).contains (.ref D)) ⟨h,g,d,t,os⟩):wpAny M A (excMatches (.ref e) (.ref D)) Q E ⟨h,g,d,t,os⟩:=by
 obtain⟨nm,q,N,bs,sn,sub,ab,col,dd,k0,k1,k2,k3,k5,lk,nok,hin⟩:=id c.obj;obtain⟨nm',q',N',bs',bm',hd',sn',sub',ab',col',dd',k0',k1',k2',k3',k5',nid',lk',hb'⟩:=b.obj;have hC:=KI _ _ lk;have hD:=KI _ _ lk';have hcB:(Value.ref D::bm').contains (.type "BaseException")=true:=by rw[dC,hb',Bool.or_true]
 have f:=tc_notTuple;generalize hcc:(Value.ref C::.ref Qa::bmV).contains (.ref D)=bb at hq;unfold excMatches;repeat (first|(with_reducible refine b_ he ?_;rw[hcls])|with_reducible refine b_ hC ?_|with_reducible refine b_ hD ?_|(with_reducible refine fB hD ?_;rw[hcB])|(with_reducible refine fB hC ?_;rw[hcc])|wp_step)
 first
 |exact hq
 |(cases bb<;>(wp_walk;exact hq))
theorem HQ{B:Heap}{x:Addr}{c:Value}{dd:Option Addr}{s:ah}{Q:Unit->ah->Prop}(F:RecX B x c dd .none s.heap)(hQ:∀h',(∀b o,s.heap.get? b=some o->h'.get? b=some o)->Q () {s with heap:=h'}):wpAny M A (setFlight (.ref x) none) Q E s:=by
 obtain⟨o,vs,hx,hc,hdd,hd,hz,tr⟩:=F;unfold setFlight;rcases tr with⟨h1,_⟩|⟨T,oT,ts,h1,bT,nT,hT,hdT,h3⟩
 ·refine ae (bc hx hd h1 ?_);rw[if_neg (by decide)];exact ai (hQ _ λ_ _ z=>z)
 ·have z3:3<ts.size:=(ff.mp h3).1;refine ae (bc hx hd h1 ?_);rw[if_pos (show(Value.ref T != Value.none)=true from by simp)];refine bz hT hdT z3 (hQ _ λb u hb=>?_);by_cases hbT:b=T
  ·subst hbT;rw[hT]at hb;cases hb;have es:ts.setIfInBounds 3 Value.none=ts:=by
    apply Array.ext
    ·simp
    ·intro i h1 h2;rw[Array.getElem_setIfInBounds]
     ·split
      ·rename_i e3;subst e3;rw[bI z3]at h3;exact(ao h3).symm
      ·rfl
   have eo:Obj.mapFields (·.setIfInBounds 3 ((none:Option Addr).elim Value.none λf=>bC f)) oT=oT:=by obtain⟨a1,a2,a3,a4⟩:=oT;cases hdT;show(⟨a1,a2,.fields (ts.setIfInBounds 3 Value.none),a4⟩:Obj)=_;rw[es]
   have:=Heap.get?_update_self (Obj.mapFields (·.setIfInBounds 3 ((none:Option Addr).elim Value.none λf=>bC f))) hT (by rw[eo];exact Obj.isFreed_of_fields hdT);rw[this,eo]
  ·rw[Heap.get?_update_other _ _ (bw hbT)];exact hb
end
noncomputable abbrev Cx.hot(X:Cx)(e:Value):Cx:={X with A:=X.A.mark (some e),calm:=false,xe:=λ_ _=>False}
section
variable {X:Cx}{pins:List (Addr×Obj)}{σ:St}{H:Hp}{s:ah}{e:Value}
theorem Cx.Ok.hot(ok:X.Ok)(e:Value):(X.hot e).Ok:=⟨ok.mod,ok.kind,ok.glob,ok.blt,ok.above,ok.inj,ok.has,ok.cab,(λz=>absurd (show false=true from z) (by decide)),ok.frames,ok.stk,ok.exf,ok.bs,ok.bsz,ok.noex,ok.exfs,ok.funs,ok.frf⟩
theorem Inv.hot(I:Inv X pins σ H s)(e:Value):Inv (X.hot e) pins σ H s:=⟨I.ok.hot e,I.os,I.bare,I.base,I.loc,I.cell,I.free,I.freeC,I.pin,I.hok,I.len⟩
theorem Inv.unhot(ok:X.Ok)(I:Inv (X.hot e) pins σ H s):Inv X pins σ H s:=⟨ok,I.os,I.bare,I.base,I.loc,I.cell,I.free,I.freeC,I.pin,I.hok,I.len⟩
theorem forget{M:Model}{A:aL}{E:Value->ah->Prop}{i:Nat}{n:Str}{pos:Pos}{Q:Unit->ah->Prop}(I:Inv X pins σ H s)(hN:X.N.Nodup)(hi:X.N[i]?=some n)(hk:X.env.scope.names.lookup n=some .local)
  (h:∀s',Inv X pins (σ.set i none) H s'->Q () s'):wpAny M A (do bindName X.env n .none;unbindBehindTheSuite X.env n pos) Q E s:=by
 obtain⟨m,hn,hl⟩:=id I.loc
 have hcls:(X.env.scope.kind==.class||(X.env.scope.kind==.module&&X.env.locals != X.env.globals))=false:=by rw[I.ok.kind];rfl
 have hiσ:i<σ.length:=by rw[I.len];exact(aw.mp hi).1
 refine wpAny_nameGoes_keeps hk hn hcls λh' v hn' hs=>?_
 have up:∀b o,X.s₀.heap.get? b=some o->b≠X.env.locals:=λb o q=>Nat.ne_of_lt (Nat.lt_of_lt_of_le (Heap.lt_size q) I.ok.above)
 refine h _ ⟨I.ok,I.os,I.bare,⟨λb o q n' hb hx=>(hs.2 b (up b o q)).trans (I.base.keep b o q n' hb hx),λb o q n' hb hx=>?_,I.base.free,λb o q hx=>?_,I.base.tups,I.base.frzs,I.base.tbls⟩,⟨_,hn',λj y v' e1 e2 e3=>?_⟩,λy c q=>?_,I.free,I.freeC,λp hp=>?_,λb ob q=>?_,by simpa using I.len⟩
 ·obtain⟨sl,e1⟩:=I.base.slot b o q n' hb hx
  exact⟨sl,(hs.2 b (up b o q)).trans e1⟩
 ·obtain⟨o',e1⟩:=I.base.there b o q hx
  exact⟨o',(hs.2 b (up b o q)).trans e1⟩
 ·by_cases hj:j=i
  ·subst hj
   rw[fW hiσ]at e2
   cases e2
  ·rw[gm (bw hj)]at e2
   obtain⟨u',r',q⟩:=hl j y v' e1 e2 e3
   refine⟨u',r',?_⟩
   rcases q with⟨k,q⟩|⟨k,c,q,z⟩
   ·refine .inl ⟨k,?_⟩
    have:y≠n:=λz=>hj (My hN e1 (z▸hi))
    simp[this,q]
   ·exact .inr ⟨k,c,q,z.sameBut hs (I.cne y c q)⟩
 ·obtain⟨w',z⟩:=I.cell y c q
  exact⟨w',z.sameBut hs (I.cne y c q)⟩
 ·obtain⟨q,n',ne,nf,d⟩:=I.pin p hp
  exact⟨(hs.2 p.1 ne).trans q,n',ne,nf,d⟩
 ·refine(I.hok b ob q).stay (λc w' hc z=>(hs.2 c ?_).trans z) (λ_ z=>z) λ_ _ z=>z
  rintro rfl
  rcases hc with rfl|hc
  ·rw[I.free]at q;cases q
  ·rw[I.free]at hc;cases hc
end
section
variable {X:Cx}{pins:List (Addr×Obj)}{σ:St}{H:Hp}{s:ah}{x C fI Qa Dc:Addr}{dd:Option Addr}{B:Heap}{cn n:Str}{i:Nat}{p pos:Pos}{b₀:Stmt}{suite:List Stmt}{rest:List fX}{ts:TS}{D:Ends}
noncomputable def lose(i:Nat)(D:Ends):Ends:={nx:=λσ H=>D.nx (σ.set i none) H,rt:=D.rt,bk:=λσ H=>D.bk (σ.set i none) H,ct:=λσ H=>D.ct (σ.set i none) H}
theorem RR{nm:Option Str}(I:Inv X pins σ H s)(R:RecX B x (.ref C) dd .none s.heap)(c:XC X.K C fI Qa)(b:XB X.K Dc)(hg:Gl X cn)(hm:X.mg cn=some (.ref Dc))(no:(Value.ref C::.ref Qa::bmV).contains (.ref Dc)=false)(h:wpAny (model X.prog X.w) X.A (handleBy (.ref x) X.env rest) (SP X pins D) X.xe s)(hd:(cn==("__debug__":Str))=false:=by decide):wpAny (model X.prog X.w) X.A (handleBy (.ref x) X.env (.ExceptHandler (some (.Name cn p)) nm (b₀::suite) pos::rest)) (SP X pins D) X.xe s:=by obtain⟨o,vs,hx,hc,_⟩:=R;refine wpAny_handleBy_cons (codeAny_handlers_test ?_) (by intro q;cases q);refine Vm (X:=X.hot (.ref x)) (I.hot _) hg hm ?_ hd;obtain⟨hh,g,d,tk,os⟩:=s;refine GU I.kIn c b hx hc ?_;rw[no];exact h
theorem WI(I:Inv X pins σ H s)(hH:H x=some (ErrC x C dd))(R:RecX B x (.ref C) dd .none s.heap)(c:XC X.K C fI Qa)(b:XB X.K Dc)(hg:Gl X cn)(hm:X.mg cn=some (.ref Dc))(yes:(Value.ref C::.ref Qa::bmV).contains (.ref Dc)=true)(hN:X.N.Nodup)(hi:X.N[i]?=some n)(hk:X.env.scope.names.lookup n=some .local)(hs:PSs (X.hot (.ref x)) (b₀::suite) ts)(h:ts (lose i D) (σ.set i (some (.ref x))) H)(hd:(cn==("__debug__":Str))=false:=by decide):wpAny (model X.prog X.w) X.A (handleBy (.ref x) X.env (.ExceptHandler (some (.Name cn p)) (some n) (b₀::suite) pos::rest)) (SP X pins D) X.xe s:=by
 obtain⟨o,vs,hx,hc,_⟩:=id R;refine wpAny_handleBy_cons (codeAny_handlers_test ?_) (by intro q;cases q);refine Vm (X:=X.hot (.ref x)) (I.hot _) hg hm ?_ hd;obtain⟨hh,g,d,tk,os⟩:=s;refine GU I.kIn c b hx hc ?_;rw[yes];refine codeAny_handlers_suite_as (HQ R λh' k=>?_);have I2:Inv X pins σ H ⟨h',g,d,tk,os⟩:=I.kept (t':=tk) k;refine Mm (X:=X.hot (.ref x)) (v:=.ref x) (I2.hot _) hN hi (.inl hk) rfl (λs3 I3=>?_) (.inr hk);refine cM (hs pins s3 _ H (lose i D) I3 h) (λf s4 q=>?_) λ_ _ z=>bL z;cases f with
|next=>obtain⟨σ',H',J,q⟩:=q;exact forget (J.unhot I.ok) hN hi hk λs' J'=>⟨_,H',J',q⟩
|brk=>obtain⟨σ',H',J,q⟩:=q;exact forget (J.unhot I.ok) hN hi hk λs' J'=>⟨_,H',J',q⟩
|cont=>obtain⟨σ',H',J,q⟩:=q;exact forget (J.unhot I.ok) hN hi hk λs' J'=>⟨_,H',J',q⟩
|ret u=>obtain⟨v,σ',H',J,r,q⟩:=q;exact forget (J.unhot I.ok) hN hi hk λs' J'=>⟨v,_,H',J',r,q⟩
end
section
variable {X:Cx}{pins:List (Addr×Obj)}{σ:St}{H1 H2:Hp}{s1 s2:ah}{x C:Addr}{dd:Option Addr}{B h':Heap}{fl:Value}
theorem D7(I:Inv X pins σ H1 s1)(os:s2.os=s1.os)(bare:fC s2.gens)(un:Un (frs X.stack) [] H1 H2 s1.heap s2.heap)(hok:HOk X.prog X.w H2 s2.heap)(F:Fly B X.stack x (.ref C) dd .none s2.heap)(b:BaseX B (frs X.stack) x H1 H2 s1.heap)(F':Fly B X.stack x (.ref C) dd fl h')(U:s2.heap.UpToSlots h'):Inv X pins σ (upd H2 x (ErrC x C dd)) {s2 with heap:=h'}:=by
 have nx:∀d o,s1.heap.get? d=some o->H1 d=none->d≠x:=by
  rintro d o e n rfl;by_cases hd:d∈frs X.stack
  ·obtain⟨_,o1,e1,nf⟩:=I.stack.mem hd;rw[e]at e1;cases e1;obtain⟨sl,q⟩:=un.slot d o e n hd (by simp);obtain⟨o3,vs,q3,_,_,q4,_⟩:=F.row;rw[q]at q3;cases q3;exact nf vs q4
  ·have:=b.old d o e n hd;rw[F.new]at this;cases this
 have hne:∀d u,H2 d=some u->d≠x:=by rintro d u e rfl;rw[b.xn]at e;cases e
 have hok':HOk X.prog X.w H2 h':=QI hok b.trk F.keep F'.keep;refine I.call' (s':={s2 with heap:=h'}) (ch:=[]) os ⟨λd o e n hd _=>F'.keep d o (b.old d o e n hd),λd o e n hd _=>?_,λd o e n hx=>?_,λd o e _=>?_,λd xs e=>?_,λd o u e=>?_,λd ps e=>?_⟩ (λd u e=>?_) bare λd z=>absurd z (by simp)
 ·obtain⟨sl,q⟩:=un.slot d o e n hd (by simp);obtain⟨_,o1,e1,nf⟩:=I.stack.mem hd;rw[e]at e1;cases e1;obtain⟨sl2,q2⟩:=U d _ q nf;exact⟨sl2,q2⟩
 ·rw[Zg (nx d o e n)];exact un.free d o e n hx
 ·rcases b.all d o e with z|z|⟨o',z⟩
  ·obtain⟨_,o1,e1,nf⟩:=I.stack.mem z;rw[e]at e1;cases e1;obtain⟨sl,q⟩:=un.slot d o e (I.stkFree d z) z (by simp);obtain⟨sl2,q2⟩:=U d _ q nf;exact⟨_,q2⟩
  ·subst z;obtain⟨o3,_,q,_⟩:=F'.row;exact⟨o3,q⟩
  ·exact⟨o',F'.keep d o' z⟩
 ·have:=un.tups d xs e;rw[Zg (hne d _ this)];exact this
 ·have:=un.frzs d o u e;rw[Zg (hne d _ this)];exact this
 ·obtain⟨more,this⟩:=un.tbls d ps e;exact⟨more,by rw[Zg (hne d _ this)];exact this⟩
 ·by_cases hd:d=x
  ·subst hd;rw[Zb]at e;cases e;obtain⟨o,vs,q1,q2,q3,q4,_⟩:=F'.row;exact TJ.mpr ⟨o,vs,q1,q2,q3,q4⟩
  ·rw[Zg hd]at e;exact(hok' d u e).stay (λ_ _ _ q=>q) (λc q=>by rw[Zg (hne c _ q)];exact q) λc xs q=>by rw[Zg (hne c _ q)];exact q
end
noncomputable abbrev Cx.tryX(X:Cx)(E:Value->ah->Prop)(pn':List (Addr×Obj)):Cx:={X with xe:=E,pn:=pn'}
section
variable {X:Cx}{pins pins':List (Addr×Obj)}{σ:St}{H:Hp}{s:ah}{E:Value->ah->Prop}
theorem Inv.try(I:Inv X pins σ H s)(E:Value->ah->Prop):Inv (X.tryX E (X.pn++pins)) [] σ H s:=⟨⟨I.ok.mod,I.ok.kind,I.ok.glob,I.ok.blt,I.ok.above,I.ok.inj,I.ok.has,I.ok.cab,I.ok.hd,I.ok.frames,I.ok.stk,I.ok.exf,I.ok.bs,I.ok.bsz,I.ok.noex,I.ok.exfs,I.ok.funs,I.ok.frf⟩,I.os,I.bare,I.base,I.loc,I.cell,I.free,I.freeC,λp hp=>I.pin p (by simpa using hp),I.hok,I.len⟩
theorem Inv.untry(ok:X.Ok)(I:Inv (X.tryX E (X.pn++pins)) pins' σ H s):Inv X pins σ H s:=⟨ok,I.os,I.bare,I.base,I.loc,I.cell,I.free,I.freeC,λp hp=>I.pin p (ba _ hp),I.hok,I.len⟩
end
def Vh(CX:CXT)(X:Cx)(E:XK)(p:St->Prop):Prop:=∀(pins:List (Addr×Obj))(σ:St)(H:Hp)(s:ah)(e:Value)(s':ah),p σ->Inv X pins σ H s->CX X.stack H s E e s'->X.xe e s'
def Hd(X:Cx)(hs:List fX)(th:Addr->Addr->Option Addr->TS):Prop:=∀(pins:List (Addr×Obj))(s:ah)(σ:St)(H:Hp)(D:Ends)(x C:Addr)(dd:Option Addr)(B:Heap),Inv X pins σ H s->H x=some (ErrC x C dd)->RecX B x (.ref C) dd .none s.heap->th x C dd D σ H ->wpAny (model X.prog X.w) X.A (handleBy (.ref x) X.env hs) (SP X pins D) X.xe s
noncomputable def hNil:Addr->Addr->Option Addr->TS:=λ_ _ _ _ _ _=>False
noncomputable def hAs(K:af)(Dc:Addr)(i:Nat)(ts:Addr->TS)(r:Addr->Addr->Option Addr->TS):Addr->Addr->Option Addr->TS:=λx C dd D σ H=>∃fI Qa,XC K C fI Qa /\(((Value.ref C::.ref Qa::bmV).contains (.ref Dc)=true/\ts x (lose i D) (σ.set i (some (.ref x))) H)\/((Value.ref C::.ref Qa::bmV).contains (.ref Dc)=false/\r x C dd D σ H))
def sTry(tb:(St->Prop)->XK->TS)(th:Addr->Addr->Option Addr->TS):TS:=λD σ H=>∃E:XK,tb (λσ'=>σ'=σ) E D σ H/\∀c dd H',E c dd H'->∃C,c=.ref C/\∀x,H' x=none->th x C dd D σ (upd H' x (ErrC x C dd))
section
variable {X:Cx}{Dc:Addr}{cn n:Str}{i:Nat}{p pos:Pos}{b₀:Stmt}{suite:List Stmt}{rest:List fX}{ts:Addr->TS}{r th:Addr->Addr->Option Addr->TS}
theorem FK:Hd X [] hNil:=λ_ _ _ _ _ _ _ _ _ _ _ _ h=>bL h
theorem HX(b:XB X.K Dc)(hg:Gl X cn)(hm:X.mg cn=some (.ref Dc))(hN:X.N.Nodup)(hi:X.N[i]?=some n)(hk:X.env.scope.names.lookup n=some .local)(hs:∀x,PSs (X.hot (.ref x)) (b₀::suite) (ts x))(hr:Hd X rest r)(hd:(cn==("__debug__":Str))=false:=by decide):Hd X (.ExceptHandler (some (.Name cn p)) (some n) (b₀::suite) pos::rest) (hAs X.K Dc i ts r):=by
 rintro pins s σ H D x C dd B I hH R ⟨fI,Qa,c,⟨yes,h⟩|⟨no,h⟩⟩
 ·exact WI I hH R c b hg hm yes hN hi hk (hs x) h hd
 ·exact RR I R c b hg hm no (hr pins s σ H D x C dd B I hH R h) hd
theorem EY{body:List Stmt}{h₀:fX}{hs:List fX}{tb:(St->Prop)->XK->TS}(hst:X.stack=X.env::X.outer/\X.env.frame=some X.env.locals)(hb:∀(E':Value->ah->Prop)(pn':List (Addr×Obj))(p:St->Prop)(E:XK),Vh (CX1 X.prog X.w) (X.tryX E' pn') E p->PSs (X.tryX E' pn') body (tb p E))(hh:Hd X (h₀::hs) th):PS X (.Try body (h₀::hs) [] [] pos) (sTry tb th):=by
 rintro pins s σ H D I ⟨E,hbody,hE⟩;refine wpAny_Try_except ?_;generalize hXE:(λ(e:Value)(s₁:ah)=>wpAny (model X.prog X.w) X.A (noteFrame e X.env) (λ_ s₂=>wpAny (model X.prog X.w) X.A (setFlight e none) (λ_ s₃=>wpAny (model X.prog X.w) X.A (handleBy e X.env (h₀::hs)) (SP X pins D) X.xe s₃) X.xe s₂) X.xe s₁)=E';have hp:Vh (CX1 X.prog X.w) (X.tryX E' (X.pn++pins)) E (λσ'=>σ'=σ):=by
  rintro pins' σ' H1 s1 e s2 eσ J ⟨x,c,dd,B,H2,rfl,os,bare,un,hok,F,b,hc⟩;subst eσ;obtain⟨C,rfl,hth⟩:=hE c dd H2 hc;show E' (.ref x) s2;rw[<-hXE];have J':Inv X pins σ' H1 s1:=J.untry I.ok;have fr:X.A.frames=some (X.env::X.outer):=by rw[J'.ok.frames,hst.1]
  have FF:Fly B (X.env::X.outer) x (.ref C) dd .none s2.heap:=by rw[<-hst.1];exact F
  refine QK fr hst.2 FF λh1 F1 U1=>?_;refine QL (s:={s2 with heap:=h1}) F1 λh2 F2 U2=>?_;have F2':Fly B X.stack x (.ref C) dd .none h2:=by rw[hst.1];exact F2
  have I2:Inv X pins σ' (upd H2 x (ErrC x C dd)) {s2 with heap:=h2}:=D7 J' os bare un hok F b F2' (U1.trans U2);exact hh pins _ σ' _ D x C dd B I2 (Zb ..) F2.row (hth x b.xn)
 refine cM (hb E' (X.pn++pins) _ E hp [] s σ H D (I.try E') hbody) (λf s1 q=>?_) λe s1 q=>?_
 ·cases f with
 |next=>obtain⟨σ',H',J,q⟩:=q;exact gH ⟨σ',H',J.untry I.ok,q⟩
 |brk=>obtain⟨σ',H',J,q⟩:=q;exact⟨σ',H',J.untry I.ok,q⟩
 |cont=>obtain⟨σ',H',J,q⟩:=q;exact⟨σ',H',J.untry I.ok,q⟩
 |ret u=>obtain⟨v,σ',H',J,r,q⟩:=q;exact⟨v,σ',H',J.untry I.ok,r,q⟩
 ·exact q
end
def tAt(p:St->Prop)(t:TE):TE:=λσ H Q=>p σ/\t σ H Q
section
variable {X:Cx}{CX:CXT}{k:Nat}{f C Qa:Addr}{fd:bH}{ps:List Str}{sp:Sp}{dvs:List V}{ds:List Value}{E:XK}{x m:Str}{pp pos apos:Pos}{e o:Expr}{es:List Expr}{ta:TE}{t:TA}{p:St->Prop}
def Q2(CX:CXT)(X:Cx)(E:XK)(σ:St):Prop:=∀(pins:List (Addr×Obj))(H:Hp)(s:ah)(e:Value)(s':ah),Inv X pins σ H s->CX X.stack H s E e s'->X.xe e s'
theorem Vh.at{σ:St}(h:Vh CX X E p)(hp:p σ):Q2 CX X E σ:=λpins H s e s' I c=>h pins σ H s e s' hp I c
theorem HY{pins:List (Addr×Obj)}{σ:St}{H:Hp}{s:ah}{Q:VK}{us:List Value}{vs:List V}(F:FnOk X.prog X.w X.K X.mg X.base CX k f fd ps sp)(hr:Room k X.A)(hb:Binds X.K fd ps ds)(hd:Vals dvs ds)(hx:Q2 CX X E σ)(I:Inv X pins σ H s)(r:Vals vs us)(h:sp (vs++dvs) H Q E):wpAny (model X.prog X.w) X.A (call (.ref f) us) (EP X pins σ Q) X.xe s:=by
 have r2:Vals (vs++dvs) (us++ds):=r.append hd;have hl:(us++ds).length=ps.length:=(r2.length).symm.trans (F.len _ _ _ _ h);refine gv (fD (F.run X.A X.stack s H ⟨us,[]⟩ (us++ds) (vs++dvs) Q E hr I.env0 (hb s us I.kIn hl) r2 h) λres s' hq=>?_);match res,hq with
|.error e,hq=>exact hx pins H s e s' I hq
|.ok (.ret u),hq=>exact I.after hq
|.ok .next,hq=>exact hq.elim
|.ok .brk,hq=>exact hq.elim
|.ok .cont,hq=>exact hq.elim
theorem Mw{pl:Sem Bool}(he:PE X o ta)(c:Cls X.K C)(hm:Meth X.K C m f)(F:FnOk X.prog X.w X.K X.mg X.base CX k f fd ps sp)(hr:Room k X.A)(hb:Binds X.K fd ps ds)(hd:Vals dvs ds)(hx:Vh CX X E p)(ha:PA X (e::es) t)
  (hst:aA (e::es) X.env=(false,eval e X.env)::aA es X.env:=by rfl) (hpl:(b8 pos (aA es X.env)).any (·.1)=false:=by rfl)
  (ht:eval (.Call (.Attribute o m apos) (e::es) [] pos) X.env=(do
   let ov <-eval o X.env
   gu apos.atName
   let (f,first) <-eS [ov] (eQ ov m pl)
   f_ pos f first (b8 pos (aA (e::es) X.env)) (d6 pos (cU [] X.env))):=by rfl):
  PE X (.Call (.Attribute o m apos) (e::es) [] pos) (tAt p (Nl C m sp dvs E ta t)):=by
 rintro pins s σ H Q I ⟨hp,h⟩
 refine dE (pl:=pl) (thn (he pins s σ H _ I h) λu s1 hZ=>?_) ht;obtain⟨x,H1,I1,rx,a,dx,fs,ex,ea,l,q⟩:=hZ
 subst ex
 obtain rfl:u=Value.ref a:=rx
 refine JF I1 ea c hm l ?_
 refine du (first:=[.ref a]) (h₀:=X.base) I.ok.mod.kin hm.kp (thn (ha pos pins s1 σ H1 _ I1 q) λus s2⟨vs,H2,I2,r,q2⟩=>⟨I2.kIn,?_⟩) hst hpl
 exact HY (us:=.ref a::us) (vs:=.ref a::vs) F hr hb hd (hx.at hp) I2 (.cons rfl r) q2
end
structure XR(K:af)(C:Addr):Prop where
 ga:ak K (.ref C) "__getattribute__"=some (some (.builtin "BaseException.__getattribute__"))
 gg:ak K (.ref C) "__getattr__"=some none
 hd:bZ K C=true
 be:cL K C (.type "BaseException")=some true
section
variable {prog:Program}{w:World}{A:aL}{E:Value->ah->Prop}{K:af}{s:ah}{x C d:Addr}{o:Obj}{mA:Str->Option Value}{f:Str}{v:Value}{expr:Bool}{Q:Value->ah->Prop}
theorem xget(X:K.In s.heap)(r:XR K C)(hx:s.heap.get? x=some o)(hc:o.cls=.ref C)(hdt:∃vs,o.data=.fields vs)(hdd:o.dict=some d)(hn:s.heap.Ns1 d mA)(ha:ak K (.ref C) f=some none)(hv:mA f=some v)(hh:gY v=true)(h:Q v {s with toks:=s.toks+1}):wpAny (model prog w) A (getAttr (.ref x) f expr) Q E s:=by
 obtain⟨od,ho,hl⟩:=NA hn;have no:fY o=true:=by obtain⟨vs,e⟩:=hdt;unfold fY;rw[e]
 have I:iu s.heap x o C (some od):=⟨hx,hc,no,by rw[hdd];exact ho⟩;have FB:=PySem.F.attrBase_ValueError;obtain⟨hp,g,dr,t,os⟩:=s;have L0:=I.type (M:=model prog w);have L1:=eh (M:=model prog w) X r.ga;have L2:=eh (M:=model prog w) X r.gg;have L3:=PySem.W.looks_find (M:=model prog w) X I (PySem.W.findObj_own r.hd ha rfl (by rw[hl,hv]));have sub:PySem.W.Looks (model prog w) hp (isInstance (.ref x) (.type "BaseException")) true:=L0.andThen (PySem.W.looks_mroIn X r.be);unfold getAttr getAttrBy;refine ae (wpAny_mkText (aW (ae (L0.at (ae (L1.at ?_))))));show wpAny _ _ (if(onTheHeap (Value.ref C)&&Value.builtin "BaseException.__getattribute__"==Value.builtin "object.__getattribute__")=true then _ else _) _ _ _;rw[if_neg (by simp)];unfold getAttrByItsOwn hookBefore;rw[if_pos (show onTheHeap (Value.ref C)=true from rfl)];refine ae (L2.at ?_);refine ae (dN (aW ?_));unfold callGetattribute;rw[if_neg (show ¬((expr&&onTheHeap (Value.builtin "BaseException.__getattribute__"))=true)from by cases expr<;>simp[onTheHeap])];unfold boundAndCalled;rw[FB.ga.bind];refine ae (ai ?_);refine gv (codeAny_call_builtin FB.ga.plain PySem.F.entry_bexc_ga (@PySem.W.check_slot (model prog w) _ _ _ "BaseException.__getattribute__" "BaseException" "__getattribute__" (.ref x) [.str f t] [] _ (by decide +kernel) (by decide +kernel) sub (PySem.F.args_bexc_ga (.ref x) (.str f t)) ?_));unfold cC.«object.__getattribute__»;refine ae (ai (ae (ai (ae (L0.at (ae (L3.at (ai ?_))))))));show wpAny _ _ (handedOut v) _ _ _;rw[PySem.W.handedOut_of hh];exact ai h
end
def T6(H:Hp)(a C d:Addr):Prop:=H a=some (ErrC a C (some d))\/H a=some (ErrN a C (some d))
theorem T6.obj{P:Program}{w:World}{H:Hp}{h:Heap}{a C d:Addr}(e:T6 H a C d)(ok:HOk P w H h):∃o vs,h.get? a=some o/\o.cls=.ref C/\o.dict=some d/\o.data=.fields vs:=by
 rcases e with e|e
 ·exact TJ.mp (ok a _ e)
 ·obtain⟨o,vs,h1,h2,h3,h4,_⟩:=Je.mp (ok a _ e);exact⟨o,vs,h1,h2,h3,h4⟩
def F9(K:af)(ta:TE)(f:Str):TE:=λσ H Q=>ta σ H λx H1=>∃a C d fs v,x=.ref a/\T6 H1 a C d/\H1 d=some (XD d fs)/\XR K C/\Z1 K C f/\fs.lookup f=some v/\Q v H1
section
variable {X:Cx}{o:Expr}{ta:TE}{f:Str}{pos:Pos}
theorem DJ(ha:PE X o ta)(hb:dq o f X.env (eval o X.env)=eval o X.env:=by rfl):PE X (.Attribute o f pos) (F9 X.K ta f):=by intro pins s σ H Q I h;refine TV hb (thn (ha pins s σ H _ I h) λov s1 hZ=>?_);obtain⟨x,H1,I1,rx,a,C,d,fs,v,ex,ea,ed,c,n,l,q⟩:=hZ;subst ex;obtain rfl:ov=Value.ref a:=rx;obtain⟨ob,vs,h1,h2,h3,h4⟩:=ea.obj I1.hok;obtain⟨mA,ns,r,_⟩:=Sw.mp (I1.hok d _ ed);obtain⟨u,hu,ru⟩:=RelO.some_of (v:=v) (o:=mA f) (by rw[<-l];exact r f);exact xget I1.kIn c h1 h2 ⟨vs,h4⟩ h3 ns n hu (NH ru) ⟨v,H1,I1.tok _,ru,q⟩
end
section
variable {P:Program}{w:World}{K:af}{mg:Str->Option Value}{base:Heap}
theorem Fun.okX{x qual:Str}{st:Stmt}{f:Addr}{fd:bH}{N ps:List Str}{k:Nat}{sp:Sp}(F:Fun K x qual st f fd)(S:FnScope N ps (Ze st))(len:∀vs H Q E,sp vs H Q E->vs.length=ps.length)(hbody:∀(cdv:Value)(A:aL)(outer:List Env)(s:ah)(H:Hp)(vs:List V)(Q:VK)(E:XK),Room k (A.deeper (dD qual (Ze st) s.heap.objs.size f cdv))->sp vs H Q E ->∃t,PSs (cxOf (CX1 P w) P w K mg base N qual (Ze st) f cdv A outer s H E) (Zz st) t/\t {nx:=λ_ H'=>Q .non H',rt:=Q} (start N vs) H):FnOk P w K mg base (CX1 P w) (k+1) f fd ps sp:=by obtain⟨oc,od,kV,doc,pm,an,cdv,ct,osl,rfl,lk,hcd⟩:=F.ex;exact Ey lk hcd S len λA outer s H vs Q E hr hsp=>hbody cdv A outer s H vs Q E hr hsp
def CanX(P:Program)(w:World)(K:af)(mg:Str->Option Value)(base:Heap)(k:Nat)(x:Str)(ps:List Str)(sp:Sp):Prop:=∃f fd,FnOk P w K mg base (CX1 P w) k f fd ps sp/\mg x=some (.ref f)/\aJ K (.ref f)=true/\Binds K fd ps []
theorem CanX.mono{j k:Nat}{x:Str}{ps:List Str}{sp:Sp}(C:CanX P w K mg base j x ps sp)(h:j<=k):CanX P w K mg base k x ps sp:=by obtain⟨f,fd,F,r⟩:=C;exact⟨f,fd,F.mono h,r⟩
theorem Df.canX{x:Str}{st:Stmt}{N ps:List Str}{k:Nat}{sp:Sp}(D:Df K mg x st ps)(S:FnScope N ps (Ze st))(len:∀vs H Q E,sp vs H Q E->vs.length=ps.length)(hbody:∀(f:Addr)(cdv:Value)(A:aL)(outer:List Env)(s:ah)(H:Hp)(vs:List V)(Q:VK)(E:XK),Room k (A.deeper (dD x (Ze st) s.heap.objs.size f cdv))->sp vs H Q E ->∃t,PSs (cxOf (CX1 P w) P w K mg base N x (Ze st) f cdv A outer s H E) (Zz st) t/\t {nx:=λ_ H'=>Q .non H',rt:=Q} (start N vs) H):CanX P w K mg base (k+1) x ps sp:=by obtain⟨f,fd,F,m,b⟩:=D;exact⟨f,fd,F.okX S len (λcdv A outer s H vs Q E hr h=>hbody f cdv A outer s H vs Q E hr h),m,F.kp,b⟩
end
section
variable {X:Cx}{E:XK}
theorem Jc{k:Nat}{x:Str}{ps:List Str}{sp:Sp}{p pos:Pos}{e:Expr}{es:List Expr}{t:TA}(C:CanX X.prog X.w X.K X.mg X.base k x ps sp)(hx:Passes (CX1 X.prog X.w) X E)(hr:Room k X.A)(hg:Gl X x)(ha:PA X (e::es) t)(hdb:(x==("__debug__":Str))=false:=by decide)(he:aA (e::es) X.env=(false,eval e X.env)::aA es X.env:=by rfl)(hpl:(b8 pos (aA es X.env)).any (·.1)=false:=by rfl):PE X (.Call (.Name x p) (e::es) [] pos) (Nn sp [] E t):=by obtain⟨f,fd,F,m,kp,b⟩:=C;exact Te F hr hg m kp b .nil hx ha hdb he hpl
end
def Rj(C:Addr)(names:List Str):Sp:=λvs H Q _=>∃a xs,vs=.ref a::xs/\xs.length=names.length/\H a=some (ErrN a C none) /\∀H' d,d≠a->H d=none->H' a=some (ErrN a C (some d))->H' d=some (XD d (names.zip xs))->(∀b,b≠a->b≠d->H' b=H b)->Q .non H'
structure Err(P:Program)(w:World)(K:af)(mg:Str->Option Value)(base:Heap)(x:Str)(names:List Str)(C:Addr):Prop where
 xc:∃fI Qa fd ps,XC K C fI Qa/\FnOk P w K mg base CX0 1 fI fd ps (Rj C names)/\ps.length<=1000/\Binds K fd ps []
 xr:XR K C
 mg:mg x=some (.ref C)
 kp:aJ K (.ref C)=true
section
variable {X:Cx}{E:XK}{x:Str}{names:List Str}{C:Addr}{p cpos pos:Pos}{e:Expr}{es:List Expr}{t:TA}
def DB(C:Addr)(names:List Str)(t:TA)(E:XK):TS:=λ_ σ H=>t σ H λvs H1=>vs.length=names.length/\∀H' d,H1 d=none->H' d=some (XD d (names.zip vs))->(∀b,b≠d->H' b=H1 b)->E (.ref C) (some d) H'
theorem Jn(R:Err X.prog X.w X.K X.mg X.base x names C)(hx:Passes (CX1 X.prog X.w) X E)(hcalm:X.calm=true)(hr:Room 2 X.A)(hg:Gl X x)(ha:PA X (e::es) t)(hdb:(x==("__debug__":Str))=false:=by decide)(he:aA (e::es) X.env=(false,eval e X.env)::aA es X.env:=by rfl)(hpl:(b8 cpos (aA es X.env)).any (·.1)=false:=by rfl):PS X (.Raise (some (.Call (.Name x p) (e::es) [] cpos)) none pos) (DB C names t E):=by
 obtain⟨fI,Qa,fd,ps,xc,F,hn,hb⟩:=R.xc;intro pins s σ H D I h;rw[arm_exec_Raise];refine ae (eU ?_);refine Wh (K:=X.K) (I.ok.hd hcalm) (ae (cM (dM (Vm I hg R.mg ?_ hdb)) (λu s1 q=>ae (eU (ai q))) λ_ _ z=>z));refine du (h₀:=X.base) I.ok.mod.kin R.kp (thn (ha cpos pins s σ H _ I h) λus s1⟨vs,H1,I1,r,hl,q⟩=>⟨I1.kIn,?_⟩) he hpl;refine thn (We (k:=1) (E:=E0) (Q:=λv H2=>∃a d H',v=.ref a/\H2 a=some (ErrN a C (some d))/\del H2 a=H'/\E (.ref C) (some d) H') (dvs:=[]) (ds:=[]) xc F hr hb .nil Yk I1 r ?_ λa ha'=>?_) λu s2 q2=>?_
 ·rw[fe];have e1:=r.length;have e2:=F.len (.ref s1.heap.objs.size::vs) (upd H1 s1.heap.objs.size (ErrN s1.heap.objs.size C none)) (λ_ _=>True) E0 ⟨_,vs,rfl,hl,Zb ..,λ_ _ _ _ _ _ _=>trivial⟩;rw[aP]at e2;have e3:us.length=vs.length:=e1.symm;show us.length<=_;omega
 ·rw[bo];refine⟨a,vs,rfl,hl,Zb ..,λH' d hne hd h1 h2 h3=>⟨rfl,a,d,_,rfl,h1,rfl,q (del H' a) d ?_ ?_ ?_⟩⟩
  ·rwa [Zg hne]at hd
  ·rw[Jh hne];exact h2
  ·intro b hb;by_cases hba:b=a
   ·rw[hba,J5,ha']
   ·rw[Jh hba,h3 b hba hb,Zg hba]
 ·obtain⟨v,H2,I2,rv,a,d,H',ev,ea,eH,hE⟩:=q2;subst ev;obtain rfl:u=Value.ref a:=rv;obtain⟨o,vs',hx',hc,hdd,hd,hz,h1⟩:=Je.mp (I2.hok a _ ea);exact⟨a,o,C,fI,Qa,vs',rfl,xc,I2.kIn,hx',hc,hd,h1,hx pins σ H2 s2 _ s2 I2 (raised I2 ea (by rw[eH];exact hE))⟩
end
noncomputable def V9(f v:Str)(p1 p2 p3 p4:Pos):Stmt:=.Assign [.Attribute (.Name "self" p1) f p2] (.Name v p3) p4
theorem JO{N ps:List Str}{sc:Scope}(S:FnScope N ps sc){x:Str}(h:x∈ps):Vis sc x:=by
 rcases S.par x h with z|z
 ·exact .inl z
 ·exact .inr (.inl z)
section
variable {P:Program}{w:World}{K:af}{mg:Str->Option Value}{base:Heap}{fI C Qa:Addr}{fd:bH}{qual f1 v1 f2 v2 f3 v3:Str}{st:Stmt}{p1 p2 p3 p4 q1 q2 q3 q4 r1 r2 r3 r4:Pos}
def Plain(x:Str):Prop:=(x==("__debug__":Str))=false/\(x==("__classdict__":Str))=false
theorem HS(F:Fun K "__init__" qual st fI fd)(S:FnScope ["self",v1] ["self",v1] (Ze st))(hb:Zz st=[V9 f1 v1 p1 p2 p3 p4])(pl:Plain v1)(xc:XC K C fI Qa)(n1:Z1 K C f1):FnOk P w K mg base CX0 1 fI fd ["self",v1] (Rj C [f1]):=by
 refine F.ok (k:=0) S (λvs H Q E h=>?_) λcdv A outer s H vs Q E hr h=>?_
 ·obtain⟨a,xs,rfl,hl,_⟩:=h;rw[aP,hl];rfl
 ·obtain⟨a,xs,rfl,hl,hH,k⟩:=h;obtain⟨y,rfl⟩:=len1 hl;rw[hb];refine⟨_,Zj (SV (JB (i:=0) rfl (JO S (by simp)) (by decide) (by decide)) (JB (i:=1) rfl (JO S (by simp)) pl.1 pl.2) rfl),?_⟩;refine⟨y,rfl,.ref a,rfl,a,C,fI,Qa,rfl,hH,xc,n1,λd hne hd=>?_⟩;exact k _ d hne hd (Zb ..) (by rw[Zg hne,Zb];rfl) λb hb1 hb2=>by rw[Zg hb1,Zg hb2]
theorem HR(F:Fun K "__init__" qual st fI fd)(S:FnScope ["self",v1,v2,v3] ["self",v1,v2,v3] (Ze st))(hb:Zz st=[V9 f1 v1 p1 p2 p3 p4,V9 f2 v2 q1 q2 q3 q4,V9 f3 v3 r1 r2 r3 r4])(pl1:Plain v1)(pl2:Plain v2)(pl3:Plain v3)(xc:XC K C fI Qa)(n1:Z1 K C f1)(n2:Z1 K C f2)(n3:Z1 K C f3)(h12:f1≠f2)(h13:f1≠f3)(h23:f2≠f3):FnOk P w K mg base CX0 1 fI fd ["self",v1,v2,v3] (Rj C [f1,f2,f3]):=by
 refine F.ok (k:=0) S (λvs H Q E h=>?_) λcdv A outer s H vs Q E hr h=>?_
 ·obtain⟨a,xs,rfl,hl,_⟩:=h;rw[aP,hl];rfl
 ·obtain⟨a,xs,rfl,hl,hH,k⟩:=h;obtain⟨y,z,u,rfl⟩:=len3 hl;rw[hb];refine⟨_,Zd (SV (JB (i:=0) rfl (JO S (by simp)) (by decide) (by decide)) (JB (i:=1) rfl (JO S (by simp)) pl1.1 pl1.2) rfl) (Zd (SW (JB (i:=0) rfl (JO S (by simp)) (by decide) (by decide)) (JB (i:=2) rfl (JO S (by simp)) pl2.1 pl2.2) rfl) (Zj (SW (JB (i:=0) rfl (JO S (by simp)) (by decide) (by decide)) (JB (i:=3) rfl (JO S (by simp)) pl3.1 pl3.2) rfl))),?_⟩;refine⟨y,rfl,.ref a,rfl,a,C,fI,Qa,rfl,hH,xc,n1,λd hne hd=>?_⟩;refine⟨z,rfl,.ref a,rfl,a,C,fI,Qa,d,[(f1,y)],rfl,Zb ..,by rw[Zg hne,Zb],hne,by simp,xc,n2,?_⟩;refine⟨u,rfl,.ref a,rfl,a,C,fI,Qa,d,putF f2 z [(f1,y)],rfl,Zb ..,by rw[Zg hne,Zb],hne,by simp[putF,h12],xc,n3,?_⟩;refine k _ d hne hd (Zb ..) ?_ λb hb1 hb2=>by rw[Zg hb1,Zg hb2,Zg hb1,Zg hb2,Zg hb1,Zg hb2]
  rw[Zg hne,Zb];show some (XD d (putF f3 u (putF f2 z [(f1,y)])))=_;simp[putF,h12,h13,h23]
end
structure XK1(K:af)(mg:Str->Option Value)(x:Str)(C fI Qa:Addr):Prop where
 xc:XC K C fI Qa
 xr:XR K C
 xb:XB K C
 mg:mg x=some (.ref C)
 kp:aJ K (.ref C)=true
section
variable {K:af}{σ:St}{H:Hp}{Q:VK}{i:Nat}{n:Int}{p:Addr}{xs:List V}{v:V}
theorem iaL(hp:H p=some (.lst xs))(hj:atI xs n=some v)(k:Q v H)(hv:σ[i]?=some (some (.ref p)):=by rfl):tOp (rIxL K) (tVar i) (tC (.int n)) σ H Q:=⟨_,hv,p,xs,n,v,rfl,rfl,SqL.of hp,hj,k⟩
theorem iaT(hp:H p=some (.tup xs))(hj:atI xs n=some v)(k:Q v H)(hv:σ[i]?=some (some (.ref p)):=by rfl):tOp (rIxT K) (tVar i) (tC (.int n)) σ H Q:=⟨_,hv,p,xs,n,v,rfl,rfl,SqT.of hp,hj,k⟩
theorem ixL(j:Nat)(hp:H p=some (.lst xs))(hj:xs[j]?=some v)(k:Q v H)(hv:σ[i]?=some (some (.ref p)):=by rfl):tOp (rIxL K) (tVar i) (tC (.int j)) σ H Q:=iaL hp (Zv hj) k hv
theorem ixT(j:Nat)(hp:H p=some (.tup xs))(hj:xs[j]?=some v)(k:Q v H)(hv:σ[i]?=some (some (.ref p)):=by rfl):tOp (rIxT K) (tVar i) (tC (.int j)) σ H Q:=iaT hp (Zv hj) k hv
theorem mthV{C t dx:Addr}{m:Str}{sp:Sp}{dvs:List V}{E:XK}{ta:TA}{fs:List (Str×V)}(ht:H t=some (.ins C dx fs))(ho:fs.lookup m=none)(k:ta σ H λvs H2=>sp (.ref t::(vs++dvs)) H2 Q E)(hv:σ[i]?=some (some (.ref t)):=by rfl):Nl C m sp dvs E (tVar i) ta σ H Q:=⟨_,hv,t,dx,fs,rfl,ht,ho,k⟩
end
section
variable {X:Cx}{a b e:Expr}{es:List Expr}{ta tb te:TE}{t:TA}{pos:Pos}
noncomputable def notStar:Expr->Bool
|.Starred ..=>false
|_=>true
theorem Rg{env:Env}(h:notStar e=true):aA (e::es) env=(false,eval e env)::aA es env:=by cases e<;>first|rfl|cases h
theorem Za(ha:PE X e te)(hr:PA X es t)(hn:notStar e=true:=by rfl):PA X (e::es) (JH te t):=Zk ha hr (Rg hn)
theorem pa1(ha:PE X e te)(hn:notStar e=true):PA X [e] (JH te tNil):=Za ha Zh hn
theorem pa2(ha:PE X e te)(hb:PE X a ta)(hn:(notStar e&&notStar a)=true):PA X [e,a] (JH te (JH ta tNil)):=Za ha (pa1 hb (Bool.and_eq_true_iff.mp hn).2) (Bool.and_eq_true_iff.mp hn).1
theorem pa3(ha:PE X e te)(hb:PE X a ta)(hc:PE X b tb)(hn:(notStar e&&(notStar a&&notStar b))=true):PA X [e,a,b] (JH te (JH ta (JH tb tNil))):=Za ha (pa2 hb hc (Bool.and_eq_true_iff.mp hn).2) (Bool.and_eq_true_iff.mp hn).1
theorem nmT(i:Nat){x:Str}(hN:X.N.Nodup)(hi:X.N[i]?=some x:=by rfl)(hx:Loc X.env.scope x:=by exact bh rfl)(hf:X.fn x=true\/X.env.scope.names.lookup x=some .local:=by first|exact .inl rfl|exact .inr rfl|assumption):PG X (.Name x pos) (YI i):=JA hN hi hx hf
theorem il(K:af)(ha:PE X a ta)(hb:PE X b tb)(hK:X.K=K:=by rfl)(hs:PL b:=by exact λ_ _=>rfl):PE X (.Subscript a b pos) (tOp (rIxL K) ta tb):=by subst hK;exact Yj D8 ha hb hs
theorem it(K:af)(ha:PE X a ta)(hb:PE X b tb)(hK:X.K=K:=by rfl)(hs:PL b:=by exact λ_ _=>rfl):PE X (.Subscript a b pos) (tOp (rIxT K) ta tb):=by subst hK;exact Yj Z8 ha hb hs
theorem cn{k j:Nat}{x:Str}{ps:List Str}{sp:Sp}{p:Pos}(C:Can X.prog X.w X.K X.mg X.base k x ps sp)(hr:Room j X.A)(ha:PA X (e::es) t)(hk:k<=j:=by decide)(hg:Gl X x:=by rfl)(hdb:(x==("__debug__":Str))=false:=by decide)(he:aA (e::es) X.env=(false,eval e X.env)::aA es X.env:=by rfl)(hpl:(b8 pos (aA es X.env)).any (·.1)=false:=by rfl):PE X (.Call (.Name x p) (e::es) [] pos) (Nn sp [] E0 t):=Z3 C (hr.mono hk) hg ha hdb he hpl
theorem st(i:Nat){x:Str}{p:Pos}(hN:X.N.Nodup)(he:PE X e te)(hi:X.N[i]?=some x:=by rfl)(hx:Loc X.env.scope x:=by exact bh rfl)(hs:fG e (some (.Name x p)) pos.line X.env=pure false:=by rfl)(hf:X.fn x=true\/X.env.scope.names.lookup x=some .local:=by first|exact .inl rfl|exact .inr rfl):PS X (.Assign [.Name x p] e pos) (tAsg te (YI i)):=Yx hN hi hx he hs hf
end
theorem Room.m{j k:Nat}{A:aL}(r:Room k A)(h:j<=k:=by decide):Room j A:=r.mono h
theorem zl{n:Nat}(h:Nat.ble n 1000=true:=by rfl):n<=sizeLine:=Nat.le_trans (Nat.le_of_ble_eq_true h) (by decide)
theorem gE{α:Type}{l:List α}{i:Nat}(h:i<l.length):l[i]?=some l[i]:=List.getElem?_eq_getElem h
theorem lm{α β:Type}{f:α->β}{l:List α}:(l.map f).length=l.length:=bu f
theorem scO{N P:List Str}{sc:Scope}(h:sc.kind=.function/\sc.isCoroutine=false/\sc.isGenerator=false/\N.Nodup/\N.take P.length=P/\(∀x∈P,sc.names.lookup x=some .local\/sc.names.lookup x=some .cell)/\∀y∈sc.names,y.2≠.free:=by decide +kernel):FnScope N P sc:=⟨h.1,h.2.1,h.2.2.1,h.2.2.2.1,h.2.2.2.2.1,h.2.2.2.2.2.1,h.2.2.2.2.2.2⟩
noncomputable def csx(l:List (Str×dW)):Scope:={kind:=.function,names:=l,isGenerator:=false,isCoroutine:=false,more:=[]}
section
variable {P:Program}{w:World}{K:af}{mg:Str->Option Value}{base:Heap}{x:Str}{st:Stmt}{N ps:List Str}{k:Nat}{sp:Sp}
theorem Df.cn(D:Df K mg x st ps)(S:FnScope N ps (Ze st))(hb:∀(f:Addr)(cdv:Value)(A:aL)(outer:List Env)(s:ah)(H:Hp)(vs:List V)(Q:VK)(E:XK),Room k (A.deeper (dD x (Ze st) s.heap.objs.size f cdv))->sp vs H Q E->∃t,PSs (cxOf CX0 P w K mg base N x (Ze st) f cdv A outer s H E).nox (Zz st) t/\t {nx:=λ_ H'=>Q .non H',rt:=Q} (start N vs) H)(len:∀vs H Q E,sp vs H Q E->vs.length=ps.length:=by intro _ _ _ _ h;repeat (obtain⟨a,h⟩:=h;first|(subst a;rfl)|skip)):Can P w K mg base (k+1) x ps sp:=D.can S len hb
theorem Df.cnX(D:Df K mg x st ps)(S:FnScope N ps (Ze st))(hb:∀(f:Addr)(cdv:Value)(A:aL)(outer:List Env)(s:ah)(H:Hp)(vs:List V)(Q:VK)(E:XK),Room k (A.deeper (dD x (Ze st) s.heap.objs.size f cdv))->sp vs H Q E->∃t,PSs (cxOf (CX1 P w) P w K mg base N x (Ze st) f cdv A outer s H E) (Zz st) t/\t {nx:=λ_ H'=>Q .non H',rt:=Q} (start N vs) H)(len:∀vs H Q E,sp vs H Q E->vs.length=ps.length:=by intro _ _ _ _ h;repeat (obtain⟨a,h⟩:=h;first|(subst a;rfl)|skip)):CanX P w K mg base (k+1) x ps sp:=D.canX S len hb
end
theorem tq{a b:TS}{D:Ends}{σ:St}{H:Hp}(h:∀D':Ends,(∀σ' H',b D σ' H'->D'.nx σ' H')->a D' σ H):tSeq a b D σ H:=h _ λ_ _ x=>x
theorem shp{σ:St}{p:(Nat->Option V)->St}(h:σ=p λi=>σ.getD i none):∃o,σ=p o:=⟨_,h⟩
theorem td{a:TS}{D:Ends}{σ:St}{H:Hp}(h:∀D':Ends,(∀σ' H',D.nx σ' H'->D'.nx σ' H')->a D' σ H):a D σ H:=h _ λ_ _ x=>x
theorem tqr{a b:TS}{D:Ends}{σ:St}{H:Hp}(h:∀D':Ends,(∀σ' H',b D σ' H'->D'.nx σ' H')->(∀v H',D.rt v H'->D'.rt v H')->a D' σ H):tSeq a b D σ H:=h _ (λ_ _ x=>x) (λ_ _ x=>x)
def X0(K:af)(w:World)(a:Addr)(z:Str)(v:V):Prop:=∃es n u,K.lookup a=some ⟨.type "dict",none,.dict es n,#[]⟩/\PySem.W.KeysLit w.params es.toList/\aX K a z=some (some u)/\RelV v u
def Hw(K:af)(w:World)(td ty:TE):TE:=λσ H Q=>td σ H λx H1=>ty σ H1 λy H2=>∃a z v,x=.ref a/\y=.str z/\X0 K w a z v/\Q v H2
section
variable {X:Cx}{o i:Expr}{td ty:TE}{pos:Pos}
theorem Pr(ho:PE X o td)(hi:PE X i ty)(hs:NoSl i):PE X (.Subscript o i pos) (Hw X.K X.w td ty):=by intro pins s σ H Q I h;refine SD PySem.F.slot_dict_getitem.lookup hs (thn (ho pins s σ H _ I h) λu s1⟨x,H1,I1,rx,q1⟩=>thn (hi pins s1 σ H1 _ I1 q1) λiv s2 hZ=>?_);obtain⟨y,H2,I2,ry,a,z,v,ex,ey,⟨es,n,u',hl,hk,hn,rv⟩,q2⟩:=hZ;subst ex ey;obtain rfl:u=Value.ref a:=rx;obtain⟨t,rfl⟩:=(show ∃t,iv=Value.str z t from ry);have hm:=PySem.W.mapOf_K (prog:=X.prog) I2.kIn hl hk;exact⟨hm.typeIs,wpAny_getItem_of (strKind_is X.prog X.w z t) hm (PySem.W.find_K hl hn) ⟨v,H2,I2.tok _,rv,q2⟩⟩
end
end L2
namespace T
open PySem L2
noncomputable def top(i:Nat):Stmt:=ag.main.body.getD i (.Pass ⟨0,0,0,0⟩)
noncomputable abbrev m_BadTable___init__:Stmt:=inClass (top 3) 0
noncomputable abbrev m_NoSpot___init__:Stmt:=inClass (top 4) 0
noncomputable abbrev f_is_whole:Stmt:=top 11
noncomputable abbrev f_is_within:Stmt:=top 12
noncomputable abbrev f_is_text_of:Stmt:=top 13
noncomputable abbrev f_is_name:Stmt:=top 14
noncomputable abbrev f_is_group_name:Stmt:=top 15
noncomputable abbrev m_Step___init__:Stmt:=inClass (top 17) 0
noncomputable abbrev m_Step_key:Stmt:=inClass (top 17) 1
noncomputable abbrev m_Step_tail:Stmt:=inClass (top 17) 2
noncomputable abbrev m_Step_head:Stmt:=inClass (top 17) 3
noncomputable abbrev m_SetOut___init__:Stmt:=inClass (top 18) 0
noncomputable abbrev m_Ride___init__:Stmt:=inClass (top 19) 0
noncomputable abbrev m_Walk___init__:Stmt:=inClass (top 20) 0
noncomputable abbrev m_Wait___init__:Stmt:=inClass (top 21) 0
noncomputable abbrev f_set_outs_of:Stmt:=top 22
noncomputable abbrev f_walks_of:Stmt:=top 23
noncomputable abbrev f_waits_of:Stmt:=top 24
noncomputable abbrev f_moves_of:Stmt:=top 25
noncomputable abbrev f_steps_of:Stmt:=top 26
noncomputable abbrev f_is_spot_of:Stmt:=top 28
noncomputable abbrev m_Web___init__:Stmt:=inClass (top 29) 0
noncomputable abbrev m_Web_all_steps:Stmt:=inClass (top 29) 1
noncomputable abbrev m_Web_is_spot:Stmt:=inClass (top 29) 2
noncomputable abbrev m_Web_refuse_no_node:Stmt:=inClass (top 29) 3
noncomputable abbrev m_Web_leading_out:Stmt:=inClass (top 29) 4
noncomputable abbrev m_Web_leading_in:Stmt:=inClass (top 29) 5
noncomputable abbrev f_is_known:Stmt:=top 37
noncomputable abbrev f_rows_of:Stmt:=top 38
noncomputable abbrev f_wrong_beginning:Stmt:=top 39
noncomputable abbrev f_wrong_ends:Stmt:=top 40
noncomputable abbrev f_wrong_place:Stmt:=top 41
noncomputable abbrev f_wrong_ride:Stmt:=top 42
noncomputable abbrev f_wrong_way:Stmt:=top 43
noncomputable abbrev f_wrong_group:Stmt:=top 44
noncomputable abbrev f_refuse_row:Stmt:=top 45
noncomputable abbrev m_Table___init__:Stmt:=inClass (top 46) 0
noncomputable abbrev m_Table_take_places:Stmt:=inClass (top 46) 1
noncomputable abbrev m_Table_take_rides:Stmt:=inClass (top 46) 2
noncomputable abbrev m_Table_take_ways:Stmt:=inClass (top 46) 3
noncomputable abbrev m_Table_take_groups:Stmt:=inClass (top 46) 4
noncomputable abbrev m_Table_is_place:Stmt:=inClass (top 46) 6
noncomputable abbrev m_Table_is_home:Stmt:=inClass (top 46) 7
noncomputable abbrev m_Table_is_group:Stmt:=inClass (top 46) 10
noncomputable abbrev f__law_box:Stmt:=top 49
noncomputable abbrev f__law_take:Stmt:=top 50
noncomputable abbrev f__law_names:Stmt:=top 51
noncomputable abbrev f__law_places:Stmt:=top 52
noncomputable abbrev f__law_size:Stmt:=top 53
noncomputable abbrev f__law_ends:Stmt:=top 54
noncomputable abbrev f__law_ride:Stmt:=top 55
noncomputable abbrev f__law_way:Stmt:=top 56
noncomputable abbrev f__law_group:Stmt:=top 57
noncomputable abbrev f__law_world:Stmt:=top 58
noncomputable abbrev f__law_steps:Stmt:=top 59
noncomputable abbrev f__law_table:Stmt:=top 60
noncomputable abbrev f__law_keys:Stmt:=top 61
noncomputable abbrev f__law_of_node:Stmt:=top 62
noncomputable abbrev f__law_refused:Stmt:=top 63
noncomputable abbrev f__law_is:Stmt:=top 64
noncomputable abbrev f__law_of_thing:Stmt:=top 65
noncomputable abbrev f__law_things:Stmt:=top 66
noncomputable abbrev f_law:Stmt:=top 67
end T
namespace K1
noncomputable def LET:List Nat:=[97,98,99,100,101,102,103,104,105,106,107,108,109,110,111,112,113,114,115,116,117,118,119,120,121,122]
noncomputable def FIG:List Nat:=[48,49,50,51,52,53,54,55,56,57]
noncomputable def lenB(n:Int)(y:List Nat):Bool:=decide ((1:Int)<=y.length)&&decide ((y.length:Int)<=n)
noncomputable def YK(n:Int)(zs y:List Nat):Bool:=lenB n y&&y.all λc=>decide (c∈zs)
noncomputable def Jr(n:Int)(zs y:List Nat):Bool:=YK n zs y&&decide (y.getD 0 0∈LET)
open PySem L2
noncomputable abbrev Ky:Stmt:=T.f_is_whole
noncomputable abbrev SS:Stmt:=T.f_is_within
noncomputable abbrev Ph:Stmt:=T.f_is_text_of
noncomputable abbrev Ek:Stmt:=T.f_is_name
noncomputable abbrev Kz:Stmt:=T.f_is_group_name
noncomputable def tLET:Str:="abcdefghijklmnopqrstuvwxyz"
noncomputable def tNAME:Str:="abcdefghijklmnopqrstuvwxyz0123456789"
noncomputable def tGROUP:Str:="abcdefghijklmnopqrstuvwxyz0123456789."
structure Txt(K:af)(mg:Str->Option Value):Prop where
 lets:∃t,mg "LETTERS"=some (.str tLET t)
 names:∃t,mg "NAME_SIGNS"=some (.str tNAME t)
 groups:∃t,mg "GROUP_SIGNS"=some (.str tGROUP t)
 ln:∃t,mg "LONGEST_NAME"=some (.int 8 t)
 lg:∃t,mg "LONGEST_GROUP_NAME"=some (.int 12 t)
 isi:mg "isinstance"=none
 int:mg "int"=none
 bool:mg "bool"=none
 str:mg "str"=none
 len:mg "len"=none
 all:mg "all"=none
noncomputable def W7(x:V):Bool:=Lu x
noncomputable def Zr(x:V)(lo hi:Int):Bool:=match x with
|.int i=>decide (lo<=i)&&decide (i<=hi)
|_=>false
noncomputable def codes(z:Str):List Nat:=z.cps.toList
noncomputable def SA(x:V)(n:Int)(z:Str):Bool:=match x with
|.str y=>YK n (codes z) (codes y)
|_=>false
noncomputable def Ue(x:V)(n:Int)(z:Str):Bool:=match x with
|.str y=>Jr n (codes z) (codes y)
|_=>false
def SH:Sp:=λvs H Q _=>∃x T,vs=[x]/\Th H x T/\Q (.bl (W7 x)) H
def XH:Sp:=λvs H Q _=>∃x T lo hi,vs=[x,.int lo,.int hi]/\Th H x T/\Q (.bl (Zr x lo hi)) H
def Mo:Sp:=λvs H Q _=>∃x T n z,vs=[x,.int n,.str z]/\Th H x T/\∀H',Same H H'->Q (.bl (SA x n z)) H'
def N7(n:Int)(z:Str):Sp:=λvs H Q _=>∃x T,vs=[x]/\Th H x T/\∀H',Same H H'->Q (.bl (Ue x n z)) H'
theorem slen{z:Str}(h:z.length<=1000):z.length<=sizeLine:=Nat.le_of_lt (Xz h)
theorem clen(z:Str):(codes z).length=z.length:=by simp[codes,Str.length]
section
variable {P:Program}{w:World}{K:af}{mg:Str->Option Value}{base:Heap}
theorem Dx:FnScope ["thing"] ["thing"] (Ze Ky):=⟨rfl,rfl,rfl,by decide +kernel,rfl,by decide +kernel,by decide +kernel⟩
theorem NP(T:Txt K mg)(D:Df K mg "is_whole" Ky ["thing"]):Can P w K mg base 1 "is_whole" ["thing"] SH:=by
 refine D.can Dx (λvs H Q E h=>?_) (λf cdv A outer s H vs Q E hr h=>?_)
 ·obtain⟨x,T',rfl,_⟩:=h;rfl
 ·obtain⟨x,T',rfl,th,k⟩:=h;refine⟨_,Zj (Zn (YB (YU (c:="int") (pv 0) rfl T.isi rfl T.int MS) (YF (Ru (YU (c:="bool") (pv 0) rfl T.isi rfl T.bool PH))))),?_⟩;refine⟨_,rfl,_,_,_,_,rfl,th.ty,th.kitI,_,rfl,?_⟩;have fin:∀b,b=W7 x->Q (.bl b) H:=λb e=>e▸k;refine ite2 (λe=>?_) (λe=>fin _ ?_)
  ·refine⟨_,rfl,_,_,_,_,rfl,th.ty,th.kitB,_,rfl,fin _ ?_⟩;cases th<;>first|rfl|(exact absurd (show false=true from e) Bool.false_ne_true)
  ·cases th<;>first|rfl|(exact absurd rfl e)
theorem Ko:FnScope ["thing","low","high"] ["thing","low","high"] (Ze SS):=⟨rfl,rfl,rfl,by decide +kernel,rfl,by decide +kernel,by decide +kernel⟩
theorem MO(D:Df K mg "is_within" SS ["thing","low","high"])(CW:Can P w K mg base 1 "is_whole" ["thing"] SH):Can P w K mg base 2 "is_within" ["thing","low","high"] XH:=by
 refine D.can Ko (λvs H Q E h=>?_) (λf cdv A outer s H vs Q E hr h=>?_)
 ·obtain⟨x,T',lo,hi,rfl,_⟩:=h;rfl
 ·obtain⟨x,T',lo,hi,rfl,th,k⟩:=h;refine⟨_,Zj (Zn (YB (Z3 CW hr rfl (Zk (pv 0) Zh)) (YF (Qm Ny Ny (pv 1) (pv 0) (pv 2))))),?_⟩;refine⟨_,rfl,x,T',rfl,th,_,rfl,?_⟩;have fin:∀b,b=Zr x lo hi->Q (.bl b) H:=λb e=>e▸k;refine ite2 (λe=>?_) (λe=>fin _ ?_)
  ·cases th with
  |int i=>
    refine⟨_,rfl,_,rfl,_,_,rfl,rfl,_,rfl,?_⟩;refine ite2 (λe2=>?_) (λe2=>fin _ ?_)
    ·refine⟨_,rfl,_,_,rfl,rfl,fin _ ?_⟩;show _=(decide (lo<=i)&&decide (i<=hi));rw[e2,Bool.true_and]
    ·show false=(decide (lo<=i)&&decide (i<=hi));have e3:decide (lo<=i)=false:=by simpa using e2
     rw[e3,Bool.false_and]
  |_=>exact absurd (show false=true from e) Bool.false_ne_true
  ·cases th<;>first|rfl|(exact absurd rfl e)
theorem Kt:FnScope ["thing","longest","signs"] ["thing","longest","signs"] (Ze Ph):=⟨rfl,rfl,rfl,by decide +kernel,rfl,by decide +kernel,by decide +kernel⟩
noncomputable def cs1:Scope:={kind:=.function,names:=[(Str.ofString ".0",.local),(Str.ofString "sign",.local),(Str.ofString "signs",.free)],isGenerator:=false,isCoroutine:=false,more:=[]}
theorem FR:CompScope cs1 (Ze Ph):=⟨rfl,by decide +kernel,by decide +kernel,by decide +kernel⟩
theorem FU:(["sign","signs"]:List Str).Nodup:=by decide +kernel
theorem FT:CompNames ["thing","longest","signs"] cs1 ["sign","signs"] [none,some 2]:=.mk' (by decide +kernel)
theorem RJ(z:Str)(c:Nat):(!(ic z ⟨#[c]⟩ 0 z.length 1).isEmpty)=decide (c∈codes z):=PySem.StrLaws.found_one z c
theorem take_all{α β:Type}(l:List α)(p:α->β)(i:Nat)(c:α)(h:l[i]?=some c):(l.take (i+1)).map p=(l.take i).map p++[p c]:=by rw[List.take_add_one,h,a8];rfl
theorem RW(T:Txt K mg)(D:Df K mg "is_text_of" Ph ["thing","longest","signs"]):Can P w K mg base 1 "is_text_of" ["thing","longest","signs"] Mo:=by
 refine D.can Kt (λvs H Q E h=>?_) (λf cdv A outer s H vs Q E hr h=>?_)
 ·obtain⟨x,T',n,z,rfl,_⟩:=h;rfl
 ·obtain⟨x,T',n,z,rfl,th,k⟩:=h;refine⟨_,Zd (ZZ (PW.pt (JJ (Yb (Z2 (YU (c:="str") (pv 0) rfl T.isi rfl T.str MR))) (Xs (Yb (KG Ny Ny Zc (ZO LZ rfl T.len b6 (Zk (pv 0) Zh)) (pv 1)))))) (Zj (Zn JX)) Zx) (Zj (Zn (ZO (L5 rfl) rfl T.all PyProof.Rows.boot_all (Zk (YJ (scope:=cs1) (N:=["sign","signs"]) (cp:=[none,some 2]) rfl FR FT (E2 (pv 0)) (λC s H ex pn=>JA (i:=0) FU rfl (bh rfl)) (λC s H ex pn=>Z9) (λC s H ex pn=>YC Gb (pv 0) (pv 1) (by with_unfolding_all rfl))) Zh)))),?_⟩;have fin:∀b H',Same H H'->b=SA x n z->Q (.bl b) H':=λb H' sm e=>e▸k H' sm;refine⟨_,rfl,_,_,_,_,rfl,th.ty,th.kitS,_,rfl,?_⟩;refine ite2 (λe=>?_) (λe=>?_)
  ·refine iteT (fin _ _ (Same.refl _) ?_);cases th<;>first|rfl|(exact absurd (show false=true from e) Bool.false_ne_true)
  ·cases th with
  |str y hy=>
    have hlen:(codes y).length=y.length:=clen y;refine⟨_,rfl,_,_,rfl,⟨slen hy,rfl⟩,_,_,rfl,rfl,_,rfl,?_⟩;refine ite2 (λe1=>?_) (λe1=>?_)
    ·refine⟨_,rfl,_,_,rfl,rfl,_,rfl,?_⟩;refine ite2 (λe2=>?_) (λe2=>?_)
     ·refine fin _ _ (Same.refl _) ?_;show false=YK n (codes z) (codes y);unfold YK lenB;have e3:decide ((y.length:Int)<=n)=false:=by simpa using e2
      rw[hlen,e3,Bool.and_false,Bool.false_and]
     ·have e3:decide ((y.length:Int)<=n)=true:=by simpa using e2
      refine⟨_,rfl,y,rfl,ZY (J:=Its y) y.length (slen hy) (λi ys τ H1=>H1=H/\ys=((codes y).take i).map (λc=>V.bl (decide (c∈codes z)))/\∃v,τ=[v,some (.str z)]) ⟨rfl,rfl,none,rfl⟩ (λi ys τ H1 p=>?_) (λi ys τ H1 hi p=>hi) (λys τ H1 p=>Nat.le_refl _) (λi ys τ H1 x' H2 hi p yl=>?_) (λys τ H1 p l hl=>?_)⟩
      ·rw[p.2.1,bu,aB];omega
      ·obtain⟨rfl,rfl,v,rfl⟩:=p;obtain⟨rfl,c,hc,rfl⟩:=yl;refine⟨_,rfl,_,rfl,_,_,rfl,rfl,rfl,?_,_,rfl⟩;rw[RJ];exact(take_all (codes y) (λc=>V.bl (decide (c∈codes z))) i c hc).symm
      ·obtain⟨rfl,rfl,v,rfl⟩:=p;refine⟨l,(codes y).map (λc=>decide (c∈codes z)),rfl,SqL.of ?_,fin _ _ (λb o q=>?_) ?_⟩
       ·rw[Zb,<-hlen,aO,dB];rfl
       ·rw[Zg (Zf q hl)];exact q
       ·show _=YK n (codes z) (codes y);unfold YK lenB;rw[hlen,e1,e3,Bool.true_and,Bool.true_and,List.all_map];rfl
    ·refine⟨_,rfl,iteT (fin _ _ (Same.refl _) ?_)⟩;show false=YK n (codes z) (codes y);unfold YK lenB;have e3:decide ((1:Int)<=y.length)=false:=by simpa using e1
     rw[hlen,e3,Bool.false_and,Bool.false_and]
  |_=>exact absurd rfl e
theorem cLET:codes tLET=LET:=by decide +kernel
theorem Aa:codes tNAME=LET++FIG++[]:=by decide +kernel
theorem FX:codes tGROUP=LET++FIG++[46]:=by decide +kernel
theorem Nk{x:V}{n:Int}{z:Str}(h:SA x n z=true):∃y c r,x=.str y/\codes y=c::r:=by
 cases x with
|str y=>
  have h':YK n (codes z) (codes y)=true:=h;unfold YK lenB at h';rw[Bool.and_eq_true,Bool.and_eq_true]at h';have h1:=of_decide_eq_true h'.1.1;cases e:codes y with
 |nil=>rw[e]at h1;simp at h1
 |cons c r=>exact⟨y,c,r,rfl,e⟩
|_=>exact absurd (show false=true from h) Bool.false_ne_true
theorem TX{y:Str}{c:Nat}{r:List Nat}(e:codes y=c::r):atI y.cps.toList 0=some c:=by have e':y.cps.toList=c::r:=e;rw[e'];exact Zv (j:=0) rfl
theorem _root_.L2.Th.strLen{H:Hp}{y:Str}{T:String}(h:Th H (.str y) T):y.length<=1000:=by
 cases h with
|str z h=>exact h
theorem GJ{x:V}{n:Int}{z:Str}(h:SA x n z=false):Ue x n z=false:=by
 cases x with
|str y=>have h':YK n (codes z) (codes y)=false:=h;show(YK n (codes z) (codes y)&&_)=false;rw[h',Bool.false_and]
|_=>rfl
theorem Dw:FnScope ["thing"] ["thing"] (Ze Ek):=⟨rfl,rfl,rfl,by decide +kernel,rfl,by decide +kernel,by decide +kernel⟩
theorem LU(T:Txt K mg)(D:Df K mg "is_name" Ek ["thing"])(CT:Can P w K mg base 1 "is_text_of" ["thing","longest","signs"] Mo):Can P w K mg base 2 "is_name" ["thing"] (N7 8 tNAME):=by
 refine D.can Dw (λvs H Q E h=>?_) (λf cdv A outer s H vs Q E hr h=>?_)
 ·obtain⟨x,T',rfl,_⟩:=h;rfl
 ·obtain⟨x,T',rfl,th,k⟩:=h;obtain⟨t1,h1⟩:=T.ln;obtain⟨t2,h2⟩:=T.names;obtain⟨t3,h3⟩:=T.lets;refine⟨_,Zj (Zn (YB (Z3 CT hr rfl (Zk (pv 0) (Zk (ZQ (v:=V.int 8) rfl h1 ⟨t1,rfl⟩) (Zk (ZQ (v:=V.str tNAME) rfl h2 ⟨t2,rfl⟩) Zh)))) (YF (YC Gb (Yj ME (pv 0) Zc (λ_ _=>rfl)) (ZQ (v:=V.str tLET) rfl h3 ⟨t3,rfl⟩) (by with_unfolding_all rfl))))),?_⟩;refine⟨_,rfl,x,T',8,tNAME,rfl,th,λH' sm=>⟨_,rfl,?_⟩⟩;have fin:∀b,b=Ue x 8 tNAME->Q (.bl b) H':=λb e=>e▸k H' sm;refine ite2 (λe=>?_) (λe=>fin _ ?_)
  ·obtain⟨y,c,r,rfl,ey⟩:=Nk e;refine⟨_,rfl,y,0,c,rfl,rfl,slen th.strLen,TX ey,_,_,rfl,rfl,fin _ ?_⟩;have e':YK 8 (codes tNAME) (codes y)=true:=e;show _=(YK 8 (codes tNAME) (codes y)&&decide ((codes y).getD 0 0∈LET));rw[RJ,e',Bool.true_and,cLET,ey];rfl
  ·exact(GJ (by simpa using e)).symm
theorem Kn:FnScope ["thing"] ["thing"] (Ze Kz):=⟨rfl,rfl,rfl,by decide +kernel,rfl,by decide +kernel,by decide +kernel⟩
theorem WY(T:Txt K mg)(D:Df K mg "is_group_name" Kz ["thing"])(CT:Can P w K mg base 1 "is_text_of" ["thing","longest","signs"] Mo):Can P w K mg base 2 "is_group_name" ["thing"] (N7 12 tGROUP):=by
 refine D.can Kn (λvs H Q E h=>?_) (λf cdv A outer s H vs Q E hr h=>?_)
 ·obtain⟨x,T',rfl,_⟩:=h;rfl
 ·obtain⟨x,T',rfl,th,k⟩:=h;obtain⟨t1,h1⟩:=T.lg;obtain⟨t2,h2⟩:=T.groups;obtain⟨t3,h3⟩:=T.lets;refine⟨_,Zj (Zn (YB (Z3 CT hr rfl (Zk (pv 0) (Zk (ZQ (v:=V.int 12) rfl h1 ⟨t1,rfl⟩) (Zk (ZQ (v:=V.str tGROUP) rfl h2 ⟨t2,rfl⟩) Zh)))) (YF (YC Gb (Yj ME (pv 0) Zc (λ_ _=>rfl)) (ZQ (v:=V.str tLET) rfl h3 ⟨t3,rfl⟩) (by with_unfolding_all rfl))))),?_⟩;refine⟨_,rfl,x,T',12,tGROUP,rfl,th,λH' sm=>⟨_,rfl,?_⟩⟩;have fin:∀b,b=Ue x 12 tGROUP->Q (.bl b) H':=λb e=>e▸k H' sm;refine ite2 (λe=>?_) (λe=>fin _ ?_)
  ·obtain⟨y,c,r,rfl,ey⟩:=Nk e;refine⟨_,rfl,y,0,c,rfl,rfl,slen th.strLen,TX ey,_,_,rfl,rfl,fin _ ?_⟩;have e':YK 12 (codes tGROUP) (codes y)=true:=e;show _=(YK 12 (codes tGROUP) (codes y)&&decide ((codes y).getD 0 0∈LET));rw[RJ,e',Bool.true_and,cLET,ey];rfl
  ·exact(GJ (by simpa using e)).symm
end
end K1
namespace TB
open PySem L2 PySem.Spec PyProof.Rows
def Bad(C:Addr)(p a y:V)(H:Hp)(E:XK):Prop:=∀H' d,H d=none->H' d=some (XD d [("part",p),("at",a),("why",y)])->(∀b,b≠d->H' b=H b)->E (.ref C) (some d) H'
def YS(C:Addr):Sp:=λvs H Q E=>∃p a y,vs=[p,a,y]/\((y=.non/\Q .non H)\/(y≠.non/\Bad C p a y H E))
section
variable {P:Program}{w:World}{K:af}{mg:Str->Option Value}{base:Heap}{C:Addr}
theorem Ku:FnScope ["part","at","why"] ["part","at","why"] (Ze T.f_refuse_row):=scO
theorem VX(B:Err P w K mg base "BadTable" ["part","at","why"] C)(D:Df K mg "refuse_row" T.f_refuse_row ["part","at","why"]):CanX P w K mg base 3 "refuse_row" ["part","at","why"] (YS C):=by
 refine D.cnX Ku λf cdv A outer s H vs Q E hr h=>?_;obtain⟨p,a,y,rfl,h⟩:=h;refine⟨_,Zj (ZZ (ZD JC (pv 2) Z4 (ZC _)) (Zj (Jn (E:=E) B YV rfl hr rfl (Zk (pv 0) (Zk (pv 1) (Zk (pv 2) Zh))))) Zx),?_⟩;refine⟨_,rfl,rfl,_,rfl,?_⟩;rcases h with⟨rfl,h⟩|⟨hn,h⟩
 ·exact iteF h
 ·rw[if_pos (by simp[hn])];exact⟨_,rfl,_,rfl,_,rfl,rfl,h⟩
structure Txt(K:af)(mg:Str->Option Value):Prop where
 turns:∃t,mg "MOST_TURNS"=some (.int 50 t)
 room:∃t,mg "MOST_ROOM"=some (.int 1000 t)
 way:∃t,mg "LONGEST_WAY"=some (.int 50 t)
 people:∃t,mg "MOST_PEOPLE"=some (.int 300 t)
 isi:mg "isinstance"=none
 str:mg "str"=none
 tup:mg "tuple"=none
 lst:mg "list"=none
 len:mg "len"=none
noncomputable def Yh(r:V):V:=if(decide (r=.non)||K1.Zr r 0 1000)=true then .non else .str "number"
def P0:Sp:=λvs H Q _=>∃p n r T,vs=[.ref p]/\H p=some (.tup [n,r])/\Th H r T/\Q (Yh r) H
theorem Kp:FnScope ["row"] ["row"] (Ze T.f_wrong_place):=scO
theorem RS(G:Txt K mg)(D:Df K mg "wrong_place" T.f_wrong_place ["row"])(CI:Can P w K mg base 2 "is_within" ["thing","low","high"] K1.XH):Can P w K mg base 3 "wrong_place" ["row"] P0:=by
 obtain⟨t1,h1⟩:=G.room;refine D.cn Kp λf cdv A outer s H vs Q E hr h=>?_;obtain⟨p,n,r,T',rfl,hp,th,k⟩:=h;refine⟨_,Zd (ZZ (PW.pt (JJ (ZD KW (Yj Z8 (pv 0) Zc (λ_ _=>rfl)) Z4 (ZC _)) (Xs (Z2 (Z3 CI hr rfl (Zk (Yj Z8 (pv 0) Zc (λ_ _=>rfl)) (Zk Zc (Zk (ZQ (v:=V.int 1000) rfl h1 ⟨t1,rfl⟩) Zh)))))))) (Zj (Zn Z4)) Zx) (Zj (Zn Zp)),?_⟩;refine⟨_,rfl,p,[n,r],1,r,rfl,rfl,SqT.of hp,rfl,rfl,_,rfl,?_⟩;unfold Yh at k;refine ite2 (λe=>?_) (λe=>?_)
 ·rw[if_pos (by simp[e])]at k;exact iteT k
 ·refine⟨_,rfl,p,[n,r],1,r,rfl,rfl,SqT.of hp,rfl,r,T',0,1000,rfl,th,_,rfl,?_⟩;refine ite2 (λe2=>?_) (λe2=>?_)
  ·rw[if_pos (by simp[e2])]at k;exact k
  ·rw[if_neg (by simpa using⟨by simpa using e,by simpa using e2⟩)]at k;exact k
noncomputable def ZP(x:V)(kvs:List (Key×V)):Bool:=match x with
|.str z=>(valV kvs (.inr z)).isSome
|_=>false
def N9:Sp:=λvs H Q _=>∃x T d kvs,vs=[x,.ref d]/\Th H x T/\H d=some (.dK kvs)/\Q (.bl (ZP x kvs)) H
theorem Dz:FnScope ["thing","names"] ["thing","names"] (Ze T.f_is_known):=scO
theorem NR(G:Txt K mg)(D:Df K mg "is_known" T.f_is_known ["thing","names"]):Can P w K mg base 1 "is_known" ["thing","names"] N9:=by
 refine D.cn Dz λf cdv A outer s H vs Q E hr h=>?_;obtain⟨x,T',d,kvs,rfl,th,hd,k⟩:=h;refine⟨_,Zj (Zn (YB (YU (c:="str") (pv 0) rfl G.isi rfl G.str MR) (YF (E3 (KR (J4 hr) (pv 0) (pv 1)))))),?_⟩;refine⟨_,rfl,_,_,_,_,rfl,th.ty,th.kitS,_,rfl,?_⟩;have fin:∀b,b=ZP x kvs->Q (.bl b) H:=λb e=>e▸k;refine ite2 (λe=>?_) (λe=>fin _ ?_)
 ·obtain⟨z,rfl⟩:∃z,x=.str z:=by cases th<;>first|exact⟨_,rfl⟩|(exact absurd (show false=true from e) Bool.false_ne_true)
  exact⟨_,rfl,_,rfl,d,_,rfl,DGet.k (k:=cD z) hd,k⟩
 ·cases th<;>first|rfl|(exact absurd rfl e)
end
end TB
namespace L2
open PySem PySem.Spec PyProof.Rows
theorem XY:bX "tuple"=some (.type "tuple"):=by decide +kernel
theorem YZ:bX "list"=some (.type "list"):=by decide +kernel
theorem Th.kitT{K:af}{H:Hp}{v:V}{T:String}(h:Th H v T):aj K (.type T) (.type "tuple")=some (decide (T="tuple")):=by cases h<;>(unfold aj;first|rfl|decide +kernel|(show _=_;simp;rfl))
end L2
namespace TB
open PySem L2 PySem.Spec PyProof.Rows
noncomputable def Z0(g:Bool)(x:V):Bool:=if g=true then K1.Ue x 12 K1.tGROUP else K1.Ue x 8 K1.tNAME
noncomputable def begV(g:Bool)(n:Nat)(kvs:List (Key×V))(xs:List V):V:=if xs.length≠n then .str "form" else if Z0 g (xs.getD 0 .non)=false then .str "name" else if ZP (xs.getD 0 .non) kvs=true then .str "double" else .non
def Row(H:Hp)(v:V)(r:Option (List V)):Prop:=match r with
|none=>∃T,Th H v T/\T≠"tuple"
|some xs=>∃p,v=.ref p/\H p=some (.tup xs)/\∀x∈xs,∃T,Th H x T
noncomputable def begR(g:Bool)(n:Nat)(kvs:List (Key×V)):Option (List V)->V
|none=>.str "form"
|some xs=>begV g n kvs xs
structure Sizes(K:af)(w:World)(mg:Str->Option Value):Prop where
 at_:∃a,mg "ROW_SIZES"=some (.ref a)/\X0 K w a "places" (.int 2)/\X0 K w a "rides" (.int 6)/\X0 K w a "ways" (.int 5)/\X0 K w a "groups" (.int 4)
noncomputable def Mx:List (Str×Nat):=[("places",2),("rides",6),("ways",5),("groups",4)]
def JQ:Sp:=λvs H Q _=>∃z n row r d kvs,vs=[.str z,row,.ref d]/\(z,n)∈Mx/\Row H row r/\H d=some (.dK kvs)/\∀H',Same H H'->Q (begR (decide (z="groups")) n kvs r) H'
section
variable {P:Program}{w:World}{K:af}{mg:Str->Option Value}{base:Heap}{C:Addr}
theorem Kr:FnScope ["part","row","names_ahead","fits"] ["part","row","names_ahead"] (Ze T.f_wrong_beginning):=scO
theorem RU(G:Txt K mg)(Z:Sizes K w mg)(D:Df K mg "wrong_beginning" T.f_wrong_beginning ["part","row","names_ahead"])(CN:Can P w K mg base 2 "is_name" ["thing"] (K1.N7 8 K1.tNAME))(CG:Can P w K mg base 2 "is_group_name" ["thing"] (K1.N7 12 K1.tGROUP)):Can P w K mg base 3 "wrong_beginning" ["part","row","names_ahead"] JQ:=by
 obtain⟨aS,hS,k1,k2,k3,k4⟩:=Z.at_;have nd:(["part","row","names_ahead","fits"]:List Str).Nodup:=by decide +kernel
 refine D.cn Kr λf cdv A outer s H vs Q E hr h=>?_;obtain⟨z,n,row,r,d,kvs,rfl,hz,hrow,hd,k⟩:=h;have hK:X0 K w aS z (.int n):=by simp only[Mx,au,fv,aG,or_false]at hz;rcases hz with⟨rfl,rfl⟩|⟨rfl,rfl⟩|⟨rfl,rfl⟩|⟨rfl,rfl⟩<;>assumption
 refine⟨_,Zd (ZZ (PW.pt (JJ (Yb (Z2 (YU (c:="tuple") (pv 1) rfl G.isi rfl G.tup XY))) (Xs (ZD KU (ZO JG rfl G.len b6 (Zk (pv 1) Zh)) (Pr (ZQ (v:=V.ref aS) rfl hS rfl) (pv 0) (λ_ _=>rfl)) (ZC _))))) (Zj (Zn Zp)) Zx) (Zd (Yx (i:=3) nd rfl (bh rfl) (KP (ZD Jp (pv 0) Zp (ZC _)) (Z3 CG hr rfl (Zk (Yj Z8 (pv 1) Zc (λ_ _=>rfl)) Zh)) (Z3 CN hr rfl (Zk (Yj Z8 (pv 1) Zc (λ_ _=>rfl)) Zh)))) (Zd (ZZ (Yb (Z2 (pv 3))) (Zj (Zn Zp)) Zx) (Zd (ZZ (EX (KR (J4 hr) (Yj Z8 (pv 1) Zc (λ_ _=>rfl)) (pv 2))) (Zj (Zn Zp)) Zx) (Zj (Zn Z4))))),?_⟩;cases r with
|none=>obtain⟨T',th,hT⟩:=hrow;refine⟨_,rfl,_,_,_,_,rfl,th.ty,th.kitT,_,rfl,?_⟩;rw[decide_eq_false hT];refine iteT ?_;exact k H (Same.refl H)
|some xs=>
  obtain⟨p,rfl,hp,hx⟩:=hrow;have th:Th H (.ref p) "tuple":=.tup hp;refine⟨_,rfl,_,_,_,_,rfl,th.ty,th.kitT,_,rfl,?_⟩;refine iteF ?_;refine⟨_,rfl,p,xs,rfl,.inr (SqT.of hp),_,rfl,aS,z,.int n,rfl,rfl,hK,rfl,_,rfl,?_⟩;refine ite2 (λe=>?_) (λe=>?_)
  ·have hl:xs.length≠n:=λq=>by rw[q]at e;simp at e
   show Q (.str "form") H;have q:=k H (Same.refl H);simpa[begR,begV,hl]using q
  ·have hl:xs.length=n:=by
    have e':(xs.length:Int)=n:=by simpa using e
    omega
   obtain⟨x,r,rfl⟩:∃x r,xs=x::r:=by
    cases xs with
   |nil=>simp only[Mx,au,fv,aG,or_false]at hz;simp at hl;omega
   |cons x r=>exact⟨x,r,rfl⟩
   obtain⟨T',tx⟩:=hx x (by simp);have a0:∀(u:V)(l:List V),atI (u::l) 0=some u:=λu l=>Zv (xs:=u::l) (j:=0) rfl;have fin:∀b H',Same H H'->b=Z0 (decide (z="groups")) x->(if(!b)=true then Q (.str "name") H' else if ZP x kvs=true then Q (.str "double") H' else Q .non H'):=by
    rintro b H' sm rfl;have q:=k H' sm;simp only[begR,begV,hl,ne_eq,not_true_eq_false,if_false,List.getD_cons_zero]at q;cases hb:Z0 (decide (z="groups")) x with
   |false=>rw[if_pos (by decide)];rw[hb,if_pos rfl]at q;exact q
   |true=>
     rw[if_neg (by decide)];rw[hb,if_neg (by decide)]at q;by_cases hk:ZP x kvs=true
     ·rw[if_pos hk]at q ⊢;exact q
     ·rw[if_neg hk]at q ⊢;exact q
   have isS:∀b,b=Z0 (decide (z="groups")) x->b=true->∃y,x=.str y:=by
    rintro _ rfl hb;unfold Z0 at hb;cases x with
   |str y=>exact⟨y,rfl⟩
   |_=>split at hb<;>cases hb
   refine⟨_,rfl,rfl,_,rfl,?_⟩;refine ite2 (λe2=>?_) (λe2=>?_)
   ·refine⟨_,rfl,p,x::r,0,x,rfl,rfl,SqT.of hp,a0 x r,x,T',rfl,tx,λH' sm=>?_⟩;have hb:K1.Ue x 12 K1.tGROUP=Z0 (decide (z="groups")) x:=by
     have e3:z="groups":=by simpa using e2
     simp[Z0,e3]
    have q:=fin _ H' sm hb;refine⟨_,rfl,_,rfl,?_⟩;refine ite2 (λe3=>?_) (λe3=>?_)
    ·rw[if_pos e3]at q;exact q
    ·rw[if_neg e3]at q;obtain⟨y,rfl⟩:=isS _ hb (by simpa using e3);exact⟨_,rfl,p,_::r,0,_,rfl,rfl,SqT.of (sm _ _ hp),a0 _ r,_,rfl,d,_,rfl,DGet.k (k:=cD y) (sm _ _ hd),_,rfl,q⟩
   ·refine⟨_,rfl,p,x::r,0,x,rfl,rfl,SqT.of hp,a0 x r,x,T',rfl,tx,λH' sm=>?_⟩;have hb:K1.Ue x 8 K1.tNAME=Z0 (decide (z="groups")) x:=by
     have e3:z≠"groups":=by simpa using e2
     simp[Z0,e3]
    have q:=fin _ H' sm hb;refine⟨_,rfl,_,rfl,?_⟩;refine ite2 (λe3=>?_) (λe3=>?_)
    ·rw[if_pos e3]at q;exact q
    ·rw[if_neg e3]at q;obtain⟨y,rfl⟩:=isS _ hb (by simpa using e3);exact⟨_,rfl,p,_::r,0,_,rfl,rfl,SqT.of (sm _ _ hp),a0 _ r,_,rfl,d,_,rfl,DGet.k (k:=cD y) (sm _ _ hd),_,rfl,q⟩
end
end TB
namespace L2
open PySem PySem.Spec PyProof.Rows
def DfM(K:af)(C:Addr)(m qual:Str)(st:Stmt)(ps:List Str):Prop:=∃f fd,Fun K m qual st f fd/\Meth K C m f/\Binds K fd ps []
def CanM(P:Program)(w:World)(K:af)(mg:Str->Option Value)(base:Heap)(CX:CXT)(k:Nat)(C:Addr)(m:Str)(ps:List Str)(sp:Sp):Prop:=∃f fd,FnOk P w K mg base CX k f fd ps sp/\Meth K C m f/\Binds K fd ps []
section
variable {P:Program}{w:World}{K:af}{mg:Str->Option Value}{base:Heap}{C:Addr}{m qual:Str}{st:Stmt}{N ps:List Str}{k:Nat}{sp:Sp}
theorem CanM.mono{j:Nat}{CX:CXT}(c:CanM P w K mg base CX j C m ps sp)(h:j<=k):CanM P w K mg base CX k C m ps sp:=by obtain⟨f,fd,F,r⟩:=c;exact⟨f,fd,F.mono h,r⟩
theorem DfM.can(D:DfM K C m qual st ps)(S:FnScope N ps (Ze st))(len:∀vs H Q E,sp vs H Q E->vs.length=ps.length)(hbody:∀(f:Addr)(cdv:Value)(A:aL)(outer:List Env)(s:ah)(H:Hp)(vs:List V)(Q:VK)(E:XK),Room k (A.deeper (dD qual (Ze st) s.heap.objs.size f cdv))->sp vs H Q E ->∃t,PSs (cxOf CX0 P w K mg base N qual (Ze st) f cdv A outer s H E).nox (Zz st) t/\t {nx:=λ_ H'=>Q .non H',rt:=Q} (start N vs) H):CanM P w K mg base CX0 (k+1) C m ps sp:=by obtain⟨f,fd,F,me,b⟩:=D;exact⟨f,fd,F.ok S len (λcdv A outer s H vs Q E hr h=>hbody f cdv A outer s H vs Q E hr h),me,b⟩
theorem DfM.canX(D:DfM K C m qual st ps)(S:FnScope N ps (Ze st))(len:∀vs H Q E,sp vs H Q E->vs.length=ps.length)(hbody:∀(f:Addr)(cdv:Value)(A:aL)(outer:List Env)(s:ah)(H:Hp)(vs:List V)(Q:VK)(E:XK),Room k (A.deeper (dD qual (Ze st) s.heap.objs.size f cdv))->sp vs H Q E ->∃t,PSs (cxOf (CX1 P w) P w K mg base N qual (Ze st) f cdv A outer s H E) (Zz st) t/\t {nx:=λ_ H'=>Q .non H',rt:=Q} (start N vs) H):CanM P w K mg base (CX1 P w) (k+1) C m ps sp:=by obtain⟨f,fd,F,me,b⟩:=D;exact⟨f,fd,F.okX S len (λcdv A outer s H vs Q E hr h=>hbody f cdv A outer s H vs Q E hr h),me,b⟩
theorem DfM.cn(D:DfM K C m qual st ps)(S:FnScope N ps (Ze st))(hbody:∀(f:Addr)(cdv:Value)(A:aL)(outer:List Env)(s:ah)(H:Hp)(vs:List V)(Q:VK)(E:XK),Room k (A.deeper (dD qual (Ze st) s.heap.objs.size f cdv))->sp vs H Q E ->∃t,PSs (cxOf CX0 P w K mg base N qual (Ze st) f cdv A outer s H E).nox (Zz st) t/\t {nx:=λ_ H'=>Q .non H',rt:=Q} (start N vs) H)(len:∀vs H Q E,sp vs H Q E->vs.length=ps.length:=by intro _ _ _ _ h;repeat (obtain⟨a,h⟩:=h;first|(subst a;rfl)|skip)):CanM P w K mg base CX0 (k+1) C m ps sp:=D.can S len hbody
theorem DfM.cnX(D:DfM K C m qual st ps)(S:FnScope N ps (Ze st))(hbody:∀(f:Addr)(cdv:Value)(A:aL)(outer:List Env)(s:ah)(H:Hp)(vs:List V)(Q:VK)(E:XK),Room k (A.deeper (dD qual (Ze st) s.heap.objs.size f cdv))->sp vs H Q E ->∃t,PSs (cxOf (CX1 P w) P w K mg base N qual (Ze st) f cdv A outer s H E) (Zz st) t/\t {nx:=λ_ H'=>Q .non H',rt:=Q} (start N vs) H)(len:∀vs H Q E,sp vs H Q E->vs.length=ps.length:=by intro _ _ _ _ h;repeat (obtain⟨a,h⟩:=h;first|(subst a;rfl)|skip)):CanM P w K mg base (CX1 P w) (k+1) C m ps sp:=D.canX S len hbody
end
section
variable {X:Cx}{CX:CXT}{k:Nat}{C:Addr}{ps:List Str}{sp:Sp}{E:XK}{m:Str}{pos apos:Pos}{e o:Expr}{es:List Expr}{ta:TE}{t:TA}
theorem Yc{pl:Sem Bool}(c:CanM X.prog X.w X.K X.mg X.base CX k C m ps sp)(cl:Cls X.K C)(hx:Passes CX X E)(hr:Room k X.A)(he:PE X o ta)(ha:PA X (e::es) t)
  (hst:aA (e::es) X.env=(false,eval e X.env)::aA es X.env:=by rfl) (hpl:(b8 pos (aA es X.env)).any (·.1)=false:=by rfl)
  (ht:eval (.Call (.Attribute o m apos) (e::es) [] pos) X.env=(do
   let ov <-eval o X.env
   gu apos.atName
   let (f,first) <-eS [ov] (eQ ov m pl)
   f_ pos f first (b8 pos (aA (e::es) X.env)) (d6 pos (cU [] X.env))):=by rfl):
  PE X (.Call (.Attribute o m apos) (e::es) [] pos) (Nl C m sp [] E ta t):=by
 obtain⟨f,fd,F,me,b⟩:=c
 exact DK he cl me F hr b .nil hx ha hst hpl ht
end
end L2
namespace TB
open PySem L2 PySem.Spec PyProof.Rows
noncomputable def fields:List Str:=["turns","places","room_by_place","rides","ride_by_name","ways","way_by_name","groups","group_by_name"]
structure TCl(K:af)(C:Addr):Prop where
 cl:Cls K C
 na:∀f∈fields,Z1 K C f
structure Tab(H:Hp)(C t:Addr)(fs:List (Str×V)):Prop where
 at_:∃dx,H t=some (.ins C dx fs)
 only:∀g,g∉fields->fs.lookup g=none
section
variable {P:Program}{w:World}{K:af}{mg:Str->Option Value}{base:Heap}{C:Addr}
def Mp(C:Addr)(fld:Str):Sp:=λvs H Q _=>∃t x T fs d kvs,vs=[.ref t,x]/\Tab H C t fs/\fs.lookup fld=some (.ref d)/\H d=some (.dK kvs)/\Th H x T/\Q (.bl (ZP x kvs)) H
theorem HB:FnScope ["self","thing"] ["self","thing"] (Ze T.m_Table_is_place):=scO
theorem GW(Z:TCl K C)(D:DfM K C "is_place" "Table.is_place" T.m_Table_is_place ["self","thing"])(CK:Can P w K mg base 1 "is_known" ["thing","names"] N9):CanM P w K mg base CX0 2 C "is_place" ["self","thing"] (Mp C "room_by_place"):=by refine D.cn HB λf cdv A outer s H vs Q E hr h=>?_;obtain⟨t,x,T',fs,d,kvs,rfl,⟨⟨dx,ht⟩,_⟩,hl,hd,th,k⟩:=h;refine⟨_,Zj (Zn (Z3 CK hr rfl (Zk (pv 1) (Zk (ZI (pv 0) rfl) Zh)))),?_⟩;exact⟨_,rfl,_,rfl,t,C,dx,fs,_,rfl,ht,Z.cl,Z.na _ (by simp[fields]),hl,x,T',d,kvs,rfl,th,hd,k⟩
noncomputable def MH(x:V)(kvs:List (Key×V)):Bool:=match x with
|.str z=>decide (valV kvs (.inr z)=some .non)
|_=>false
theorem Yw{x:V}{kvs:List (Key×V)}(h:ZP x kvs=true):∃z v,x=.str z/\valV kvs (.inr z)=some v:=by
 cases x with
|str z=>have h':(valV kvs (.inr z)).isSome=true:=h;exact⟨z,_,rfl,(Option.some_get h').symm⟩
|_=>cases h
theorem RK{x:V}{kvs:List (Key×V)}(h:ZP x kvs=false):MH x kvs=false:=by
 cases x with
|str z=>
  have h':(valV kvs (.inr z)).isSome=false:=h;show decide (valV kvs (.inr z)=some .non)=false;cases e:valV kvs (.inr z)with
 |none=>simp
 |some v=>rw[e]at h';cases h'
|_=>rfl
def P9(C:Addr):Sp:=λvs H Q _=>∃t x T fs d kvs,vs=[.ref t,x]/\Tab H C t fs/\fs.lookup ("room_by_place":Str)=some (.ref d)/\H d=some (.dK kvs)/\Th H x T/\Q (.bl (MH x kvs)) H
theorem Kx:FnScope ["self","thing"] ["self","thing"] (Ze T.m_Table_is_home):=scO
theorem R5(Z:TCl K C)(D:DfM K C "is_home" "Table.is_home" T.m_Table_is_home ["self","thing"])(CP:CanM P w K mg base CX0 2 C "is_place" ["self","thing"] (Mp C "room_by_place")):CanM P w K mg base CX0 3 C "is_home" ["self","thing"] (P9 C):=by
 refine D.cn Kx λf cdv A outer s H vs Q E hr h=>?_;obtain⟨t,x,T',fs,d,kvs,rfl,tb,hl,hd,th,k⟩:=h;obtain⟨dx,ht⟩:=id tb.at_;refine⟨_,Zj (Zn (YB (Yc CP Z.cl Yk hr (pv 0) (Zk (pv 1) Zh)) (YF (YC KW (DL (J4 hr) (ZI (pv 0) rfl) (pv 1) (λ_ _=>rfl)) Z4 (by with_unfolding_all rfl))))),?_⟩;refine mthV ht (tb.only _ (by decide +kernel)) ⟨_,rfl,t,x,T',fs,d,kvs,rfl,tb,hl,hd,th,_,rfl,?_⟩;have fin:∀b,b=MH x kvs->Q (.bl b) H:=λb e=>e▸k;refine ite2 (λe=>?_) (λe=>fin _ ?_)
 ·obtain⟨z,v,rfl,hv⟩:=Yw e;refine⟨_,rfl,t,C,dx,fs,_,rfl,ht,Z.cl,Z.na _ (by simp[fields]),hl,_,rfl,d,v,rfl,(by rw[<-hv];exact DGet.k (k:=cD z) hd),rfl,fin _ ?_⟩;show decide (v=.non)=decide (valV kvs (.inr z)=some .non);rw[hv];simp
 ·have e':ZP x kvs=false:=by simpa using e
  exact(RK e').symm
noncomputable def YQ(kvs:List (Key×V))(s g:V):V:=if(!ZP s kvs||!ZP g kvs)=true then .str "place" else if MH s kvs=true then .str "home" else if g=s then .str "alike" else .non
def Rk(C:Addr):Sp:=λvs H Q _=>∃t x y T T' fs d kvs,vs=[.ref t,x,y]/\Tab H C t fs/\fs.lookup ("room_by_place":Str)=some (.ref d)/\H d=some (.dK kvs)/\Th H x T/\Th H y T'/\Q (YQ kvs x y) H
theorem ER:FnScope ["table","start","goal"] ["table","start","goal"] (Ze T.f_wrong_ends):=scO
theorem LY(Z:TCl K C)(D:Df K mg "wrong_ends" T.f_wrong_ends ["table","start","goal"])(CP:CanM P w K mg base CX0 2 C "is_place" ["self","thing"] (Mp C "room_by_place"))(CH:CanM P w K mg base CX0 3 C "is_home" ["self","thing"] (P9 C)):Can P w K mg base 4 "wrong_ends" ["table","start","goal"] (Rk C):=by
 refine D.cn ER λf cdv A outer s H vs Q E hr h=>?_;obtain⟨t,x,y,T1,T2,fs,d,kvs,rfl,tb,hl,hd,tx,ty,k⟩:=h;obtain⟨dx,ht⟩:=id tb.at_;have hr2:Room 2 (A.deeper (dD "wrong_ends" (Ze T.f_wrong_ends) s.heap.objs.size f cdv)):=hr.mono (by decide);refine⟨_,Zd (ZZ (PW.pt (JJ (Yb (Z2 (Yc CP Z.cl Yk hr2 (pv 0) (Zk (pv 1) Zh)))) (Xs (Yb (Z2 (Yc CP Z.cl Yk hr2 (pv 0) (Zk (pv 2) Zh))))))) (Zj (Zn Zp)) Zx) (Zd (ZZ (Z2 (Yc CH Z.cl Yk hr (pv 0) (Zk (pv 1) Zh))) (Zj (Zn Zp)) Zx) (Zd (ZZ (ZD Jp (pv 2) (pv 1) (ZC _)) (Zj (Zn Zp)) Zx) (Zj (Zn Z4)))),?_⟩;unfold YQ at k;refine mthV ht (tb.only _ (by decide +kernel)) ⟨_,rfl,t,x,T1,fs,d,kvs,rfl,tb,hl,hd,tx,_,rfl,?_⟩;refine ite2 (λe=>?_) (λe=>?_)
 ·rw[if_pos (by rw[e];rfl)]at k;exact iteT k
 ·refine mthV ht (tb.only _ (by decide +kernel)) ⟨_,rfl,t,y,T2,fs,d,kvs,rfl,tb,hl,hd,ty,_,rfl,?_⟩;refine ite2 (λe2=>?_) (λe2=>?_)
  ·rw[if_pos (by rw[e2];simp)]at k;exact k
  ·have kx:ZP x kvs=true:=by simpa using e
   have ky:ZP y kvs=true:=by simpa using e2
   rw[if_neg (by rw[kx,ky];decide)]at k;refine mthV ht (tb.only _ (by decide +kernel)) ⟨_,rfl,t,x,T1,fs,d,kvs,rfl,tb,hl,hd,tx,_,rfl,?_⟩;refine ite2 (λe3=>?_) (λe3=>?_)
   ·rw[if_pos e3]at k;exact k
   ·rw[if_neg e3]at k;obtain⟨zx,_,rfl,_⟩:=Yw kx;obtain⟨zy,_,rfl,_⟩:=Yw ky;refine⟨_,rfl,_,rfl,rfl,_,rfl,?_⟩;refine ite2 (λe4=>?_) (λe4=>?_)
    ·rw[if_pos (by simpa using e4)]at k;exact k
    ·rw[if_neg (by simpa using e4)]at k;exact k
noncomputable def GO(kvs:List (Key×V))(n:Int)(s l g a m:V):V:=if YQ kvs s g≠.non then YQ kvs s g else match l with
 |.int i=>if(!K1.Zr (.int i) 0 (n-1)||!K1.Zr a (i+1) n)=true then .str "turn" else if(!K1.Zr m 0 1000)=true then .str "number" else .non
 |_=>.str "turn"
noncomputable def wayV(kvs:List (Key×V))(s g l m:V):V:=if YQ kvs s g≠.non then YQ kvs s g else if(!K1.Zr l 1 50||!K1.Zr m 0 1000)=true then .str "number" else .non
theorem at0{α:Type}{xs:List α}(j:Nat){v:α}(h:xs[j]?=some v):atI xs (j:Int)=some v:=Zv h
def Kl(C:Addr):Sp:=λvs H Q _=>∃t p x0 x1 x2 x3 x4 x5 fs d kvs n,vs=[.ref t,.ref p]/\Tab H C t fs/\fs.lookup ("room_by_place":Str)=some (.ref d)/\fs.lookup ("turns":Str)=some (.int n)/\H d=some (.dK kvs) /\H p=some (.tup [x0,x1,x2,x3,x4,x5])/\(∀x∈[x0,x1,x2,x3,x4,x5],∃T,Th H x T)/\Q (GO kvs n x1 x2 x3 x4 x5) H
theorem EO:FnScope ["table","row","leave","why"] ["table","row"] (Ze T.f_wrong_ride):=scO
theorem LR(G:Txt K mg)(Z:TCl K C)(D:Df K mg "wrong_ride" T.f_wrong_ride ["table","row"])(CI:Can P w K mg base 2 "is_within" ["thing","low","high"] K1.XH)(CE:Can P w K mg base 4 "wrong_ends" ["table","start","goal"] (Rk C)):Can P w K mg base 5 "wrong_ride" ["table","row"] (Kl C):=by
 obtain⟨t1,h1⟩:=G.room;have nd:(["table","row","leave","why"]:List Str).Nodup:=by decide +kernel
 refine D.cn EO λf cdv A outer s H vs Q E hr h=>?_;obtain⟨t,p,x0,x1,x2,x3,x4,x5,fs,d,kvs,n,rfl,tb,hl,hn,hd,hp,hx,k⟩:=h;obtain⟨dx,ht⟩:=id tb.at_;obtain⟨T1,h01⟩:=hx x1 (by simp);obtain⟨T2,h02⟩:=hx x2 (by simp);obtain⟨T3,h03⟩:=hx x3 (by simp);obtain⟨T4,h04⟩:=hx x4 (by simp);obtain⟨T5,h05⟩:=hx x5 (by simp);have hr2:Room 2 (A.deeper (dD "wrong_ride" (Ze T.f_wrong_ride) s.heap.objs.size f cdv)):=hr.mono (by decide);refine⟨_,Zd (Yx (i:=2) nd rfl (bh rfl) (Yj Z8 (pv 1) Zc (λ_ _=>rfl))) (Zd (Yx (i:=3) nd rfl (bh rfl) (Z3 CE hr rfl (Zk (pv 0) (Zk (Yj Z8 (pv 1) Zc (λ_ _=>rfl)) (Zk (Yj Z8 (pv 1) Zc (λ_ _=>rfl)) Zh))))) (Zd (ZZ (ZD JC (pv 3) Z4 (ZC _)) (Zj (Zn (pv 3))) Zx) (Zd (ZZ (PW.pt (JJ (Yb (Z2 (Z3 CI hr2 rfl (Zk (pv 2) (Zk Zc (Zk (Zw JY (ZI (pv 0) rfl) Zc) Zh)))))) (Xs (Yb (Z2 (Z3 CI hr2 rfl (Zk (Yj Z8 (pv 1) Zc (λ_ _=>rfl)) (Zk (Zw ZX (pv 2) Zc) (Zk (ZI (pv 0) rfl) Zh))))))))) (Zj (Zn Zp)) Zx) (Zd (ZZ (Yb (Z2 (Z3 CI hr2 rfl (Zk (Yj Z8 (pv 1) Zc (λ_ _=>rfl)) (Zk Zc (Zk (ZQ (v:=V.int 1000) rfl h1 ⟨t1,rfl⟩) Zh)))))) (Zj (Zn Zp)) Zx) (Zj (Zn Z4)))))),?_⟩;refine⟨_,rfl,p,_,2,x2,rfl,rfl,SqT.of hp,at0 2 rfl,?_⟩;refine⟨_,rfl,_,rfl,p,_,1,x1,rfl,rfl,SqT.of hp,at0 1 rfl,_,rfl,p,_,3,x3,rfl,rfl,SqT.of hp,at0 3 rfl,t,x1,x3,T1,T3,fs,d,kvs,rfl,tb,hl,hd,h01,h03,?_⟩;unfold GO at k;refine⟨_,rfl,rfl,_,rfl,?_⟩;refine ite2 (λe=>?_) (λe=>?_)
 ·have e':YQ kvs x1 x3≠.non:=by simpa using e
  rw[if_pos e']at k;exact⟨_,rfl,k⟩
 ·have e':¬YQ kvs x1 x3≠.non:=by simpa using e
  rw[if_neg e']at k;refine⟨_,rfl,_,rfl,t,C,dx,fs,_,rfl,ht,Z.cl,Z.na _ (by simp[fields]),hn,_,_,rfl,rfl,x2,T2,0,n-1,rfl,h02,_,rfl,?_⟩;refine ite2 (λe2=>?_) (λe2=>?_)
  ·have q:Q (.str "turn") H:=by
    cases x2 with
   |int i=>
     have k':Q (if(!K1.Zr (.int i) 0 (n-1)||!K1.Zr x4 (i+1) n)=true then V.str "turn" else if(!K1.Zr x5 0 1000)=true then .str "number" else .non) H:=k
     rw[if_pos (by rw[e2];rfl)]at k';exact k'
   |_=>exact k
   exact iteT q
  ·obtain⟨i,rfl⟩:∃i,x2=.int i:=by
    cases x2 with
   |int i=>exact⟨i,rfl⟩
   |_=>exact absurd rfl e2
   have k':Q (if(!K1.Zr (.int i) 0 (n-1)||!K1.Zr x4 (i+1) n)=true then V.str "turn" else if(!K1.Zr x5 0 1000)=true then .str "number" else .non) H:=k
   have w1:K1.Zr (.int i) 0 (n-1)=true:=by simpa using e2
   rw[w1]at k';refine⟨_,rfl,p,_,4,x4,rfl,rfl,SqT.of hp,at0 4 rfl,_,rfl,_,_,rfl,rfl,_,rfl,t,C,dx,fs,_,rfl,ht,Z.cl,Z.na _ (by simp[fields]),hn,x4,T4,i+1,n,rfl,h04,_,rfl,?_⟩;refine ite2 (λe3=>?_) (λe3=>?_)
   ·rw[if_pos (by rw[e3];rfl)]at k';exact k'
   ·have w2:K1.Zr x4 (i+1) n=true:=by simpa using e3
    rw[w2,if_neg (by decide)]at k';refine⟨_,rfl,p,_,5,x5,rfl,rfl,SqT.of hp,at0 5 rfl,x5,T5,0,1000,rfl,h05,_,rfl,?_⟩;refine ite2 (λe4=>?_) (λe4=>?_)
    ·rw[if_pos e4]at k';exact k'
    ·rw[if_neg e4]at k';exact k'
noncomputable def Xu(kvs:List (Key×V))(n pa:Int)(p t m:V):V:=if(!ZP p kvs)=true then .str "place" else if(!K1.Zr t 0 n)=true then .str "turn" else match m with
 |.int i=>if(!K1.Zr (.int i) 0 300)=true then .str "number" else if pa+i>300 then .str "people" else .non
 |_=>.str "number"
def Ei(C:Addr):Sp:=λvs H Q _=>∃t p x0 x1 x2 x3 x4 fs d kvs,vs=[.ref t,.ref p]/\Tab H C t fs/\fs.lookup ("room_by_place":Str)=some (.ref d)/\H d=some (.dK kvs) /\H p=some (.tup [x0,x1,x2,x3,x4])/\(∀x∈[x0,x1,x2,x3,x4],∃T,Th H x T)/\Q (wayV kvs x1 x2 x3 x4) H
theorem HA:FnScope ["table","row","why"] ["table","row"] (Ze T.f_wrong_way):=scO
theorem Ea(G:Txt K mg)(Z:TCl K C)(D:Df K mg "wrong_way" T.f_wrong_way ["table","row"])(CI:Can P w K mg base 2 "is_within" ["thing","low","high"] K1.XH)(CE:Can P w K mg base 4 "wrong_ends" ["table","start","goal"] (Rk C)):Can P w K mg base 5 "wrong_way" ["table","row"] (Ei C):=by
 obtain⟨t1,h1⟩:=G.room;obtain⟨t2,h2⟩:=G.way;have nd:(["table","row","why"]:List Str).Nodup:=by decide +kernel
 refine D.cn HA λf cdv A outer s H vs Q E hr h=>?_;obtain⟨t,p,x0,x1,x2,x3,x4,fs,d,kvs,rfl,tb,hl,hd,hp,hx,k⟩:=h;obtain⟨dx,ht⟩:=id tb.at_;obtain⟨T1,h01⟩:=hx x1 (by simp);obtain⟨T2,h02⟩:=hx x2 (by simp);obtain⟨T3,h03⟩:=hx x3 (by simp);obtain⟨T4,h04⟩:=hx x4 (by simp);have hr2:Room 2 (A.deeper (dD "wrong_way" (Ze T.f_wrong_way) s.heap.objs.size f cdv)):=hr.mono (by decide);refine⟨_,Zd (Yx (i:=2) nd rfl (bh rfl) (Z3 CE hr rfl (Zk (pv 0) (Zk (Yj Z8 (pv 1) Zc (λ_ _=>rfl)) (Zk (Yj Z8 (pv 1) Zc (λ_ _=>rfl)) Zh))))) (Zd (ZZ (ZD JC (pv 2) Z4 (ZC _)) (Zj (Zn (pv 2))) Zx) (Zd (ZZ (PW.pt (JJ (Yb (Z2 (Z3 CI hr2 rfl (Zk (Yj Z8 (pv 1) Zc (λ_ _=>rfl)) (Zk Zc (Zk (ZQ (v:=V.int 50) rfl h2 ⟨t2,rfl⟩) Zh)))))) (Xs (Yb (Z2 (Z3 CI hr2 rfl (Zk (Yj Z8 (pv 1) Zc (λ_ _=>rfl)) (Zk Zc (Zk (ZQ (v:=V.int 1000) rfl h1 ⟨t1,rfl⟩) Zh))))))))) (Zj (Zn Zp)) Zx) (Zj (Zn Z4)))),?_⟩;refine⟨_,rfl,_,rfl,p,_,1,x1,rfl,rfl,SqT.of hp,at0 1 rfl,_,rfl,p,_,2,x2,rfl,rfl,SqT.of hp,at0 2 rfl,t,x1,x2,T1,T2,fs,d,kvs,rfl,tb,hl,hd,h01,h02,?_⟩;unfold wayV at k;refine⟨_,rfl,rfl,_,rfl,?_⟩;refine ite2 (λe=>?_) (λe=>?_)
 ·have e':YQ kvs x1 x2≠.non:=by simpa using e
  rw[if_pos e']at k;exact⟨_,rfl,k⟩
 ·have e':¬YQ kvs x1 x2≠.non:=by simpa using e
  rw[if_neg e']at k;refine⟨_,rfl,p,_,3,x3,rfl,rfl,SqT.of hp,at0 3 rfl,x3,T3,1,50,rfl,h03,_,rfl,?_⟩;refine ite2 (λe2=>?_) (λe2=>?_)
  ·rw[if_pos (by rw[e2];rfl)]at k;exact iteT k
  ·have w1:K1.Zr x3 1 50=true:=by simpa using e2
   rw[w1]at k;refine⟨_,rfl,p,_,4,x4,rfl,rfl,SqT.of hp,at0 4 rfl,x4,T4,0,1000,rfl,h04,_,rfl,?_⟩;refine ite2 (λe3=>?_) (λe3=>?_)
   ·rw[if_pos (by rw[e3];rfl)]at k;exact k
   ·have w2:K1.Zr x4 0 1000=true:=by simpa using e3
    rw[w2,if_neg (by decide)]at k;exact k
def SQ(C:Addr):Sp:=λvs H Q _=>∃t p x0 x1 x2 x3 fs d kvs n pa,vs=[.ref t,.ref p,.int pa]/\Tab H C t fs/\fs.lookup ("room_by_place":Str)=some (.ref d)/\fs.lookup ("turns":Str)=some (.int n)/\H d=some (.dK kvs) /\H p=some (.tup [x0,x1,x2,x3])/\(∀x∈[x0,x1,x2,x3],∃T,Th H x T)/\Q (Xu kvs n pa x1 x2 x3) H
theorem DA:FnScope ["table","row","people_ahead"] ["table","row","people_ahead"] (Ze T.f_wrong_group):=scO
theorem RT(G:Txt K mg)(Z:TCl K C)(D:Df K mg "wrong_group" T.f_wrong_group ["table","row","people_ahead"])(CI:Can P w K mg base 2 "is_within" ["thing","low","high"] K1.XH)(CP:CanM P w K mg base CX0 2 C "is_place" ["self","thing"] (Mp C "room_by_place")):Can P w K mg base 3 "wrong_group" ["table","row","people_ahead"] (SQ C):=by
 obtain⟨t1,h1⟩:=G.people;refine D.cn DA λf cdv A outer s H vs Q E hr h=>?_;obtain⟨t,p,x0,x1,x2,x3,fs,d,kvs,n,pa,rfl,tb,hl,hn,hd,hp,hx,k⟩:=h;obtain⟨dx,ht⟩:=id tb.at_;obtain⟨T1,h01⟩:=hx x1 (by simp);obtain⟨T2,h02⟩:=hx x2 (by simp);obtain⟨T3,h03⟩:=hx x3 (by simp);refine⟨_,Zd (ZZ (Yb (Z2 (Yc CP Z.cl Yk hr (pv 0) (Zk (Yj Z8 (pv 1) Zc (λ_ _=>rfl)) Zh)))) (Zj (Zn Zp)) Zx) (Zd (ZZ (Yb (Z2 (Z3 CI hr rfl (Zk (Yj Z8 (pv 1) Zc (λ_ _=>rfl)) (Zk Zc (Zk (ZI (pv 0) rfl) Zh)))))) (Zj (Zn Zp)) Zx) (Zd (ZZ (Yb (Z2 (Z3 CI hr rfl (Zk (Yj Z8 (pv 1) Zc (λ_ _=>rfl)) (Zk Zc (Zk (ZQ (v:=V.int 300) rfl h1 ⟨t1,rfl⟩) Zh)))))) (Zj (Zn Zp)) Zx) (Zd (ZZ (ZD KY (Zw ZX (pv 2) (Yj Z8 (pv 1) Zc (λ_ _=>rfl))) (ZQ (v:=V.int 300) rfl h1 ⟨t1,rfl⟩) (ZC _)) (Zj (Zn Zp)) Zx) (Zj (Zn Z4))))),?_⟩;unfold Xu at k;refine mthV ht (tb.only _ (by decide +kernel)) ⟨_,rfl,p,_,1,x1,rfl,rfl,SqT.of hp,at0 1 rfl,t,x1,T1,fs,d,kvs,rfl,tb,hl,hd,h01,_,rfl,?_⟩;refine ite2 (λe=>?_) (λe=>?_)
 ·rw[if_pos e]at k;exact k
 rw[if_neg e]at k;refine⟨_,rfl,p,_,2,x2,rfl,rfl,SqT.of hp,at0 2 rfl,_,rfl,t,C,dx,fs,_,rfl,ht,Z.cl,Z.na _ (by simp[fields]),hn,x2,T2,0,n,rfl,h02,_,rfl,?_⟩;refine ite2 (λe2=>?_) (λe2=>?_)
 ·rw[if_pos e2]at k;exact k
 rw[if_neg e2]at k;refine⟨_,rfl,p,_,3,x3,rfl,rfl,SqT.of hp,at0 3 rfl,x3,T3,0,300,rfl,h03,_,rfl,?_⟩;refine ite2 (λe3=>?_) (λe3=>?_)
 ·cases x3 with
 |int i=>have k':Q (if(!K1.Zr (.int i) 0 300)=true then V.str "number" else if pa+i>300 then .str "people" else .non) H:=k;rw[if_pos e3]at k';exact k'
 |_=>exact k
 ·obtain⟨i,rfl⟩:∃i,x3=.int i:=by
   cases x3 with
  |int i=>exact⟨i,rfl⟩
  |_=>exact absurd rfl e3
  have k':Q (if(!K1.Zr (.int i) 0 300)=true then V.str "number" else if pa+i>300 then .str "people" else .non) H:=k;rw[if_neg e3]at k';refine⟨_,rfl,_,rfl,p,_,3,_,rfl,rfl,SqT.of hp,at0 3 rfl,_,_,rfl,rfl,_,_,rfl,rfl,_,rfl,?_⟩;refine ite2 (λe4=>?_) (λe4=>?_)
  ·rw[if_pos (by simpa using e4)]at k';exact k'
  ·rw[if_neg (by simpa using e4)]at k';exact k'
end
end TB
namespace L2
open PySem PySem.Spec PyProof.Rows
theorem sameNew{l:Addr}{H H1:Hp}{o:HO}(x:Same H H1)(hl:H1 l=none):Same H (upd H1 l o):=λc u h=>by rw[Zg (Zf (x c u h) hl)];exact x c u h
theorem nl{c:Addr}{H:Hp}{o:HO}{G:Hp->Prop}(h:H c=none)(k:∀H',Same H H'->H' c=some o->G H'):G (upd H c o):=k _ (sameNew (λ_ _ e=>e) h) Zb
theorem nl2{c:Addr}{H:Hp}{o:HO}{R:Type}{q:R}{G:Hp->R->Prop}(h:H c=none)(k:∀H',Same H H'->H' c=some o->G H' q):G (upd H c o) q:=nl (G:=λH=>G H q) h k
theorem Sy:∀{cs:List String}{us:List Value},Vals (cs.map V.ty) us->us=cs.map Value.type
|[],_,h=>by cases h;rfl
|c::cs,_,h=>by
  cases h with
 |cons r t=>have e:=Sy t;cases(show _=Value.type c from r);rw[e];rfl
section
variable {X:Cx}
theorem W0:Y1 X (.builtin "isinstance") (λxs H Q=>∃(x:V)(p:Addr)(cs:List String)(T:String)(b:Bool),xs=[x,.ref p]/\Th H x T/\H p=some (.tup (cs.map V.ty))/\ir X.K (.type T) (cs.map Value.type)=some b/\Q (.bl b) H):=by
 intro pins s σ H xs us Q I r h;obtain⟨x,p,cs,T,b,rfl,th,hp,e,q⟩:=h;obtain⟨u,w',rfl,ru,rw'⟩:=vals2 r;cases(show w'=Value.ref p from rw');obtain⟨_,its,rv,⟨oc,od,odt,osl⟩,h1,hc,n,hdt⟩:=(show ZE X.prog X.w H s.heap p (.tup (cs.map V.ty))from I.hok p _ hp);have ei:=Sy rv;subst ei;obtain rfl:oc=.type "tuple":=hc;obtain rfl:odt=.seq (cs.map Value.type).toArray n:=hdt;have fin:∀tk,EP X pins σ Q (.bool b) {s with toks:=tk}:=λtk=>⟨.bl b,H,I.tok tk,rfl,q⟩;cases th with
|non=>cases(show u=Value.none from ru);exact dA PySem.W.kitx_none I.kIn bD h1 e (λz=>nomatch z) fin
|bl y=>cases(show u=Value.bool y from ru);exact dA PySem.W.kitx_bool I.kIn bD h1 e (λz=>nomatch z) fin
|int i=>obtain⟨t,z⟩:=(show ∃t,u=Value.int i t from ru);cases z;exact dA PySem.W.kitx_int I.kIn bD h1 e (λz=>nomatch z) fin
|str y _=>obtain⟨t,z⟩:=(show ∃t,u=Value.str y t from ru);cases z;exact dA PySem.W.kitx_str I.kIn bD h1 e (λz=>nomatch z) fin
|@lst a xs ea=>cases(show u=Value.ref a from ru);obtain⟨_,_,n',_,h2⟩:=(show ZE X.prog X.w H s.heap a (.lst xs)from I.hok a _ ea);exact dA gO I.kIn ⟨_,h2,rfl⟩ h1 e (λz=>nomatch z) fin
|@tup a xs ea=>cases(show u=Value.ref a from ru);obtain⟨_,_,_,o,h2,h3,_⟩:=(show ZE X.prog X.w H s.heap a (.tup xs)from I.hok a _ ea);exact dA PySem.W.kitx_tuple I.kIn ⟨o,h2,h3⟩ h1 e (λz=>nomatch z) fin
|@dK a kvs ea=>cases(show u=Value.ref a from ru);obtain⟨_,_,vs,_,o,es,ep,h2,h3,_⟩:=(show ZE X.prog X.w H s.heap a (.dK kvs)from I.hok a _ ea);exact dA gP I.kIn ⟨o,h2,h3.1⟩ h1 e (λz=>nomatch z) fin
end
theorem Th.kitLT{K:af}{H:Hp}{v:V}{T:String}(h:Th H v T):ir K (.type T) (["list","tuple"].map Value.type)=some (decide (T="list"\/T="tuple")):=by cases h<;>(first|kernel_rfl|(unfold ir;rfl))
end L2
namespace TB
open PySem L2 PySem.Spec PyProof.Rows
structure Mosts(K:af)(w:World)(mg:Str->Option Value):Prop where
 at_:∃a,mg "MOST_ROWS"=some (.ref a)/\X0 K w a "places" (.int 14)/\X0 K w a "rides" (.int 80)/\X0 K w a "ways" (.int 40)/\X0 K w a "groups" (.int 300)
noncomputable def GP:List (Str×Nat):=[("places",14),("rides",80),("ways",40),("groups",300)]
def Part(H:Hp)(v:V)(r:Option (List V)):Prop:=match r with
|none=>∃T,Th H v T/\T≠"list"/\T≠"tuple"
|some xs=>∃p,v=.ref p/\(H p=some (.lst xs)\/H p=some (.tup xs))
def Rh(C:Addr):Sp:=λvs H Q E=>∃z n v r,vs=[.str z,v]/\(z,n)∈GP/\Part H v r/\match r with
|none=>∀H1,Same H H1->Bad C (.str z) .non (.str "form") H1 E
|some xs=>if xs.length>n then ∀H1,Same H H1->Bad C (.str z) (.int n) (.str "many") H1 E else ∀H1 l,Same H H1->H1 l=some (.tup xs)->Q (.ref l) H1
section
variable {P:Program}{w:World}{K:af}{mg:Str->Option Value}{base:Heap}{C:Addr}
theorem EN:FnScope ["part","rows"] ["part","rows"] (Ze T.f_rows_of):=scO
theorem LQ(G:Txt K mg)(M:Mosts K w mg)(B:Err P w K mg base "BadTable" ["part","at","why"] C)(D:Df K mg "rows_of" T.f_rows_of ["part","rows"]):CanX P w K mg base 3 "rows_of" ["part","rows"] (Rh C):=by
 obtain⟨aM,hM,k1,k2,k3,k4⟩:=M.at_;refine D.cnX EN λf cdv A outer s H vs Q E hr h=>?_;obtain⟨z,n,v,r,rfl,hz,hp,h⟩:=h;have hK:X0 K w aM z (.int n):=by simp only[GP,au,fv,aG,or_false]at hz;rcases hz with⟨rfl,rfl⟩|⟨rfl,rfl⟩|⟨rfl,rfl⟩|⟨rfl,rfl⟩<;>assumption
 refine⟨_,Zd (ZZ (Yb (Z2 (ZO W0 rfl G.isi bK (Zk (pv 1) (Zk (Zt (Zk (Pt (v:=V.ty "list") rfl G.lst YZ rfl) (Zk (Pt (v:=V.ty "tuple") rfl G.tup XY rfl) Zh))) Zh))))) (Zj (Jn (E:=E) B YV rfl hr rfl (Zk (pv 0) (Zk Z4 (Zk Zp Zh))))) Zx) (Zd (ZZ (ZD KY (ZO JG rfl G.len b6 (Zk (pv 1) Zh)) (Pr (ZQ (v:=V.ref aM) rfl hM rfl) (pv 0) (λ_ _=>rfl)) (ZC _)) (Zj (Jn (E:=E) B YV rfl hr rfl (Zk (pv 0) (Zk (Pr (ZQ (v:=V.ref aM) rfl hM rfl) (pv 0) (λ_ _=>rfl)) (Zk Zp Zh))))) Zx) (Zj (Zn (Z7 Jk rfl G.tup XY (Zk (pv 1) Zh))))),?_⟩;cases r with
|none=>obtain⟨T',th,n1,n2⟩:=hp;refine⟨_,rfl,zl,λl hl=>?_⟩;have sm:Same H (upd H l (.tup [V.ty "list",V.ty "tuple"])):=sameNew (Same.refl H) hl;refine⟨v,l,["list","tuple"],T',_,rfl,th.same sm,Zb ..,(th.same sm).kitLT,_,rfl,?_⟩;rw[decide_eq_false (by simp[n1,n2])];refine iteT ?_;exact⟨_,rfl,rfl,h _ sm⟩
|some xs=>
  obtain⟨p,rfl,hp⟩:=hp;obtain⟨T',th,hT⟩:∃T',Th H (.ref p) T'/\(T'="list"\/T'="tuple"):=by
   rcases hp with hp|hp
   ·exact⟨_,.lst hp,.inl rfl⟩
   ·exact⟨_,.tup hp,.inr rfl⟩
  refine⟨_,rfl,zl,λl hl=>?_⟩;have sm:Same H (upd H l (.tup [V.ty "list",V.ty "tuple"])):=sameNew (Same.refl H) hl;refine⟨.ref p,l,["list","tuple"],T',_,rfl,th.same sm,Zb ..,(th.same sm).kitLT,_,rfl,?_⟩;rw[decide_eq_true hT];refine iteF ?_;generalize upd H l (.tup [V.ty "list",V.ty "tuple"])=H1 at sm ⊢;have hs:SqL K H1 p xs\/SqT K H1 p xs:=by
   rcases hp with hp|hp
   ·exact .inl (SqL.of (sm _ _ hp))
   ·exact .inr (SqT.of (sm _ _ hp))
  refine⟨_,rfl,p,xs,rfl,hs,_,rfl,aM,z,.int n,rfl,rfl,hK,_,_,rfl,rfl,_,rfl,?_⟩;dsimp only at h;refine ite2 (λe=>?_) (λe=>?_)
  ·have e':xs.length>n:=by simpa using e
   rw[if_pos e']at h;exact⟨_,rfl,_,rfl,aM,z,.int n,rfl,rfl,hK,rfl,h _ sm⟩
  ·have e':¬xs.length>n:=by simpa using e
   rw[if_neg e']at h;refine⟨_,rfl,p,xs,rfl,?_⟩;rcases hp with hp|hp
   ·exact .inl ⟨SqL.of (sm _ _ hp),λl2 hl2=>h _ l2 (sameNew sm hl2) (Zb ..)⟩
   ·exact .inr ⟨SqT.of (sm _ _ hp),h _ p sm (sm _ _ hp)⟩
end
end TB
namespace L2
open PySem PySem.Spec PyProof.Rows
open AutoSeq1 (wpAny_loadPart')
section
variable {prog:Program}{w:World}{A:aL}{E:Value->ah->Prop}{s:ah}
theorem DS{it t:Addr}{i:Nat}{items:Array Value}{x:Value}{Q:Value->ah->Prop}(hit:s.heap.IsTupleIter it t i)(ht:s.heap.IsTuple t items)(hx:items[i]?=some x)(hQ:∀h',h'.IsTupleIter it t (i+1)->Heap.SameBut it s.heap h'->Q x {s with heap:=h'}):wpAny (model prog w) A (bg (.ref it)) Q E s:=by obtain⟨o,ho,hc,hd⟩:=id hit;obtain⟨ol,hol,_,nl,hdl⟩:=id ht;unfold bg;refine ae (br (name:=Str.ofString "__next__") hit.typeIs F.slot_tuple_iterator_next (bB F.slot_tuple_iterator_next hit.typeIs F.entry_tuple_iterator_next ?_ (F.args_tuple_iterator_next_1 _)));show wpAny (model prog w) _ (field (.ref it) 0 >>= _) _ _ s;refine ae (bc (x:=.ref t) ho hd rfl ?_);show wpAny (model prog w) _ (if(Value.ref t==Value.none)=true then _ else _) _ _ s;rw[if_neg (by exact Bool.false_ne_true)];show wpAny (model prog w) _ (field (.ref it) 1 >>= _) _ _ s;refine ae (bc (x:=.int i 0) ho hd rfl ?_);show wpAny (model prog w) _ (seqItems? (.ref t) >>= _) _ _ s;refine ae (fL hol hdl ?_);simp only[hx,Int.toNat_natCast];refine ae (bz ho hd (by simp) (ai ⟨x,rfl,ai (hQ _ ⟨_,Heap.get?_update_self _ ho (Obj.isFreed_of_fields (Obj.data_mapFields hd _)),(Obj.cls_mapFields ..).trans hc,by rw[Obj.data_mapFields hd];simp[bC]⟩ (Heap.SameBut.update ..))⟩))
theorem Lc{it t:Addr}{i:Nat}{items:Array Value}{Q:Value->ah->Prop}(hh:A.handled=none)(hit:s.heap.IsTupleIter it t i)(ht:s.heap.IsTuple t items)(hx:items[i]?=none)(hE:∀h' e,Heap.ExtBut it s.heap h'->(∃o,h'.get? e=some o/\o.cls=.type "StopIteration")->E (.ref e) {s with heap:=h'}):wpAny (model prog w) A (bg (.ref it)) Q E s:=by
 obtain⟨o,ho,hc,hd⟩:=id hit;obtain⟨ol,hol,_,nl,hdl⟩:=id ht;unfold bg;refine ae (br (name:=Str.ofString "__next__") hit.typeIs F.slot_tuple_iterator_next (bB F.slot_tuple_iterator_next hit.typeIs F.entry_tuple_iterator_next ?_ (F.args_tuple_iterator_next_1 _)));show wpAny (model prog w) _ (field (.ref it) 0 >>= _) _ _ s;refine ae (bc (x:=.ref t) ho hd rfl ?_);show wpAny (model prog w) _ (if(Value.ref t==Value.none)=true then _ else _) _ _ s;rw[if_neg (by exact Bool.false_ne_true)];show wpAny (model prog w) _ (field (.ref it) 1 >>= _) _ _ s;refine ae (bc (x:=.int i 0) ho hd rfl ?_);show wpAny (model prog w) _ (seqItems? (.ref t) >>= _) _ _ s;refine ae (fL hol hdl ?_);simp only[hx,Int.toNat_natCast];refine ae (d8 (ae (bz ho hd (by simp) ?_)));show wpAny (model prog w) _ (newExc (.type "StopIteration") [] >>= _) _ _ _;refine ae ?_;simp only[newTuple,newExc];refine ae (bt (ae (m:=et _ _) (wpAny_of_eq (a:=Value.none) (by first|rfl|(simp only[et];rfl)) (bt ?_ (by size_fits)))) (by size_fits))
 simp only[raiseNew];refine ae (wpAny_handled ?_);first|rw[show A.in1.handled=none from hh]|rw[hh]
 refine ae (ai (wpAny_throw ?_));exact hE _ _ (((Heap.SameBut.update ..).extBut.push _).push _) ⟨_,Heap.get?_push_size _ rfl,rfl⟩
end
theorem NK{prog:Program}{w:World}{A:aL}(hh:A.handled=none)(it t:Addr)(hne:t≠it)(items:Array Value):
  Draws prog w A it [it,t] items.size (λi v=>items[i]?=some v) (λi h=>h.IsTupleIter it t i/\h.IsTuple t items) where
 live:=λ_ _ st=>by obtain⟨⟨o,ho,_⟩,_⟩:=st;exact⟨o,ho⟩
 frame:=λ_ _ _ st hk=>by
  obtain⟨⟨o,ho,r⟩,⟨o2,ho2,r2⟩⟩:=st
  exact⟨⟨o,hk it (by simp) o ho,r⟩,⟨o2,hk t (by simp) o2 ho2,r2⟩⟩
 item:=λi s Q E hi st hQ=>DS st.1 st.2 (x:=items[i]) (by simp[hi]) λh' hit' hs'=>hQ _ h' s.toks (by simp[hi]) ⟨hit',st.2.extBut hs'.extBut hne⟩ hs'
 done:=λs Q E st hE=>Lc hh st.1 st.2 (by simp) hE
theorem WB(l:Addr)(items:Array Value)(n:Nat)(dct:Option Addr)(sl:Array (Option Value)):Meets (cC.«enumerate.__new__» ⟨[.type "enumerate",.ref l],[]⟩) (λ_ R s=>s.heap.get? l=some {cls:=.type "tuple",dict:=dct,data:=.seq items n,slots:=sl} /\R (.ok (.ret (.ref (s.heap.push {cls:=.type "tuple_iterator",data:=.fields #[.ref l,.int 0 0]}).objs.size))) {s with heap:=(s.heap.push {cls:=.type "tuple_iterator",data:=.fields #[.ref l,.int 0 0]}).push {cls:=.type "enumerate",data:=.fields #[.none,.bool false,.ref s.heap.objs.size,bC 0,.none,.none]}}):=.of_wp λprog w A R s h=>by
  obtain⟨hp,g,d,tk,os⟩:=s;obtain⟨hl,h⟩:=h;have hsub:=sub_enumerate;have hT:Heap.IsTuple (Shared.heap ⟨hp,g,d,tk,os⟩) l items:=⟨_,hl,rfl,n,rfl⟩;wp_walk using gG hl;refine wpAny_stack_any λst=>ai ?_;split
  ·rename_i c _ _ _ _ _;cases(c==Value.type "enumerate")<;>(wp_walk using gG hl,ik hT;exact⟨_,rfl,h⟩)
  ·wp_walk using gG hl,ik hT;exact⟨_,rfl,h⟩
theorem R8{prog:Program}{w:World}{A:aL}{E:Value->ah->Prop}{s:ah}{l:Addr}{items:Array Value}{Q:Value->ah->Prop}(hL:s.heap.IsTuple l items)(h:∀h',IsEnum h' (s.heap.objs.size+1) s.heap.objs.size 0 .none->h'.IsTupleIter s.heap.objs.size l 0->(∀b o,s.heap.get? b=some o->h'.get? b=some o)->Q (.ref (s.heap.objs.size+1)) {s with heap:=h'}):wpAny (model prog w) A (call (.type "enumerate") [.ref l]) Q E s:=by
 obtain⟨⟨c,dct,dt,sl⟩,hl,hc,n,hd⟩:=hL;simp only at hc hd;subst hc hd;refine callType_new F.called_enumerate (by decide) (F.typeCall_enumerate_1 _) (F.newCall_enumerate_1 _) (λobj=>F.args_object_init_2 obj _) F.entry_enumerate_new (WB l items n dct sl) ⟨hl,?_⟩;have hz:(s.heap.push {cls:=.type "tuple_iterator",data:=.fields #[.ref l,.int 0 0]}).objs.size=s.heap.objs.size+1:=Heap.size_push ..;show _/\_;rw[hz];have he:IsEnum ((s.heap.push {cls:=.type "tuple_iterator",data:=.fields #[.ref l,.int 0 0]}).push {cls:=.type "enumerate",data:=.fields #[.none,.bool false,.ref s.heap.objs.size,bC 0,.none,.none]}) (s.heap.objs.size+1) s.heap.objs.size 0 .none:=by have:=Heap.get?_push_size (s.heap.push {cls:=.type "tuple_iterator",data:=.fields #[.ref l,.int 0 0]}) (o:={cls:=.type "enumerate",data:=.fields #[.none,.bool false,.ref s.heap.objs.size,bC 0,.none,.none]}) rfl;rwa [hz]at this
 exact⟨⟨_,he,rfl⟩,h _ he ⟨_,Heap.get?_push_of_some _ (Heap.get?_push_size _ rfl),rfl,rfl⟩ λb o x=>Heap.get?_push_of_some _ (Heap.get?_push_of_some _ x)⟩
noncomputable def Iten(l:Addr):It:=⟨λi H=>∃xs,H l=some (.tup xs)/\i<xs.length,λi H x H'=>∃(T:Addr)(xs:List V)(y:V),H T=none/\H l=some (.tup xs)/\xs[i]?=some y/\x=.ref T/\H'=upd H T (.tup [.int i,y]),λi H=>∃xs,H l=some (.tup xs)/\i=xs.length⟩
theorem Ra{P:Program}{w:World}{K:af}{es:List Expr}{k:Nat}{pt:Pos}(l e it:Addr)(hei:e≠it)(hle:l≠e)(hli:l≠it):
  Turn P w K (.Tuple es k pt) (Iten l) [e,it] e (λi h=>(∃old,IsEnum h e it i old)/\h.IsTupleIter it l i) where
 mem:=by simp
 obj:=λi h st b hb=>by
  obtain⟨⟨old,he⟩,o,ho,c,d⟩:=st
  have hb':b=e\/b=it:=by simpa using hb
  rcases hb' with rfl|rfl
  ·exact⟨_,he,λv z=>by cases z⟩
  ·exact⟨o,ho,λv z=>by rw[d]at z;cases z⟩
 keep:=λi h h' st kk=>by
  obtain⟨⟨old,he⟩,o,ho,r⟩:=st
  exact⟨⟨old,kk e (by simp) _ he⟩,o,kk it (by simp) o ho,r⟩
 item:=by
  intro X hP hw hK hc i pins s σ H E I hf st hg
  subst hP hw hK
  obtain⟨xs,hx,hi⟩:=hg
  obtain⟨⟨old,he⟩,hs⟩:=st
  obtain⟨its,rv,pl,_⟩:=I.tuple (SqT.of hx)
  have hlen:=rv.length
  have D:=NK (prog:=X.prog) (w:=X.w) (A:=X.A.in1) (I.ok.hd hc) it l hli its.toArray
  have W:=WalksT.enumerateD D e hei (by simp[hei,bw hle]) (by simp)
  refine W.item i s _ _ (by simp only[ar];omega) ⟨⟨old,he⟩,hs,pl⟩ λT vals h' tk hv hT ht hm kk=>?_
  obtain⟨tk',u,hu,rfl⟩:=hv
  obtain⟨y,hy⟩:∃y,xs[i]?=some y:=⟨xs[i],gE hi⟩
  obtain⟨u2,hu2,ru⟩:=rv.get hy
  have hu':its[i]?=some u:=by simpa using hu
  rw[hu']at hu2;cases hu2
  refine⟨_,rfl,?_⟩
  refine W.go es k pt i T {s with heap:=h',toks:=tk} _ _ hm λh2 st2 kk2=>?_
  have hTn:H T=none:=I.hok.fresh hT
  have hap:=W.apart i T h' hm
  have hb2:∀b,b∉[e,it]->∀o,s.heap.get? b=some o->h2.get? b=some o:=λb hb o q=>kk2 b o hb (kk b o hb q)
  have nb:∀b u,H b=some u->b∉[e,it]:=λb u q hb=>by rw[(hf b hb).1]at q;cases q
  have I1:Inv X pins σ (upd H T (.tup [.int i,y])) {s with heap:=h2,toks:=tk}:=by
   refine I.step (g':=s.gens) (d':=s.drawn) (ch:=[e,it]) (λb hb=>?_) (λb o _ _ hb q _=>hb2 b hb o q) (λb o _ _ hb q _=>⟨o.slots,hb2 b hb o q⟩)
    (λb o hb q n=>?_) (λb o hb q=>⟨o,hb2 b hb o q⟩) (λb xs q=>?_) (λb o u q=>?_) (λb ps q=>?_) (λm hm=>?_) ?_ I.bare
   ·obtain⟨g0,g1,g2,g3,g4,g5⟩:=hf b hb
    exact⟨g3,g1,g4,g5⟩
   ·rw[Zg (Nat.ne_of_lt (Nat.lt_of_lt_of_le (Heap.lt_size q) hT))];exact n
   ·rw[Zg (Zf q hTn)];exact q
   ·rw[Zg (Zf q hTn)];exact q
   ·exact⟨#[],by rw[Zg (Zf q hTn),q];simp⟩
   ·obtain⟨o,es',ep,ho,r⟩:=hm
    refine⟨o,es',ep,hb2 _ ?_ o ho,r⟩
    intro hb
    obtain⟨g0,g1,_⟩:=hf _ hb
    exact g1 rfl
   ·intro b ob q
    by_cases hb:b=T
    ·subst hb
     rw[Zb]at q
     cases q
     obtain⟨o,h1,h2',h3⟩:=ht
     exact⟨zl,[.int i tk',u],.cons ⟨_,rfl⟩ (.cons ru .nil),⟨o,kk2 _ _ hap h1,h2',h3⟩⟩
    ·rw[Zg hb]at q
     refine(I.hok b ob q).stay (λc' v hc' q'=>hb2 c' ?_ v q') (λc' q'=>by rw[Zg (Zf q' hTn)];exact q') λc' xs q'=>by rw[Zg (Zf q' hTn)];exact q'
     rcases hc' with rfl|hc'
     ·exact nb _ _ q
     ·exact nb _ _ hc'
  refine⟨.ref T,_,I1,rfl,⟨T,xs,y,hTn,hx,hy,rfl,rfl⟩,⟨st2.1,st2.2.1⟩,λb hb=>?_⟩
  rw[Zg]
  ·exact(hf b hb).1
  ·rintro rfl
   exact hap hb
 done:=by
  intro X hP hw hK hc i pins s σ H E I hf st hg
  subst hP hw hK
  obtain⟨xs,hx,hi⟩:=hg
  obtain⟨⟨old,he⟩,hs⟩:=st
  obtain⟨its,rv,pl,_⟩:=I.tuple (SqT.of hx)
  have hlen:=rv.length
  have D:=NK (prog:=X.prog) (w:=X.w) (A:=X.A.in1) (I.ok.hd hc) it l hli its.toArray
  have W:=WalksT.enumerateD D e hei (by simp[hei,bw hle]) (by simp)
  have ei:i=its.toArray.size:=by simp only[ar];omega
  subst ei
  refine W.done s _ _ ⟨⟨old,he⟩,hs,pl⟩ λh' tk kk=>⟨rfl,?_⟩
  have nb:∀b u,H b=some u->b∉[e,it]:=λb u q hb=>by rw[(hf b hb).1]at q;cases q
  refine I.step (g':=s.gens) (d':=s.drawn) (ch:=[e,it]) (λb hb=>?_) (λb o _ _ hb q _=>kk b o hb q) (λb o _ _ hb q _=>⟨o.slots,kk b o hb q⟩)
   (λb o hb q n=>n) (λb o hb q=>⟨o,kk b o hb q⟩) (λb xs q=>q) (λb o u q=>q) (λb ps q=>⟨#[],by rw[q];simp⟩) (λm hm=>?_) (λb u q=>?_) I.bare
  ·obtain⟨g0,g1,g2,g3,g4,g5⟩:=hf b hb
   exact⟨g3,g1,g4,g5⟩
  ·obtain⟨o,es',ep,ho,r⟩:=hm
   refine⟨o,es',ep,kk _ o ?_ ho,r⟩
   intro hb
   obtain⟨g0,g1,_⟩:=hf _ hb
   exact g1 rfl
  ·refine(I.hok b u q).stay (λc' v hc' q'=>kk c' v ?_ q') (λ_ q'=>q') λ_ _ q'=>q'
   rcases hc' with rfl|hc'
   ·exact nb _ _ q
   ·exact nb _ _ hc'
 self:=λA i s Q E st h=>by
  obtain⟨⟨old,he⟩,_⟩:=st
  exact wpAny_pyIter_enum he h
section
variable {X:Cx}
noncomputable def iEnT(ta:TA):TI:=λσ H R=>ta σ H λvs H1=>∃(l:Addr)(xs:List V),vs=[.ref l]/\H1 l=some (.tup xs)/\R (Iten l) H1
theorem Ua{a:Expr}{ta:TA}{p pos pt:Pos}{es:List Expr}{k:Nat}(hg:Gl X "enumerate")(hm:X.mg "enumerate"=none)(ha:PA X [a] ta)(hb:bX "enumerate"=some (.type "enumerate"))(hs:aA [a] X.env=[(false,eval a X.env)]:=by rfl):PI X (.Tuple es k pt) (.Call (.Name "enumerate" p) [a] [] pos) (iEnT ta):=by
 intro pins s σ H R I h;refine Call_ (J1 I hg hm hb (bR (thn (ha pos pins s σ H _ I h) λus s1 hZ=>?_) hs rfl));obtain⟨vs,H1,I1,r1,q1⟩:=hZ;obtain⟨l,xs,e,hx,q⟩:=q1;subst e;cases r1 with
|cons r rr=>
  cases rr;cases r;obtain⟨its,rv,pl,_⟩:=I1.tuple (SqT.of hx);refine R8 pl λh' he hst kk=>?_;have I2:Inv X pins σ H1 {s1 with heap:=h'}:=I1.kept (t':=s1.toks) kk;refine wpAny_pyIter_enum he ?_;have lt:l<s1.heap.objs.size:=I1.hok.lt hx;refine⟨s1.heap.objs.size+1,[s1.heap.objs.size+1,s1.heap.objs.size],_,_,H1,rfl,I2,Ra l (s1.heap.objs.size+1) s1.heap.objs.size (Nat.succ_ne_self _) (Nat.ne_of_lt (Nat.lt_succ_of_lt lt)) (Nat.ne_of_lt lt),⟨⟨_,he⟩,hst⟩,λb hb=>?_,q⟩;have e:b=s1.heap.objs.size+1\/b=s1.heap.objs.size:=by simpa using hb
  rcases e with e|e<;>subst e
  ·exact I1.fpOk (Nat.le_succ _) (I1.hok.fresh (Nat.le_succ _))
  ·exact I1.fpOk (Nat.le_refl _) (I1.hok.fresh (Nat.le_refl _))
end
theorem Mb:bX "enumerate"=some (.type "enumerate"):=by decide +kernel
def tOrX(K:af)(ta tb:TE):TE:=λσ H Q=>ta σ H λx H1=>∃k,TruV K x H1 k/\if k=true then Q x H1 else tb σ H1 Q
theorem Pp{X:Cx}{a b:Expr}{rest:List Expr}{pos:Pos}{ta tb:TE}(ha:PE X a ta)(hb:PE X (.BoolOp .Or (b::rest) pos) tb):PE X (.BoolOp .Or (a::b::rest) pos) (tOrX X.K ta tb):=by
 intro pins s σ H Q I h;refine BoolOp_or (thn (ha pins s σ H _ I h) λv s1 hZ=>?_);obtain⟨x,H1,I1,r1,k,q1,q2⟩:=hZ;refine thn (EH pins s1 σ H1 x v (λk' H'=>H'=H1/\k'=k) I1 r1 ⟨k,q1,rfl,rfl⟩) λc s2 hZ=>?_;obtain⟨H2,I2,e1,e2⟩:=hZ;subst e1 e2;cases c with
|false=>exact hb pins s2 σ H2 Q I2 q2
|true=>exact⟨x,H2,I2,r1,q2⟩
def Zi(b:Addr)(H H':Hp):Prop:=∀c o,H c=some o->c≠b->H' c=some o
theorem Zi.refl(b:Addr)(H:Hp):Zi b H H:=λ_ _ h _=>h
theorem Zi.trans{b:Addr}{H H1 H2:Hp}(x:Zi b H H1)(y:Zi b H1 H2):Zi b H H2:=λc o h hc=>y c o (x c o h hc) hc
theorem Zi.upd{b:Addr}{H H1:Hp}{o:HO}(x:Zi b H H1):Zi b H (upd H1 b o):=λc u h hc=>by rw[Zg hc];exact x c u h hc
theorem Zi.of{b:Addr}{H H1:Hp}(x:Same H H1):Zi b H H1:=λc u h _=>x c u h
theorem Th.sameB{H H':Hp}{t C dx:Addr}{fs:List (Str×V)}(ht:H t=some (.ins C dx fs))(s:Zi t H H'){v:V}{T:String}(h:Th H v T):Th H' v T:=by
 cases h with
|non=>exact .non
|bl b=>exact .bl b
|int i=>exact .int i
|str z h=>exact .str z h
|lst e=>exact .lst (s _ _ e (ne_of e ht (by intro z;cases z)))
|tup e=>exact .tup (s _ _ e (ne_of e ht (by intro z;cases z)))
|dK e=>exact .dK (s _ _ e (ne_of e ht (by intro z;cases z)))
theorem Y8{J:It}{g:TG}{tb:TS}{D:Ends}{σ:L2.St}{H:Hp}(n:Nat)(Pv:Nat->L2.St->Hp->Prop)(h0:Pv 0 σ H)(hgo:∀i σ H,i<n->Pv i σ H->J.go i H)(hstop:∀σ H,Pv n σ H->J.stop n H)(hs:∀i σ H x H',i<n->Pv i σ H->J.yld i H x H'->g x σ H' λσ2 H2=>tb {D with nx:=Pv (i+1),ct:=Pv (i+1),bk:=D.nx} σ2 H2)(hd:∀σ H,Pv n σ H->D.nx σ H):∃W:Nat->Nat->L2.St->Hp->Prop,(∃m,W 0 m σ H)/\∀i m σ H,W i m σ H ->(J.stop i H/\D.nx σ H)\/(J.go i H/\∃N:L2.St->Hp->Prop,(∀σ' H',N σ' H'->∃m',m'<m/\W (i+1) m' σ' H')/\∀x H',J.yld i H x H'->g x σ H' λσ2 H2=>tb {D with nx:=N,ct:=N,bk:=D.nx} σ2 H2):=by
 refine⟨λi m σ H=>m=n-i/\i<=n/\Pv i σ H,⟨n,rfl,Nat.zero_le _,h0⟩,?_⟩;rintro i m σ H ⟨rfl,hi,p⟩;by_cases hlt:i<n
 ·exact .inr ⟨hgo i σ H hlt p,Pv (i+1),λσ' H' p'=>⟨n-(i+1),by omega,rfl,hlt,p'⟩,λx H' y=>hs i σ H x H' hlt p y⟩
 ·have e:i=n:=by omega
  subst e;exact .inl ⟨hstop σ H p,hd σ H p⟩
end L2
namespace TB
open PySem L2 PySem.Spec PyProof.Rows
theorem Row.sameB{H H':Hp}{t C dx:Addr}{fs:List (Str×V)}(ht:H t=some (.ins C dx fs))(s:Zi t H H'){v:V}{r:Option (List V)}(h:Row H v r):Row H' v r:=by
 cases r with
|none=>obtain⟨T,th,hT⟩:=h;exact⟨T,th.sameB ht s,hT⟩
|some xs=>obtain⟨p,rfl,hp,hx⟩:=h;exact⟨p,rfl,s _ _ hp (ne_of hp ht (by intro z;cases z)),λx hx'=>let ⟨T,th⟩:=hx x hx';⟨T,th.sameB ht s⟩⟩
def Ye(H:Hp)(xs:List V)(rs:List (Option (List V))):Prop:=xs.length=rs.length/\∀(i:Nat)x r,xs[i]?=some x->rs[i]?=some r->Row H x r
noncomputable def Yi:Nat->List (Key×V)->List (Option (List V))->Sum (Nat×V) (List (Key×V))
|_,kvs,[]=>.inr kvs
|i,kvs,r::rs=>
  if begR false 2 kvs r≠.non then .inl (i,begR false 2 kvs r)else match r with
  |some [.str n,room]=>if Yh room≠.non then .inl (i,Yh room)else Yi (i+1) (putK kvs (.inr n) room) rs
  |_=>.inl (i,.str "form")
theorem Mu{i:Nat}{kvs:List (Key×V)}{r:Option (List V)}{rs:List (Option (List V))}(h:begR false 2 kvs r≠.non):Yi i kvs (r::rs)=.inl (i,begR false 2 kvs r):=by unfold Yi;rw[if_pos h]
theorem Vg{g:Bool}{n:Nat}{kvs:List (Key×V)}{r:Option (List V)}(h:begR g n kvs r=.non):∃xs y,r=some xs/\xs.length=n/\xs.getD 0 .non=.str y:=by
 cases r with
|none=>cases h
|some xs=>
  have h':begV g n kvs xs=.non:=h;unfold begV at h';by_cases h1:xs.length≠n
  ·rw[if_pos h1]at h';cases h'
  ·rw[if_neg h1]at h';by_cases h2:Z0 g (xs.getD 0 .non)=false
   ·rw[if_pos h2]at h';cases h'
   ·have h2':Z0 g (xs.getD 0 .non)=true:=by simpa using h2
    unfold Z0 at h2';cases e:xs.getD 0 .non with
   |str y=>exact⟨xs,y,rfl,by omega,e⟩
   |_=>rw[e]at h2';split at h2'<;>cases h2'
def TZ(v:V):Prop:=v=.non\/∃z:Str,v=.str z/\z.length<=1000/\z.length≠0
theorem TZ.tru{K:af}{v:V}{H:Hp}(h:TZ v):TruV K v H (decide (v≠.non)):=by
 rcases h with rfl|⟨z,rfl,h1,h2⟩
 ·exact rfl
 ·refine⟨Nat.le_of_lt (Xz h1),?_⟩;rw[decide_eq_true (by intro q;cases q)];simp[h2]
theorem Mc(g:Bool)(n:Nat)(kvs:List (Key×V))(r:Option (List V)):TZ (begR g n kvs r):=by
 cases r with
|none=>exact .inr ⟨_,rfl,by decide +kernel,by decide +kernel⟩
|some xs=>
  show TZ (begV g n kvs xs);unfold begV;split
  ·exact .inr ⟨_,rfl,by decide +kernel,by decide +kernel⟩
  ·split
   ·exact .inr ⟨_,rfl,by decide +kernel,by decide +kernel⟩
   ·split
    ·exact .inr ⟨_,rfl,by decide +kernel,by decide +kernel⟩
    ·exact .inl rfl
section
variable {P:Program}{w:World}{K:af}{mg:Str->Option Value}{base:Heap}{C Cb:Addr}
def SK(C Cb:Addr):Sp:=λvs H Q E=>∃(t l dx:Addr)(xs:List V)(rs:List (Option (List V)))(fs:List (Str×V)),vs=[.ref t,.ref l]/\H t=some (.ins C dx fs)/\(∀g,g∉fields->fs.lookup g=none)/\fs.length<=20/\H l=some (.tup xs)/\xs.length<=1000/\Ye H xs rs /\match Yi 0 [] rs with
|.inl (i,why)=>∀H1,Zi t H H1->Bad Cb (.str "places") (.int i) why H1 E
|.inr kvs=>∀H' d,Zi t H H'->H d=none->d≠t->H' d=some (.dK kvs)->H' t=some (.ins C dx (putF "room_by_place" (.ref d) (putF "places" (.ref l) fs)))->Q .non H'
theorem Pg:FnScope ["self","places","at","row"] ["self","places"] (Ze T.m_Table_take_places):=scO
theorem WR(Z:TCl K C)(he:mg "enumerate"=none)(D:DfM K C "take_places" "Table.take_places" T.m_Table_take_places ["self","places"])(CB:Can P w K mg base 3 "wrong_beginning" ["part","row","names_ahead"] JQ)(CW:Can P w K mg base 3 "wrong_place" ["row"] P0)(CR:CanX P w K mg base 3 "refuse_row" ["part","at","why"] (YS Cb)):CanM P w K mg base (CX1 P w) 4 C "take_places" ["self","places"] (SK C Cb):=by
 refine D.cnX Pg λf cdv A outer s H vs Q E hr h=>?_;obtain⟨t,l,dx,xs,rs,fs,rfl,ht,honly,hfs,hl,hlen,hrows,k⟩:=h;refine⟨_,Zd (YA (pv 0) (pv 1) rfl) (Zd (YA (pv 0) JV rfl) (Zj (Yr eV rfl (Ua rfl he (Zk (pv 1) Zh) Mb) (XJ rfl (Zo (nmT 2 Pg.nd) (Zo (nmT 3 Pg.nd) Yn))) (Zd (ZF (Jc CR YV hr rfl (Zk Zp (Zk (pv 2) (Zk (Pp (Z3 CB hr rfl (Zk Zp (Zk (pv 3) (Zk (ZI (pv 0) rfl) Zh)))) (YF (Z3 CW hr rfl (Zk (pv 3) Zh)))) Zh))))) (Zj (Ja (J4 hr) (ZI (pv 0) rfl) (Yj Z8 (pv 3) Zc (λ_ _=>rfl)) (Yj Z8 (pv 3) Zc (λ_ _=>rfl)) rfl)))))),?_⟩;have nP:Z1 K C "places":=Z.na _ (by simp[fields]);have nR:Z1 K C "room_by_place":=Z.na _ (by simp[fields]);have htl:l≠t:=ne_of hl ht (by intro z;cases z);have fl1:(putF "places" (.ref l) fs).length<=21:=by have:=Yd "places" (V.ref l) fs;omega
 refine⟨_,rfl,_,rfl,t,C,dx,_,rfl,ht,Z.cl,nP,by omega,?_⟩;have s1:Zi t H (upd H t (.ins C dx (putF "places" (.ref l) fs))):=(Zi.refl t H).upd;have t1:upd H t (.ins C dx (putF "places" (.ref l) fs)) t=some (.ins C dx (putF "places" (.ref l) fs)):=Zb;have fr1:∀c,upd H t (.ins C dx (putF "places" (.ref l) fs)) c=none->H c=none/\c≠t:=λc e=>by
  by_cases h:c=t
  ·rw[h,Zb]at e;cases e
  ·rw[Zg h]at e;exact⟨e,h⟩
 generalize upd H t (.ins C dx (putF "places" (.ref l) fs))=H1 at s1 t1 fr1 ⊢;refine λd hd=>⟨_,rfl,t,C,dx,_,rfl,(by rw[Zg (Zf t1 hd)];exact t1),Z.cl,nR,by omega,?_⟩;obtain⟨hd0,hdt⟩:=fr1 d hd;have s2:Zi t H (upd (upd H1 d (.dK [])) t (.ins C dx (putF "room_by_place" (.ref d) (putF "places" (.ref l) fs)))):=λc o h hc=>by rw[Zg hc,Zg (λz=>by rw[z,hd0]at h;cases h)];exact s1 c o h hc
 have t2:upd (upd H1 d (.dK [])) t (.ins C dx (putF "room_by_place" (.ref d) (putF "places" (.ref l) fs))) t=some (.ins C dx (putF "room_by_place" (.ref d) (putF "places" (.ref l) fs))):=Zb;have d2:upd (upd H1 d (.dK [])) t (.ins C dx (putF "room_by_place" (.ref d) (putF "places" (.ref l) fs))) d=some (.dK []):=by rw[Zg hdt,Zb]
 have lk:(putF "room_by_place" (.ref d) (putF "places" (.ref l) fs)).lookup ("room_by_place":Str)=some (.ref d):=by rw[Zl,if_pos rfl]
 generalize upd (upd H1 d (.dK [])) t (.ins C dx (putF "room_by_place" (.ref d) (putF "places" (.ref l) fs)))=H2 at s2 t2 d2 ⊢;have kk:∀res,Yi 0 [] rs=res->(match res with
 |.inl (i,why)=>∀H1,Zi t H H1->Bad Cb (.str "places") (.int i) why H1 E
 |.inr kvs=>∀H' d,Zi t H H'->H d=none->d≠t->H' d=some (.dK kvs)->H' t=some (.ins C dx (putF "room_by_place" (.ref d) (putF "places" (.ref l) fs)))->Q .non H'):=λres e=>by rw[<-e];exact k
 clear k;refine⟨_,rfl,l,xs,rfl,s2 _ _ hl htl,Y8 (J:=Iten l) xs.length (λi σ H'=>∃(kvs:List (Key×V))(v2 v3:Option V),σ=[some (.ref t),some (.ref l),v2,v3]/\Zi t H H'/\H' t=some (.ins C dx (putF "room_by_place" (.ref d) (putF "places" (.ref l) fs)))/\H' d=some (.dK kvs)/\Yi 0 [] rs=Yi i kvs (rs.drop i)/\kvs.length<=i) ⟨[],none,none,rfl,s2,t2,d2,rfl,Nat.le_refl _⟩ (λi σ H' hi p=>?_) (λσ H' p=>?_) (λi σ H' x H'' hi p yl=>?_) (λσ H' p=>?_)⟩
 ·obtain⟨kvs,v2,v3,rfl,sm,_⟩:=p;exact⟨xs,sm _ _ hl htl,hi⟩
 ·obtain⟨kvs,v2,v3,rfl,sm,_⟩:=p;exact⟨xs,sm _ _ hl htl,rfl⟩
 ·obtain⟨kvs,v2,v3,rfl,sm,tt,dd,hgo,hkl⟩:=p;obtain⟨Tt,xs',y,hT,e1,hy,rfl,rfl⟩:=yl;rw[sm _ _ hl htl]at e1;cases e1;have hi':i<rs.length:=by rw[<-hrows.1];exact hi
  have hr0:rs[i]?=some rs[i]:=gE hi';have hdrop:rs.drop i=rs[i]::rs.drop (i+1):=c8 hi';have hrow0:=hrows.2 i y rs[i] hy hr0;generalize rs[i]=r at hr0 hdrop hrow0;have sm3:Zi t H (upd H' Tt (.tup [.int i,y])):=λc o h hc=>by rw[Zg (Zf (sm c o h hc) hT)];exact sm c o h hc
  have t3:upd H' Tt (.tup [.int i,y]) t=some (.ins C dx (putF "room_by_place" (.ref d) (putF "places" (.ref l) fs))):=by rw[Zg (Zf tt hT)];exact tt
  have d3:upd H' Tt (.tup [.int i,y]) d=some (.dK kvs):=by rw[Zg (Zf dd hT)];exact dd
  refine⟨Tt,_,rfl,SqT.of Zb,rfl,_,_,rfl,_,_,rfl,rfl,?_⟩;generalize upd H' Tt (.tup [.int i,y])=H3 at sm3 t3 d3 ⊢;refine td λD' hdd=>?_;have hrow3:Row H3 y r:=hrow0.sameB ht sm3;refine⟨_,rfl,_,rfl,_,rfl,t,C,dx,_,_,rfl,t3,Z.cl,nR,lk,"places",2,y,r,d,kvs,rfl,by simp[Mx],hrow3,d3,λH4 sm34=>⟨_,(Mc _ _ _ _).tru,?_⟩⟩;have sm4:Zi t H H4:=sm3.trans (Zi.of sm34);have t4:=sm34 _ _ t3;have d4:=sm34 _ _ d3;have eg:decide ((("places":Str))="groups")=false:=by decide +kernel
  rw[eg];rw[hdrop]at hgo;by_cases hb:begR false 2 kvs r=.non
  ·rw[hb];refine iteF ?_;obtain⟨ys,n,rfl,hyl,hyn⟩:=Vg hb;obtain⟨q,rfl,hq,hqx⟩:=hrow3;obtain⟨x0,room,rfl⟩:=len2 hyl;have hx0:x0=.str n:=hyn;subst hx0;have hq4:=sm34 _ _ hq;obtain⟨T5,th5⟩:=hqx room (by simp);refine⟨_,rfl,q,.str n,room,T5,rfl,hq4,th5.same sm34,?_⟩;have hstep:Yi i kvs (some [.str n,room]::rs.drop (i+1))=if Yh room≠.non then .inl (i,Yh room)else Yi (i+1) (putK kvs (.inr n) room) (rs.drop (i+1)):=by rw[Yi,if_neg (by rw[hb];exact λz=>z rfl)]
   by_cases hw:Yh room=.non
   ·refine⟨_,_,_,rfl,.inl ⟨hw,?_⟩⟩;refine⟨_,rfl,q,_,1,room,rfl,rfl,SqT.of hq4,at0 1 rfl,_,rfl,t,C,dx,_,_,rfl,t4,Z.cl,nR,lk,_,rfl,q,_,0,.str n,rfl,rfl,SqT.of hq4,at0 0 rfl,d,_,rfl,DPut.k (k:=cD n) d4 (Xz (by omega)),?_⟩;refine hdd _ _ ⟨putK kvs (.inr n) room,_,_,rfl,λc o h hc=>?_,(by rw[Zg (bw hdt)];exact t4),Zb,?_,?_⟩
    ·rw[Zg (λz=>by rw[z,hd0]at h;cases h)];exact sm4 c o h hc
    ·rw[hgo,hstep,if_neg (λz=>z hw)]
    ·have:=YH kvs (cD n) room;omega
   ·refine⟨_,_,_,rfl,.inr ⟨hw,?_⟩⟩;exact kk (.inl (i,Yh room)) (by rw[hgo,hstep,if_pos hw]) H4 sm4
  ·rw[decide_eq_true hb];refine iteT ?_;refine⟨_,_,_,rfl,.inr ⟨hb,?_⟩⟩;exact kk (.inl (i,begR false 2 kvs r)) (by rw[hgo,Mu hb]) H4 sm4
 ·obtain⟨kvs,v2,v3,rfl,sm,tt,dd,hgo,hkl⟩:=p;have hd':rs.drop xs.length=[]:=by rw[hrows.1];exact List.drop_length
  rw[hd',Yi]at hgo;exact kk _ hgo H' d sm hd0 hdt dd tt
noncomputable def nameOf(ys:List V):Str:=match ys.getD 0 .non with
|.str y=>y
|_=>Str.empty
noncomputable def Yq(g:Bool)(n:Nat)(why:List V->V):Nat->List (Key×V)->List (V×Option (List V))->Sum (Nat×V) (List (Key×V))
|_,kvs,[]=>.inr kvs
|i,kvs,(x,r)::rs=>
  if begR g n kvs r≠.non then .inl (i,begR g n kvs r)else match r with
  |some ys=>if why ys≠.non then .inl (i,why ys)else Yq g n why (i+1) (putK kvs (.inr (nameOf ys)) x) rs
  |none=>.inl (i,.str "form")
theorem Ms{g:Bool}{n:Nat}{why:List V->V}{i:Nat}{kvs:List (Key×V)}{x:V}{r:Option (List V)}{rs:List (V×Option (List V))}(h:begR g n kvs r≠.non):Yq g n why i kvs ((x,r)::rs)=.inl (i,begR g n kvs r):=by unfold Yq;rw[if_pos h]
theorem U7{g:Bool}{n:Nat}{why:List V->V}{i:Nat}{kvs:List (Key×V)}{x:V}{ys:List V}{rs:List (V×Option (List V))}(h:begR g n kvs (some ys)=.non):Yq g n why i kvs ((x,some ys)::rs)=if why ys≠.non then .inl (i,why ys)else Yq g n why (i+1) (putK kvs (.inr (nameOf ys)) x) rs:=by
 conv=>lhs;unfold Yq
 rw[if_neg (λz=>z h)]
noncomputable def at_(ys:List V)(i:Nat):V:=ys.getD i .non
noncomputable def JU(kvs:List (Key×V))(n:Int)(ys:List V):V:=GO kvs n (at_ ys 1) (at_ ys 2) (at_ ys 3) (at_ ys 4) (at_ ys 5)
noncomputable def wayW(kvs:List (Key×V))(ys:List V):V:=wayV kvs (at_ ys 1) (at_ ys 2) (at_ ys 3) (at_ ys 4)
def SJ(C Cb:Addr):Sp:=λvs H Q E=>∃(t l dx dP:Addr)(xs:List V)(rs:List (Option (List V)))(fs:List (Str×V))(kvsP:List (Key×V))(nT:Int),vs=[.ref t,.ref l]/\H t=some (.ins C dx fs)/\(∀g,g∉fields->fs.lookup g=none)/\fs.length<=20 /\fs.lookup ("room_by_place":Str)=some (.ref dP)/\H dP=some (.dK kvsP)/\fs.lookup ("turns":Str)=some (.int nT)/\H l=some (.tup xs)/\xs.length<=1000/\Ye H xs rs /\match Yq false 6 (JU kvsP nT) 0 [] (xs.zip rs)with
|.inl (i,why)=>∀H1,Zi t H H1->Bad Cb (.str "rides") (.int i) why H1 E
|.inr kvs=>∀H' d,Zi t H H'->H d=none->d≠t->H' d=some (.dK kvs)->H' t=some (.ins C dx (putF "ride_by_name" (.ref d) (putF "rides" (.ref l) fs)))->Q .non H'
theorem Pf:FnScope ["self","rides","at","row"] ["self","rides"] (Ze T.m_Table_take_rides):=scO
theorem WQ(Z:TCl K C)(he:mg "enumerate"=none)(D:DfM K C "take_rides" "Table.take_rides" T.m_Table_take_rides ["self","rides"])(CB:Can P w K mg base 3 "wrong_beginning" ["part","row","names_ahead"] JQ)(CW:Can P w K mg base 5 "wrong_ride" ["table","row"] (Kl C))(CR:CanX P w K mg base 3 "refuse_row" ["part","at","why"] (YS Cb)):CanM P w K mg base (CX1 P w) 6 C "take_rides" ["self","rides"] (SJ C Cb):=by
 refine D.cnX Pf λf cdv A outer s H vs Q E hr h=>?_;obtain⟨t,l,dx,dP,xs,rs,fs,kvsP,nT,rfl,ht,honly,hfs,hdP,hkP,hnT,hl,hlen,hrows,k⟩:=h;have hr3:=hr.mono (by decide:3<=5);refine⟨_,Zd (YA (pv 0) (pv 1) rfl) (Zd (YA (pv 0) JV rfl) (Zj (Yr eV rfl (Ua rfl he (Zk (pv 1) Zh) Mb) (XJ rfl (Zo (nmT 2 Pf.nd) (Zo (nmT 3 Pf.nd) Yn))) (Zd (ZF (Jc CR YV hr3 rfl (Zk Zp (Zk (pv 2) (Zk (Pp (Z3 CB hr3 rfl (Zk Zp (Zk (pv 3) (Zk (ZI (pv 0) rfl) Zh)))) (YF (Z3 CW hr rfl (Zk (pv 0) (Zk (pv 3) Zh))))) Zh))))) (Zj (Ja (J4 hr) (ZI (pv 0) rfl) (Yj Z8 (pv 3) Zc (λ_ _=>rfl)) (pv 3) rfl)))))),?_⟩;have nP:Z1 K C "rides":=Z.na _ (by simp[fields]);have nR:Z1 K C "ride_by_name":=Z.na _ (by simp[fields]);have htl:l≠t:=ne_of hl ht (by intro z;cases z);have hdPt:dP≠t:=ne_of hkP ht (by intro z;cases z);have fl1:(putF "rides" (.ref l) fs).length<=21:=by have:=Yd "rides" (V.ref l) fs;omega
 refine⟨_,rfl,_,rfl,t,C,dx,_,rfl,ht,Z.cl,nP,by omega,?_⟩;have s1:Zi t H (upd H t (.ins C dx (putF "rides" (.ref l) fs))):=(Zi.refl t H).upd;have t1:upd H t (.ins C dx (putF "rides" (.ref l) fs)) t=some (.ins C dx (putF "rides" (.ref l) fs)):=Zb;have fr1:∀c,upd H t (.ins C dx (putF "rides" (.ref l) fs)) c=none->H c=none/\c≠t:=λc e=>by
  by_cases h:c=t
  ·rw[h,Zb]at e;cases e
  ·rw[Zg h]at e;exact⟨e,h⟩
 generalize upd H t (.ins C dx (putF "rides" (.ref l) fs))=H1 at s1 t1 fr1 ⊢;refine λd hd=>⟨_,rfl,t,C,dx,_,rfl,(by rw[Zg (Zf t1 hd)];exact t1),Z.cl,nR,by omega,?_⟩;obtain⟨hd0,hdt⟩:=fr1 d hd;have s2:Zi t H (upd (upd H1 d (.dK [])) t (.ins C dx (putF "ride_by_name" (.ref d) (putF "rides" (.ref l) fs)))):=λc o h hc=>by rw[Zg hc,Zg (λz=>by rw[z,hd0]at h;cases h)];exact s1 c o h hc
 have t2:upd (upd H1 d (.dK [])) t (.ins C dx (putF "ride_by_name" (.ref d) (putF "rides" (.ref l) fs))) t=some (.ins C dx (putF "ride_by_name" (.ref d) (putF "rides" (.ref l) fs))):=Zb;have d2:upd (upd H1 d (.dK [])) t (.ins C dx (putF "ride_by_name" (.ref d) (putF "rides" (.ref l) fs))) d=some (.dK []):=by rw[Zg hdt,Zb]
 have lk:(putF "ride_by_name" (.ref d) (putF "rides" (.ref l) fs)).lookup ("ride_by_name":Str)=some (.ref d):=by rw[Zl,if_pos rfl]
 have lkP:(putF "ride_by_name" (.ref d) (putF "rides" (.ref l) fs)).lookup ("room_by_place":Str)=some (.ref dP):=by rw[Zl,if_neg (by decide +kernel),Zl,if_neg (by decide +kernel)];exact hdP
 have lkT:(putF "ride_by_name" (.ref d) (putF "rides" (.ref l) fs)).lookup ("turns":Str)=some (.int nT):=by rw[Zl,if_neg (by decide +kernel),Zl,if_neg (by decide +kernel)];exact hnT
 have lkO:∀g,g∉fields->(putF "ride_by_name" (.ref d) (putF "rides" (.ref l) fs)).lookup g=none:=λg hg=>by rw[Zl,if_neg (λz=>hg (by rw[z];simp[fields])),Zl,if_neg (λz=>hg (by rw[z];simp[fields]))];exact honly g hg
 have hFin:∀kvs,(∀H' d,Zi t H H'->H d=none->d≠t->H' d=some (.dK kvs)->H' t=some (.ins C dx (putF "ride_by_name" (.ref d) (putF "rides" (.ref l) fs)))->Q .non H')->∀H',Zi t H H'->H' d=some (.dK kvs)->H' t=some (.ins C dx (putF "ride_by_name" (.ref d) (putF "rides" (.ref l) fs)))->Q .non H':=λkvs kf H' h1 h2 h3=>kf H' d h1 hd0 hdt h2 h3;generalize hF2:putF "ride_by_name" (.ref d) (putF "rides" (.ref l) fs)=F2 at s2 t2 d2 lk lkP lkT lkO ⊢;generalize upd (upd H1 d (.dK [])) t (.ins C dx F2)=H2 at s2 t2 d2 ⊢;have kk:∀res,Yq false 6 (JU kvsP nT) 0 [] (xs.zip rs)=res->(match res with
 |.inl (i,why)=>∀H1,Zi t H H1->Bad Cb (.str "rides") (.int i) why H1 E
 |.inr kvs=>∀H',Zi t H H'->H' d=some (.dK kvs)->H' t=some (.ins C dx F2)->Q .non H'):=λres e=>by
   rw[e]at k;cases res with
  |inl p=>exact k
  |inr kvs=>exact λH' h1 h2 h3=>hFin kvs k H' h1 h2 (by rw[hF2];exact h3)
 clear k;refine⟨_,rfl,l,xs,rfl,s2 _ _ hl htl,Y8 (J:=Iten l) xs.length (λi σ H'=>∃(kvs:List (Key×V))(v2 v3:Option V),σ=[some (.ref t),some (.ref l),v2,v3]/\Zi t H H'/\H' t=some (.ins C dx F2)/\H' d=some (.dK kvs)/\Yq false 6 (JU kvsP nT) 0 [] (xs.zip rs)=Yq false 6 (JU kvsP nT) i kvs ((xs.zip rs).drop i)/\kvs.length<=i) ⟨[],none,none,rfl,s2,t2,d2,rfl,Nat.le_refl _⟩ (λi σ H' hi p=>?_) (λσ H' p=>?_) (λi σ H' x H'' hi p yl=>?_) (λσ H' p=>?_)⟩
 ·obtain⟨kvs,v2,v3,rfl,sm,_⟩:=p;exact⟨xs,sm _ _ hl htl,hi⟩
 ·obtain⟨kvs,v2,v3,rfl,sm,_⟩:=p;exact⟨xs,sm _ _ hl htl,rfl⟩
 ·obtain⟨kvs,v2,v3,rfl,sm,tt,dd,hgo,hkl⟩:=p;obtain⟨Tt,xs',y,hT,e1,hy,rfl,rfl⟩:=yl;rw[sm _ _ hl htl]at e1;cases e1;have hi':i<rs.length:=by rw[<-hrows.1];exact hi
  have hr0:rs[i]?=some rs[i]:=gE hi';have hzl:i<(xs.zip rs).length:=by rw[bF];omega
  have hyx:xs[i]=y:=by rw[gE hi]at hy;exact ao hy
  have hdrop:(xs.zip rs).drop i=(y,rs[i])::(xs.zip rs).drop (i+1):=by rw[c8 hzl,hX,hyx]
  have hrow0:=hrows.2 i y rs[i] hy hr0;generalize rs[i]=r at hr0 hdrop hrow0;have sm3:Zi t H (upd H' Tt (.tup [.int i,y])):=λc o h hc=>by rw[Zg (Zf (sm c o h hc) hT)];exact sm c o h hc
  have t3:upd H' Tt (.tup [.int i,y]) t=some (.ins C dx F2):=by rw[Zg (Zf tt hT)];exact tt
  have d3:upd H' Tt (.tup [.int i,y]) d=some (.dK kvs):=by rw[Zg (Zf dd hT)];exact dd
  refine⟨Tt,_,rfl,SqT.of Zb,rfl,_,_,rfl,_,_,rfl,rfl,?_⟩;generalize upd H' Tt (.tup [.int i,y])=H3 at sm3 t3 d3 ⊢;refine td λD' hdd=>?_;have hrow3:Row H3 y r:=hrow0.sameB ht sm3;refine⟨_,rfl,_,rfl,_,rfl,t,C,dx,_,_,rfl,t3,Z.cl,nR,lk,"rides",6,y,r,d,kvs,rfl,by simp[Mx],hrow3,d3,λH4 sm34=>⟨_,(Mc _ _ _ _).tru,?_⟩⟩;have sm4:Zi t H H4:=sm3.trans (Zi.of sm34);have t4:=sm34 _ _ t3;have d4:=sm34 _ _ d3;have eg:decide ((("rides":Str))="groups")=false:=by decide +kernel
  rw[eg];rw[hdrop]at hgo;by_cases hb:begR false 6 kvs r=.non
  ·rw[hb];refine iteF ?_;obtain⟨ys,n,rfl,hyl,hyn⟩:=Vg hb;obtain⟨q,rfl,hq,hqx⟩:=hrow3;have hq4:=sm34 _ _ hq;have hnm:nameOf ys=n:=by unfold nameOf;rw[hyn]
   have hstep:=U7 (why:=JU kvsP nT) (i:=i) (x:=.ref q) (rs:=(xs.zip rs).drop (i+1)) hb;rw[hnm]at hstep;obtain⟨x0,x1,x2,x3,x4,x5,rfl⟩:=len6 hyl;have hx0:x0=.str n:=hyn;subst hx0;have tb4:Tab H4 C t F2:=⟨⟨dx,t4⟩,lkO⟩;refine⟨_,rfl,_,rfl,t,q,.str n,x1,x2,x3,x4,x5,F2,dP,kvsP,nT,rfl,tb4,lkP,lkT,sm34 _ _ (sm3 _ _ hkP hdPt),hq4,λx hx=>(let ⟨T,th⟩:=hqx x hx;⟨T,th.same sm34⟩),?_⟩;by_cases hw:JU kvsP nT [.str n,x1,x2,x3,x4,x5]=.non
   ·refine⟨_,_,_,rfl,.inl ⟨hw,?_⟩⟩;refine⟨_,rfl,_,rfl,t,C,dx,_,_,rfl,t4,Z.cl,nR,lk,_,rfl,q,_,0,.str n,rfl,rfl,SqT.of hq4,at0 0 rfl,d,_,rfl,DPut.k (k:=cD n) d4 (Xz (by omega)),?_⟩;refine hdd _ _ ⟨putK kvs (.inr n) (.ref q),_,_,rfl,λc o h hc=>?_,(by rw[Zg (bw hdt)];exact t4),Zb,?_,?_⟩
    ·rw[Zg (λz=>by rw[z,hd0]at h;cases h)];exact sm4 c o h hc
    ·rw[hgo,hstep,if_neg (λz=>z hw)]
    ·have:=YH kvs (cD n) (V.ref q);omega
   ·refine⟨_,_,_,rfl,.inr ⟨hw,?_⟩⟩;exact kk (.inl (i,JU kvsP nT [.str n,x1,x2,x3,x4,x5])) (by rw[hgo,hstep,if_pos hw]) H4 sm4
  ·rw[decide_eq_true hb];refine iteT ?_;refine⟨_,_,_,rfl,.inr ⟨hb,?_⟩⟩;exact kk (.inl (i,begR false 6 kvs r)) (by rw[hgo,Ms hb]) H4 sm4
 ·obtain⟨kvs,v2,v3,rfl,sm,tt,dd,hgo,hkl⟩:=p;have hd':(xs.zip rs).drop xs.length=[]:=gq.mpr (by rw[bF];omega);rw[hd',Yq]at hgo;exact kk (.inr kvs) hgo H' sm dd tt
def SI(C Cb:Addr):Sp:=λvs H Q E=>∃(t l dx dP:Addr)(xs:List V)(rs:List (Option (List V)))(fs:List (Str×V))(kvsP:List (Key×V))(nT:Int),vs=[.ref t,.ref l]/\H t=some (.ins C dx fs)/\(∀g,g∉fields->fs.lookup g=none)/\fs.length<=20 /\fs.lookup ("room_by_place":Str)=some (.ref dP)/\H dP=some (.dK kvsP)/\fs.lookup ("turns":Str)=some (.int nT)/\H l=some (.tup xs)/\xs.length<=1000/\Ye H xs rs /\match Yq false 5 (wayW kvsP) 0 [] (xs.zip rs)with
|.inl (i,why)=>∀H1,Zi t H H1->Bad Cb (.str "ways") (.int i) why H1 E
|.inr kvs=>∀H' d,Zi t H H'->H d=none->d≠t->H' d=some (.dK kvs)->H' t=some (.ins C dx (putF "way_by_name" (.ref d) (putF "ways" (.ref l) fs)))->Q .non H'
theorem Pe:FnScope ["self","ways","at","row"] ["self","ways"] (Ze T.m_Table_take_ways):=scO
theorem WO(Z:TCl K C)(he:mg "enumerate"=none)(D:DfM K C "take_ways" "Table.take_ways" T.m_Table_take_ways ["self","ways"])(CB:Can P w K mg base 3 "wrong_beginning" ["part","row","names_ahead"] JQ)(CW:Can P w K mg base 5 "wrong_way" ["table","row"] (Ei C))(CR:CanX P w K mg base 3 "refuse_row" ["part","at","why"] (YS Cb)):CanM P w K mg base (CX1 P w) 6 C "take_ways" ["self","ways"] (SI C Cb):=by
 refine D.cnX Pe λf cdv A outer s H vs Q E hr h=>?_;obtain⟨t,l,dx,dP,xs,rs,fs,kvsP,nT,rfl,ht,honly,hfs,hdP,hkP,hnT,hl,hlen,hrows,k⟩:=h;have hr3:=hr.mono (by decide:3<=5);refine⟨_,Zd (YA (pv 0) (pv 1) rfl) (Zd (YA (pv 0) JV rfl) (Zj (Yr eV rfl (Ua rfl he (Zk (pv 1) Zh) Mb) (XJ rfl (Zo (nmT 2 Pe.nd) (Zo (nmT 3 Pe.nd) Yn))) (Zd (ZF (Jc CR YV hr3 rfl (Zk Zp (Zk (pv 2) (Zk (Pp (Z3 CB hr3 rfl (Zk Zp (Zk (pv 3) (Zk (ZI (pv 0) rfl) Zh)))) (YF (Z3 CW hr rfl (Zk (pv 0) (Zk (pv 3) Zh))))) Zh))))) (Zj (Ja (J4 hr) (ZI (pv 0) rfl) (Yj Z8 (pv 3) Zc (λ_ _=>rfl)) (pv 3) rfl)))))),?_⟩;have nP:Z1 K C "ways":=Z.na _ (by simp[fields]);have nR:Z1 K C "way_by_name":=Z.na _ (by simp[fields]);have htl:l≠t:=ne_of hl ht (by intro z;cases z);have hdPt:dP≠t:=ne_of hkP ht (by intro z;cases z);have fl1:(putF "ways" (.ref l) fs).length<=21:=by have:=Yd "ways" (V.ref l) fs;omega
 refine⟨_,rfl,_,rfl,t,C,dx,_,rfl,ht,Z.cl,nP,by omega,?_⟩;have s1:Zi t H (upd H t (.ins C dx (putF "ways" (.ref l) fs))):=(Zi.refl t H).upd;have t1:upd H t (.ins C dx (putF "ways" (.ref l) fs)) t=some (.ins C dx (putF "ways" (.ref l) fs)):=Zb;have fr1:∀c,upd H t (.ins C dx (putF "ways" (.ref l) fs)) c=none->H c=none/\c≠t:=λc e=>by
  by_cases h:c=t
  ·rw[h,Zb]at e;cases e
  ·rw[Zg h]at e;exact⟨e,h⟩
 generalize upd H t (.ins C dx (putF "ways" (.ref l) fs))=H1 at s1 t1 fr1 ⊢;refine λd hd=>⟨_,rfl,t,C,dx,_,rfl,(by rw[Zg (Zf t1 hd)];exact t1),Z.cl,nR,by omega,?_⟩;obtain⟨hd0,hdt⟩:=fr1 d hd;have s2:Zi t H (upd (upd H1 d (.dK [])) t (.ins C dx (putF "way_by_name" (.ref d) (putF "ways" (.ref l) fs)))):=λc o h hc=>by rw[Zg hc,Zg (λz=>by rw[z,hd0]at h;cases h)];exact s1 c o h hc
 have t2:upd (upd H1 d (.dK [])) t (.ins C dx (putF "way_by_name" (.ref d) (putF "ways" (.ref l) fs))) t=some (.ins C dx (putF "way_by_name" (.ref d) (putF "ways" (.ref l) fs))):=Zb;have d2:upd (upd H1 d (.dK [])) t (.ins C dx (putF "way_by_name" (.ref d) (putF "ways" (.ref l) fs))) d=some (.dK []):=by rw[Zg hdt,Zb]
 have lk:(putF "way_by_name" (.ref d) (putF "ways" (.ref l) fs)).lookup ("way_by_name":Str)=some (.ref d):=by rw[Zl,if_pos rfl]
 have lkP:(putF "way_by_name" (.ref d) (putF "ways" (.ref l) fs)).lookup ("room_by_place":Str)=some (.ref dP):=by rw[Zl,if_neg (by decide +kernel),Zl,if_neg (by decide +kernel)];exact hdP
 have lkT:(putF "way_by_name" (.ref d) (putF "ways" (.ref l) fs)).lookup ("turns":Str)=some (.int nT):=by rw[Zl,if_neg (by decide +kernel),Zl,if_neg (by decide +kernel)];exact hnT
 have lkO:∀g,g∉fields->(putF "way_by_name" (.ref d) (putF "ways" (.ref l) fs)).lookup g=none:=λg hg=>by rw[Zl,if_neg (λz=>hg (by rw[z];simp[fields])),Zl,if_neg (λz=>hg (by rw[z];simp[fields]))];exact honly g hg
 have hFin:∀kvs,(∀H' d,Zi t H H'->H d=none->d≠t->H' d=some (.dK kvs)->H' t=some (.ins C dx (putF "way_by_name" (.ref d) (putF "ways" (.ref l) fs)))->Q .non H')->∀H',Zi t H H'->H' d=some (.dK kvs)->H' t=some (.ins C dx (putF "way_by_name" (.ref d) (putF "ways" (.ref l) fs)))->Q .non H':=λkvs kf H' h1 h2 h3=>kf H' d h1 hd0 hdt h2 h3;generalize hF2:putF "way_by_name" (.ref d) (putF "ways" (.ref l) fs)=F2 at s2 t2 d2 lk lkP lkT lkO ⊢;generalize upd (upd H1 d (.dK [])) t (.ins C dx F2)=H2 at s2 t2 d2 ⊢;have kk:∀res,Yq false 5 (wayW kvsP) 0 [] (xs.zip rs)=res->(match res with
 |.inl (i,why)=>∀H1,Zi t H H1->Bad Cb (.str "ways") (.int i) why H1 E
 |.inr kvs=>∀H',Zi t H H'->H' d=some (.dK kvs)->H' t=some (.ins C dx F2)->Q .non H'):=λres e=>by
   rw[e]at k;cases res with
  |inl p=>exact k
  |inr kvs=>exact λH' h1 h2 h3=>hFin kvs k H' h1 h2 (by rw[hF2];exact h3)
 clear k;refine⟨_,rfl,l,xs,rfl,s2 _ _ hl htl,Y8 (J:=Iten l) xs.length (λi σ H'=>∃(kvs:List (Key×V))(v2 v3:Option V),σ=[some (.ref t),some (.ref l),v2,v3]/\Zi t H H'/\H' t=some (.ins C dx F2)/\H' d=some (.dK kvs)/\Yq false 5 (wayW kvsP) 0 [] (xs.zip rs)=Yq false 5 (wayW kvsP) i kvs ((xs.zip rs).drop i)/\kvs.length<=i) ⟨[],none,none,rfl,s2,t2,d2,rfl,Nat.le_refl _⟩ (λi σ H' hi p=>?_) (λσ H' p=>?_) (λi σ H' x H'' hi p yl=>?_) (λσ H' p=>?_)⟩
 ·obtain⟨kvs,v2,v3,rfl,sm,_⟩:=p;exact⟨xs,sm _ _ hl htl,hi⟩
 ·obtain⟨kvs,v2,v3,rfl,sm,_⟩:=p;exact⟨xs,sm _ _ hl htl,rfl⟩
 ·obtain⟨kvs,v2,v3,rfl,sm,tt,dd,hgo,hkl⟩:=p;obtain⟨Tt,xs',y,hT,e1,hy,rfl,rfl⟩:=yl;rw[sm _ _ hl htl]at e1;cases e1;have hi':i<rs.length:=by rw[<-hrows.1];exact hi
  have hr0:rs[i]?=some rs[i]:=gE hi';have hzl:i<(xs.zip rs).length:=by rw[bF];omega
  have hyx:xs[i]=y:=by rw[gE hi]at hy;exact ao hy
  have hdrop:(xs.zip rs).drop i=(y,rs[i])::(xs.zip rs).drop (i+1):=by rw[c8 hzl,hX,hyx]
  have hrow0:=hrows.2 i y rs[i] hy hr0;generalize rs[i]=r at hr0 hdrop hrow0;have sm3:Zi t H (upd H' Tt (.tup [.int i,y])):=λc o h hc=>by rw[Zg (Zf (sm c o h hc) hT)];exact sm c o h hc
  have t3:upd H' Tt (.tup [.int i,y]) t=some (.ins C dx F2):=by rw[Zg (Zf tt hT)];exact tt
  have d3:upd H' Tt (.tup [.int i,y]) d=some (.dK kvs):=by rw[Zg (Zf dd hT)];exact dd
  refine⟨Tt,_,rfl,SqT.of Zb,rfl,_,_,rfl,_,_,rfl,rfl,?_⟩;generalize upd H' Tt (.tup [.int i,y])=H3 at sm3 t3 d3 ⊢;refine td λD' hdd=>?_;have hrow3:Row H3 y r:=hrow0.sameB ht sm3;refine⟨_,rfl,_,rfl,_,rfl,t,C,dx,_,_,rfl,t3,Z.cl,nR,lk,"ways",5,y,r,d,kvs,rfl,by simp[Mx],hrow3,d3,λH4 sm34=>⟨_,(Mc _ _ _ _).tru,?_⟩⟩;have sm4:Zi t H H4:=sm3.trans (Zi.of sm34);have t4:=sm34 _ _ t3;have d4:=sm34 _ _ d3;have eg:decide ((("ways":Str))="groups")=false:=by decide +kernel
  rw[eg];rw[hdrop]at hgo;by_cases hb:begR false 5 kvs r=.non
  ·rw[hb];refine iteF ?_;obtain⟨ys,n,rfl,hyl,hyn⟩:=Vg hb;obtain⟨q,rfl,hq,hqx⟩:=hrow3;have hq4:=sm34 _ _ hq;have hnm:nameOf ys=n:=by unfold nameOf;rw[hyn]
   have hstep:=U7 (why:=wayW kvsP) (i:=i) (x:=.ref q) (rs:=(xs.zip rs).drop (i+1)) hb;rw[hnm]at hstep;obtain⟨x0,x1,x2,x3,x4,rfl⟩:=len5 hyl;have hx0:x0=.str n:=hyn;subst hx0;have tb4:Tab H4 C t F2:=⟨⟨dx,t4⟩,lkO⟩;refine⟨_,rfl,_,rfl,t,q,.str n,x1,x2,x3,x4,F2,dP,kvsP,rfl,tb4,lkP,sm34 _ _ (sm3 _ _ hkP hdPt),hq4,λx hx=>(let ⟨T,th⟩:=hqx x hx;⟨T,th.same sm34⟩),?_⟩;by_cases hw:wayW kvsP [.str n,x1,x2,x3,x4]=.non
   ·refine⟨_,_,_,rfl,.inl ⟨hw,?_⟩⟩;refine⟨_,rfl,_,rfl,t,C,dx,_,_,rfl,t4,Z.cl,nR,lk,_,rfl,q,_,0,.str n,rfl,rfl,SqT.of hq4,at0 0 rfl,d,_,rfl,DPut.k (k:=cD n) d4 (Xz (by omega)),?_⟩;refine hdd _ _ ⟨putK kvs (.inr n) (.ref q),_,_,rfl,λc o h hc=>?_,(by rw[Zg (bw hdt)];exact t4),Zb,?_,?_⟩
    ·rw[Zg (λz=>by rw[z,hd0]at h;cases h)];exact sm4 c o h hc
    ·rw[hgo,hstep,if_neg (λz=>z hw)]
    ·have:=YH kvs (cD n) (V.ref q);omega
   ·refine⟨_,_,_,rfl,.inr ⟨hw,?_⟩⟩;exact kk (.inl (i,wayW kvsP [.str n,x1,x2,x3,x4])) (by rw[hgo,hstep,if_pos hw]) H4 sm4
  ·rw[decide_eq_true hb];refine iteT ?_;refine⟨_,_,_,rfl,.inr ⟨hb,?_⟩⟩;exact kk (.inl (i,begR false 5 kvs r)) (by rw[hgo,Ms hb]) H4 sm4
 ·obtain⟨kvs,v2,v3,rfl,sm,tt,dd,hgo,hkl⟩:=p;have hd':(xs.zip rs).drop xs.length=[]:=gq.mpr (by rw[bF];omega);rw[hd',Yq]at hgo;exact kk (.inr kvs) hgo H' sm dd tt
end
noncomputable def JE(kvs:List (Key×V))(n pp:Int)(ys:List V):V:=Xu kvs n pp (at_ ys 1) (at_ ys 2) (at_ ys 3)
noncomputable def Yu(ys:List V):Int:=match ys.getD 3 .non with
|.int i=>i
|_=>0
noncomputable def Yl(kvsP:List (Key×V))(nT:Int):Nat->Int->List (Key×V)->List (V×Option (List V))->Sum (Nat×V) (List (Key×V))
|_,_,kvs,[]=>.inr kvs
|i,pp,kvs,(x,r)::rs=>
  if begR true 4 kvs r≠.non then .inl (i,begR true 4 kvs r)else match r with
  |some ys=>if JE kvsP nT pp ys≠.non then .inl (i,JE kvsP nT pp ys)else Yl kvsP nT (i+1) (pp+Yu ys) (putK kvs (.inr (nameOf ys)) x) rs
  |none=>.inl (i,.str "form")
section
variable {kvsP:List (Key×V)}{nT pp:Int}{i:Nat}{kvs:List (Key×V)}{x:V}{rs:List (V×Option (List V))}
theorem RL{r:Option (List V)}(h:begR true 4 kvs r≠.non):Yl kvsP nT i pp kvs ((x,r)::rs)=.inl (i,begR true 4 kvs r):=by unfold Yl;rw[if_pos h]
theorem GR{ys:List V}(h:begR true 4 kvs (some ys)=.non):Yl kvsP nT i pp kvs ((x,some ys)::rs)=if JE kvsP nT pp ys≠.non then .inl (i,JE kvsP nT pp ys)else Yl kvsP nT (i+1) (pp+Yu ys) (putK kvs (.inr (nameOf ys)) x) rs:=by
 conv=>lhs;unfold Yl
 rw[if_neg (λz=>z h)]
theorem Wx{n x1 x2 x3:V}(h:JE kvsP nT pp [n,x1,x2,x3]=.non):∃i,x3=.int i:=by
 have h':Xu kvsP nT pp x1 x2 x3=.non:=h;unfold Xu at h';split at h'
 ·cases h'
 ·split at h'
  ·cases h'
  ·cases x3 with
  |int i=>exact⟨i,rfl⟩
  |_=>cases h'
end
section
variable {P:Program}{w:World}{K:af}{mg:Str->Option Value}{base:Heap}{C Cb:Addr}
def SM(C Cb:Addr):Sp:=λvs H Q E=>∃(t l dx dP:Addr)(xs:List V)(rs:List (Option (List V)))(fs:List (Str×V))(kvsP:List (Key×V))(nT:Int),vs=[.ref t,.ref l]/\H t=some (.ins C dx fs)/\(∀g,g∉fields->fs.lookup g=none)/\fs.length<=20 /\fs.lookup ("room_by_place":Str)=some (.ref dP)/\H dP=some (.dK kvsP)/\fs.lookup ("turns":Str)=some (.int nT)/\H l=some (.tup xs)/\xs.length<=1000/\Ye H xs rs /\match Yl kvsP nT 0 0 [] (xs.zip rs)with
|.inl (i,why)=>∀H1,Zi t H H1->Bad Cb (.str "groups") (.int i) why H1 E
|.inr kvs=>∀H' d,Zi t H H'->H d=none->d≠t->H' d=some (.dK kvs)->H' t=some (.ins C dx (putF "group_by_name" (.ref d) (putF "groups" (.ref l) fs)))->Q .non H'
theorem Vj:FnScope ["self","groups","people","at","row","why"] ["self","groups"] (Ze T.m_Table_take_groups):=scO
theorem WS(Z:TCl K C)(he:mg "enumerate"=none)(D:DfM K C "take_groups" "Table.take_groups" T.m_Table_take_groups ["self","groups"])(CB:Can P w K mg base 3 "wrong_beginning" ["part","row","names_ahead"] JQ)(CW:Can P w K mg base 3 "wrong_group" ["table","row","people_ahead"] (SQ C))(CR:CanX P w K mg base 3 "refuse_row" ["part","at","why"] (YS Cb)):CanM P w K mg base (CX1 P w) 4 C "take_groups" ["self","groups"] (SM C Cb):=by
 refine D.cnX Vj λf cdv A outer s H vs Q E hr h=>?_;obtain⟨t,l,dx,dP,xs,rs,fs,kvsP,nT,rfl,ht,honly,hfs,hdP,hkP,hnT,hl,hlen,hrows,k⟩:=h;refine⟨_,Zd (YA (pv 0) (pv 1) rfl) (Zd (YA (pv 0) JV rfl) (Zd (Yx (i:=2) Vj.nd rfl (bh rfl) Zc) (Zj (Yr eV rfl (Ua rfl he (Zk (pv 1) Zh) Mb) (XJ rfl (Zo (nmT 3 Vj.nd) (Zo (nmT 4 Vj.nd) Yn))) (Zd (Yx (i:=5) Vj.nd rfl (bh rfl) (Pp (Z3 CB hr rfl (Zk Zp (Zk (pv 4) (Zk (ZI (pv 0) rfl) Zh)))) (YF (Z3 CW hr rfl (Zk (pv 0) (Zk (pv 4) (Zk (pv 2) Zh))))))) (Zd (ZF (Jc CR YV hr rfl (Zk Zp (Zk (pv 3) (Zk (pv 5) Zh))))) (Zd (Ja (J4 hr) (ZI (pv 0) rfl) (Yj Z8 (pv 4) Zc (λ_ _=>rfl)) (pv 4) rfl) (Zj (Yx (i:=2) Vj.nd rfl (bh rfl) (Zw ZX (pv 2) (Yj Z8 (pv 4) Zc (λ_ _=>rfl)))))))))))),?_⟩;have nP:Z1 K C "groups":=Z.na _ (by simp[fields]);have nR:Z1 K C "group_by_name":=Z.na _ (by simp[fields]);have htl:l≠t:=ne_of hl ht (by intro z;cases z);have hdPt:dP≠t:=ne_of hkP ht (by intro z;cases z);have fl1:(putF "groups" (.ref l) fs).length<=21:=by have:=Yd "groups" (V.ref l) fs;omega
 refine⟨_,rfl,_,rfl,t,C,dx,_,rfl,ht,Z.cl,nP,by omega,?_⟩;have s1:Zi t H (upd H t (.ins C dx (putF "groups" (.ref l) fs))):=(Zi.refl t H).upd;have t1:upd H t (.ins C dx (putF "groups" (.ref l) fs)) t=some (.ins C dx (putF "groups" (.ref l) fs)):=Zb;have fr1:∀c,upd H t (.ins C dx (putF "groups" (.ref l) fs)) c=none->H c=none/\c≠t:=λc e=>by
  by_cases h:c=t
  ·rw[h,Zb]at e;cases e
  ·rw[Zg h]at e;exact⟨e,h⟩
 generalize upd H t (.ins C dx (putF "groups" (.ref l) fs))=H1 at s1 t1 fr1 ⊢;refine λd hd=>⟨_,rfl,t,C,dx,_,rfl,(by rw[Zg (Zf t1 hd)];exact t1),Z.cl,nR,by omega,?_⟩;obtain⟨hd0,hdt⟩:=fr1 d hd;have s2:Zi t H (upd (upd H1 d (.dK [])) t (.ins C dx (putF "group_by_name" (.ref d) (putF "groups" (.ref l) fs)))):=λc o h hc=>by rw[Zg hc,Zg (λz=>by rw[z,hd0]at h;cases h)];exact s1 c o h hc
 have t2:upd (upd H1 d (.dK [])) t (.ins C dx (putF "group_by_name" (.ref d) (putF "groups" (.ref l) fs))) t=some (.ins C dx (putF "group_by_name" (.ref d) (putF "groups" (.ref l) fs))):=Zb;have d2:upd (upd H1 d (.dK [])) t (.ins C dx (putF "group_by_name" (.ref d) (putF "groups" (.ref l) fs))) d=some (.dK []):=by rw[Zg hdt,Zb]
 have lk:(putF "group_by_name" (.ref d) (putF "groups" (.ref l) fs)).lookup ("group_by_name":Str)=some (.ref d):=by rw[Zl,if_pos rfl]
 have lkP:(putF "group_by_name" (.ref d) (putF "groups" (.ref l) fs)).lookup ("room_by_place":Str)=some (.ref dP):=by rw[Zl,if_neg (by decide +kernel),Zl,if_neg (by decide +kernel)];exact hdP
 have lkT:(putF "group_by_name" (.ref d) (putF "groups" (.ref l) fs)).lookup ("turns":Str)=some (.int nT):=by rw[Zl,if_neg (by decide +kernel),Zl,if_neg (by decide +kernel)];exact hnT
 have lkO:∀g,g∉fields->(putF "group_by_name" (.ref d) (putF "groups" (.ref l) fs)).lookup g=none:=λg hg=>by rw[Zl,if_neg (λz=>hg (by rw[z];simp[fields])),Zl,if_neg (λz=>hg (by rw[z];simp[fields]))];exact honly g hg
 have hFin:∀kvs,(∀H' d,Zi t H H'->H d=none->d≠t->H' d=some (.dK kvs)->H' t=some (.ins C dx (putF "group_by_name" (.ref d) (putF "groups" (.ref l) fs)))->Q .non H')->∀H',Zi t H H'->H' d=some (.dK kvs)->H' t=some (.ins C dx (putF "group_by_name" (.ref d) (putF "groups" (.ref l) fs)))->Q .non H':=λkvs kf H' h1 h2 h3=>kf H' d h1 hd0 hdt h2 h3;generalize hF2:putF "group_by_name" (.ref d) (putF "groups" (.ref l) fs)=F2 at s2 t2 d2 lk lkP lkT lkO ⊢;generalize upd (upd H1 d (.dK [])) t (.ins C dx F2)=H2 at s2 t2 d2 ⊢;have kk:∀res,Yl kvsP nT 0 0 [] (xs.zip rs)=res->(match res with
 |.inl (i,why)=>∀H1,Zi t H H1->Bad Cb (.str "groups") (.int i) why H1 E
 |.inr kvs=>∀H',Zi t H H'->H' d=some (.dK kvs)->H' t=some (.ins C dx F2)->Q .non H'):=λres e=>by
   rw[e]at k;cases res with
  |inl p=>exact k
  |inr kvs=>exact λH' h1 h2 h3=>hFin kvs k H' h1 h2 (by rw[hF2];exact h3)
 clear k;refine⟨_,rfl,l,xs,rfl,s2 _ _ hl htl,Y8 (J:=Iten l) xs.length (λi σ H'=>∃(kvs:List (Key×V))(pp:Int)(v3 v4 v5:Option V),σ=[some (.ref t),some (.ref l),some (.int pp),v3,v4,v5]/\Zi t H H'/\H' t=some (.ins C dx F2)/\H' d=some (.dK kvs)/\Yl kvsP nT 0 0 [] (xs.zip rs)=Yl kvsP nT i pp kvs ((xs.zip rs).drop i)/\kvs.length<=i) ⟨[],0,none,none,none,rfl,s2,t2,d2,rfl,Nat.le_refl _⟩ (λi σ H' hi p=>?_) (λσ H' p=>?_) (λi σ H' x H'' hi p yl=>?_) (λσ H' p=>?_)⟩
 ·obtain⟨kvs,pp,v3,v4,v5,rfl,sm,_⟩:=p;exact⟨xs,sm _ _ hl htl,hi⟩
 ·obtain⟨kvs,pp,v3,v4,v5,rfl,sm,_⟩:=p;exact⟨xs,sm _ _ hl htl,rfl⟩
 ·obtain⟨kvs,pp,v3,v4,v5,rfl,sm,tt,dd,hgo,hkl⟩:=p;obtain⟨Tt,xs',y,hT,e1,hy,rfl,rfl⟩:=yl;rw[sm _ _ hl htl]at e1;cases e1;have hi':i<rs.length:=by rw[<-hrows.1];exact hi
  have hr0:rs[i]?=some rs[i]:=gE hi';have hzl:i<(xs.zip rs).length:=by rw[bF];omega
  have hyx:xs[i]=y:=by rw[gE hi]at hy;exact ao hy
  have hdrop:(xs.zip rs).drop i=(y,rs[i])::(xs.zip rs).drop (i+1):=by rw[c8 hzl,hX,hyx]
  have hrow0:=hrows.2 i y rs[i] hy hr0;generalize rs[i]=r at hr0 hdrop hrow0;have sm3:Zi t H (upd H' Tt (.tup [.int i,y])):=λc o h hc=>by rw[Zg (Zf (sm c o h hc) hT)];exact sm c o h hc
  have t3:upd H' Tt (.tup [.int i,y]) t=some (.ins C dx F2):=by rw[Zg (Zf tt hT)];exact tt
  have d3:upd H' Tt (.tup [.int i,y]) d=some (.dK kvs):=by rw[Zg (Zf dd hT)];exact dd
  refine⟨Tt,_,rfl,SqT.of Zb,rfl,_,_,rfl,_,_,rfl,rfl,?_⟩;generalize upd H' Tt (.tup [.int i,y])=H3 at sm3 t3 d3 ⊢;refine td λD' hdd=>?_;have hrow3:Row H3 y r:=hrow0.sameB ht sm3;refine⟨_,rfl,_,rfl,t,C,dx,_,_,rfl,t3,Z.cl,nR,lk,"groups",4,y,r,d,kvs,rfl,by simp[Mx],hrow3,d3,λH4 sm34=>⟨_,(Mc _ _ _ _).tru,?_⟩⟩;have sm4:Zi t H H4:=sm3.trans (Zi.of sm34);have t4:=sm34 _ _ t3;have d4:=sm34 _ _ d3;have eg:decide ((("groups":Str))="groups")=true:=by decide +kernel
  rw[eg];rw[hdrop]at hgo;by_cases hb:begR true 4 kvs r=.non
  ·rw[hb];refine iteF ?_;obtain⟨ys,n,rfl,hyl,hyn⟩:=Vg hb;obtain⟨q,rfl,hq,hqx⟩:=hrow3;have hq4:=sm34 _ _ hq;have hnm:nameOf ys=n:=by unfold nameOf;rw[hyn]
   have hstep:=GR (kvsP:=kvsP) (nT:=nT) (pp:=pp) (i:=i) (x:=.ref q) (rs:=(xs.zip rs).drop (i+1)) hb;rw[hnm]at hstep;obtain⟨x0,x1,x2,x3,rfl⟩:=len4 hyl;have hx0:x0=.str n:=hyn;subst hx0;have tb4:Tab H4 C t F2:=⟨⟨dx,t4⟩,lkO⟩;refine⟨_,rfl,_,rfl,_,rfl,t,q,.str n,x1,x2,x3,F2,dP,kvsP,nT,pp,rfl,tb4,lkP,lkT,sm34 _ _ (sm3 _ _ hkP hdPt),hq4,λx hx=>(let ⟨T,th⟩:=hqx x hx;⟨T,th.same sm34⟩),?_⟩;refine⟨_,rfl,_,rfl,?_⟩;by_cases hw:JE kvsP nT pp [.str n,x1,x2,x3]=.non
   ·refine⟨_,_,_,rfl,.inl ⟨hw,?_⟩⟩;obtain⟨mm,rfl⟩:=Wx (n:=.str n) hw;refine⟨_,rfl,_,rfl,t,C,dx,_,_,rfl,t4,Z.cl,nR,lk,_,rfl,q,_,0,.str n,rfl,rfl,SqT.of hq4,at0 0 rfl,d,_,rfl,DPut.k (k:=cD n) d4 (Xz (by omega)),?_⟩;have hqd:q≠d:=ne_of hq4 d4 (by intro z;cases z);refine⟨_,rfl,_,rfl,q,_,3,.int mm,rfl,rfl,SqT.of (by rw[Zg hqd];exact hq4),at0 3 rfl,_,_,rfl,rfl,?_⟩;refine hdd _ _ ⟨putK kvs (.inr n) (.ref q),pp+mm,_,_,_,rfl,λc o h hc=>?_,(by rw[Zg (bw hdt)];exact t4),Zb,?_,?_⟩
    ·rw[Zg (λz=>by rw[z,hd0]at h;cases h)];exact sm4 c o h hc
    ·rw[hgo,hstep,if_neg (λz=>z hw)];rfl
    ·have:=YH kvs (cD n) (V.ref q);omega
   ·refine⟨_,_,_,rfl,.inr ⟨hw,?_⟩⟩;exact kk (.inl (i,JE kvsP nT pp [.str n,x1,x2,x3])) (by rw[hgo,hstep,if_pos hw]) H4 sm4
  ·rw[decide_eq_true hb];refine iteT ?_;refine⟨_,rfl,_,rfl,?_⟩;refine⟨_,_,_,rfl,.inr ⟨hb,?_⟩⟩;exact kk (.inl (i,begR true 4 kvs r)) (by rw[hgo,RL hb]) H4 sm4
 ·obtain⟨kvs,pp,v3,v4,v5,rfl,sm,tt,dd,hgo,hkl⟩:=p;have hd':(xs.zip rs).drop xs.length=[]:=gq.mpr (by rw[bF];omega);rw[hd',Yl]at hgo;exact kk (.inr kvs) hgo H' sm dd tt
end
noncomputable abbrev PR:=Option (List V×List (Option (List V)))
def YE(H:Hp)(v:V)(r:PR):Prop:=match r with
|none=>Part H v none
|some (xs,rs)=>Part H v (some xs)/\Ye H xs rs
theorem Ye.sameB{H H':Hp}{t C dx:Addr}{fs:List (Str×V)}(ht:H t=some (.ins C dx fs))(s:Zi t H H'){xs:List V}{rs:List (Option (List V))}(h:Ye H xs rs):Ye H' xs rs:=⟨h.1,λi x r a b=>(h.2 i x r a b).sameB ht s⟩
theorem YE.sameB{H H':Hp}{t C dx:Addr}{fs:List (Str×V)}(ht:H t=some (.ins C dx fs))(s:Zi t H H'){v:V}{r:PR}(h:YE H v r):YE H' v r:=by
 cases r with
|none=>obtain⟨T,th,a⟩:=h;exact⟨T,th.sameB ht s,a⟩
|some p=>
  obtain⟨xs,rs⟩:=p;obtain⟨⟨p,rfl,hp⟩,hr⟩:=h;refine⟨⟨p,rfl,?_⟩,hr.sameB ht s⟩;rcases hp with hp|hp
  ·exact .inl (s _ _ hp (ne_of hp ht (by intro z;cases z)))
  ·exact .inr (s _ _ hp (ne_of hp ht (by intro z;cases z)))
noncomputable def YL(n:Nat)(go:List V->List (Option (List V))->Sum (Nat×V) (List (Key×V)))(r:PR):Sum (V×V) (List (Key×V)):=match r with
|none=>.inl (.non,.str "form")
|some (xs,rs)=>if xs.length>n then .inl (.int n,.str "many")else match go xs rs with
 |.inl (i,why)=>.inl (.int i,why)
 |.inr kvs=>.inr kvs
noncomputable def goP(_:List V)(rs:List (Option (List V))):Sum (Nat×V) (List (Key×V)):=Yi 0 [] rs
noncomputable def goR(k1:List (Key×V))(n:Int)(xs:List V)(rs:List (Option (List V))):Sum (Nat×V) (List (Key×V)):=Yq false 6 (JU k1 n) 0 [] (xs.zip rs)
noncomputable def goW(k1:List (Key×V))(xs:List V)(rs:List (Option (List V))):Sum (Nat×V) (List (Key×V)):=Yq false 5 (wayW k1) 0 [] (xs.zip rs)
noncomputable def goG(k1:List (Key×V))(n:Int)(xs:List V)(rs:List (Option (List V))):Sum (Nat×V) (List (Key×V)):=Yl k1 n 0 0 [] (xs.zip rs)
noncomputable abbrev Ks:=List (Key×V)×List (Key×V)×List (Key×V)×List (Key×V)
noncomputable def named(z:Str)(r:Sum (V×V) (List (Key×V)))(k:List (Key×V)->Sum (V×V×V) Ks):Sum (V×V×V) Ks:=match r with
|.inl (a,y)=>.inl (.str z,a,y)
|.inr kvs=>k kvs
noncomputable def GK(vT:V)(r1 r2 r3 r4:PR):Sum (V×V×V) Ks:=match vT with
|.int n=>if(decide (1<=n)&&decide (n<=50))=true then named "places" (YL 14 goP r1) λk1=>named "rides" (YL 80 (goR k1 n) r2) λk2=>named "ways" (YL 40 (goW k1) r3) λk3=>named "groups" (YL 300 (goG k1 n) r4) λk4=>.inr (k1,k2,k3,k4)else .inl (.str "turns",.non,.str "number")
|_=>.inl (.str "turns",.non,.str "number")
def Z6(H:Hp)(fs:List (Str×V))(f g:Str)(r:PR)(k:List (Key×V)):Prop:=∃l d xs rs,fs.lookup f=some (.ref l)/\fs.lookup g=some (.ref d)/\r=some (xs,rs)/\H l=some (.tup xs)/\H d=some (.dK k)
structure TabOf(H:Hp)(C t:Addr)(fs:List (Str×V))(n:Int)(r1 r2 r3 r4:PR)(k:Ks):Prop where
 tab:Tab H C t fs
 turns:fs.lookup ("turns":Str)=some (.int n)
 p:Z6 H fs "places" "room_by_place" r1 k.1
 r:Z6 H fs "rides" "ride_by_name" r2 k.2.1
 w:Z6 H fs "ways" "way_by_name" r3 k.2.2.1
 g:Z6 H fs "groups" "group_by_name" r4 k.2.2.2
def G0(C Cb:Addr):Sp:=λvs H Q E=>∃(t dx:Addr)(vT:V)(T:String)(v1 v2 v3 v4:V)(r1 r2 r3 r4:PR),vs=[.ref t,vT,v1,v2,v3,v4]/\H t=some (.ins C dx [])/\Th H vT T/\YE H v1 r1/\YE H v2 r2/\YE H v3 r3/\YE H v4 r4 /\match GK vT r1 r2 r3 r4 with
|.inl (p,a,y)=>∀H1,Zi t H H1->Bad Cb p a y H1 E
|.inr k=>∀H' fs n,Zi t H H'->vT=.int n->TabOf H' C t fs n r1 r2 r3 r4 k->Q .non H'
section
variable {C Cb:Addr}
structure Mid(H Hc:Hp)(C t dx:Addr)(fs:List (Str×V))(n:Int)(m:Nat):Prop where
 sm:Zi t H Hc
 at_:Hc t=some (.ins C dx fs)
 only:∀g,g∉fields->fs.lookup g=none
 len:fs.length<=m
 turns:fs.lookup ("turns":Str)=some (.int n)
theorem Mid.same{H Hc H1:Hp}{t dx:Addr}{fs:List (Str×V)}{n:Int}{m:Nat}(M:Mid H Hc C t dx fs n m)(s:Same Hc H1):Mid H H1 C t dx fs n m:=⟨M.sm.trans (Zi.of s),s _ _ M.at_,M.only,M.len,M.turns⟩
theorem Mid.next{H Hc H1:Hp}{t dx l d:Addr}{fs:List (Str×V)}{n:Int}{m:Nat}{f g:Str}(M:Mid H Hc C t dx fs n m)(s:Zi t Hc H1)(h:H1 t=some (.ins C dx (putF g (.ref d) (putF f (.ref l) fs))))(hf:f∈fields)(hg:g∈fields)(nf:("turns":Str)≠f)(ng:("turns":Str)≠g):Mid H H1 C t dx (putF g (.ref d) (putF f (.ref l) fs)) n (m+2):=by
 refine⟨M.sm.trans s,h,λx hx=>?_,?_,?_⟩
 ·rw[Zl,if_neg (λz=>hx (by rw[z];exact hg)),Zl,if_neg (λz=>hx (by rw[z];exact hf))];exact M.only x hx
 ·have h1:=Yd f (V.ref l) fs;have h2:=Yd g (V.ref d) (putF f (V.ref l) fs);have:=M.len;omega
 ·rw[Zl,if_neg ng,Zl,if_neg nf];exact M.turns
theorem Z6.sameB{H H':Hp}{t C dx:Addr}{fs0 fs:List (Str×V)}{f g:Str}{r:PR}{k:List (Key×V)}(ht:H t=some (.ins C dx fs0))(s:Zi t H H')(h:Z6 H fs f g r k):Z6 H' fs f g r k:=by obtain⟨l,d,xs,rs,a1,a2,a3,a4,a5⟩:=h;exact⟨l,d,xs,rs,a1,a2,a3,s _ _ a4 (ne_of a4 ht (by intro z;cases z)),s _ _ a5 (ne_of a5 ht (by intro z;cases z))⟩
theorem Z6.put{H:Hp}{fs:List (Str×V)}{f g f' g':Str}{x y:V}{r:PR}{k:List (Key×V)}(h:Z6 H fs f g r k)(n1:f≠f')(n2:f≠g')(n3:g≠f')(n4:g≠g'):Z6 H (putF g' y (putF f' x fs)) f g r k:=by obtain⟨l,d,xs,rs,a1,a2,a3⟩:=h;exact⟨l,d,xs,rs,by rw[Zl,if_neg n2,Zl,if_neg n1];exact a1,by rw[Zl,if_neg n4,Zl,if_neg n3];exact a2,a3⟩
theorem Z6.new{H:Hp}{fs:List (Str×V)}{f g:Str}{l d:Addr}{xs:List V}{rs:List (Option (List V))}{k:List (Key×V)}(h1:H l=some (.tup xs))(h2:H d=some (.dK k))(n:f≠g):Z6 H (putF g (.ref d) (putF f (.ref l) fs)) f g (some (xs,rs)) k:=⟨l,d,xs,rs,by rw[Zl,if_neg n,Zl,if_pos rfl],by rw[Zl,if_pos rfl],rfl,h1,h2⟩
theorem Vl{E:XK}{z:Str}{n:Nat}(hz:(z,n)∈GP){t dx:Addr}{fs:List (Str×V)}{Hc:Hp}{v:V}{r:PR}{go:List V->List (Option (List V))->Sum (Nat×V) (List (Key×V))}{Kq:VK}(ht:Hc t=some (.ins C dx fs))(hp:YE Hc v r)(hbad:∀a y,YL n go r=.inl (a,y)->∀H1,Zi t Hc H1->Bad Cb (.str z) a y H1 E)(hgo:∀xs rs H1 l,r=some (xs,rs)->xs.length<=1000->Same Hc H1->H1 l=some (.tup xs)->Ye H1 xs rs->(∀i why,go xs rs=.inl (i,why)->∀H2,Zi t Hc H2->Bad Cb (.str z) (.int i) why H2 E)->(∀kvs,go xs rs=.inr kvs->YL n go r=.inr kvs)->Kq (.ref l) H1):Rh Cb [.str z,v] Hc Kq E:=by
 have hn:n<=300:=by simp only[GP,au,fv,aG,or_false]at hz;omega
 cases r with
|none=>exact⟨z,n,v,none,rfl,hz,hp,λH1 s=>hbad _ _ rfl H1 (Zi.of s)⟩
|some q=>
  obtain⟨xs,rs⟩:=q;obtain⟨hp,hr⟩:=hp;refine⟨z,n,v,some xs,rfl,hz,hp,?_⟩;dsimp only;by_cases hl:xs.length>n
  ·rw[if_pos hl];exact λH1 s=>hbad _ _ (by show(if xs.length>n then _ else _)=_;rw[if_pos hl]) H1 (Zi.of s)
  ·rw[if_neg hl];refine λH1 l s h=>hgo xs rs H1 l rfl (by omega) s h (hr.sameB ht (Zi.of s)) (λi why e=>?_) (λkvs e=>?_)
   ·exact hbad _ _ (by show(if xs.length>n then _ else _)=_;rw[if_neg hl,e])
   ·show(if xs.length>n then _ else _)=_;rw[if_neg hl,e]
end
section
variable {P:Program}{w:World}{K:af}{mg:Str->Option Value}{base:Heap}{C Cb:Addr}
theorem Dy:FnScope ["self","turns","places","rides","ways","groups"] ["self","turns","places","rides","ways","groups"] (Ze T.m_Table___init__):=scO
theorem R9(G:Txt K mg)(Z:TCl K C)(B:Err P w K mg base "BadTable" ["part","at","why"] Cb)(CI:Can P w K mg base 6 "is_within" ["thing","low","high"] K1.XH)(CRo:CanX P w K mg base 6 "rows_of" ["part","rows"] (Rh Cb))(CP:CanM P w K mg base (CX1 P w) 6 C "take_places" ["self","places"] (SK C Cb))(CR:CanM P w K mg base (CX1 P w) 6 C "take_rides" ["self","rides"] (SJ C Cb))(CW:CanM P w K mg base (CX1 P w) 6 C "take_ways" ["self","ways"] (SI C Cb))(CG:CanM P w K mg base (CX1 P w) 6 C "take_groups" ["self","groups"] (SM C Cb)){f:Addr}{cdv:Value}{A:aL}{outer:List Env}{s:ah}{H:Hp}{vs:List V}{Q:VK}{E:XK}(hr:Room 6 (A.deeper (dD "Table.__init__" (Ze T.m_Table___init__) s.heap.objs.size f cdv)))(h:G0 C Cb vs H Q E):∃t,PSs (cxOf (CX1 P w) P w K mg base ["self","turns","places","rides","ways","groups"] "Table.__init__" (Ze T.m_Table___init__) f cdv A outer s H E) (Zz T.m_Table___init__) t/\t {nx:=λ_ H'=>Q .non H',rt:=Q} (start ["self","turns","places","rides","ways","groups"] vs) H:=by
 obtain⟨t,dx,vT,T',v1,v2,v3,v4,r1,r2,r3,r4,rfl,ht,thT,p1,p2,p3,p4,k⟩:=h;obtain⟨t1,h1⟩:=G.turns;refine⟨_,Zd (ZZ (Yb (Z2 (Z3 CI hr rfl (Zk (pv 1) (Zk Zc (Zk (ZQ (v:=V.int 50) rfl h1 ⟨t1,rfl⟩) Zh)))))) (Zj (Jn (E:=E) B YV rfl (hr.mono (by omega)) rfl (Zk Zp (Zk Z4 (Zk Zp Zh))))) Zx) (Zd (YA (pv 0) (pv 1) rfl) (Zd (ZF (Yc CP Z.cl YV hr (pv 0) (Zk (Jc CRo YV hr rfl (Zk Zp (Zk (pv 2) Zh))) Zh))) (Zd (ZF (Yc CR Z.cl YV hr (pv 0) (Zk (Jc CRo YV hr rfl (Zk Zp (Zk (pv 3) Zh))) Zh))) (Zd (ZF (Yc CW Z.cl YV hr (pv 0) (Zk (Jc CRo YV hr rfl (Zk Zp (Zk (pv 4) Zh))) Zh))) (Zj (ZF (Yc CG Z.cl YV hr (pv 0) (Zk (Jc CRo YV hr rfl (Zk Zp (Zk (pv 5) Zh))) Zh)))))))),?_⟩;have kk:∀res,GK vT r1 r2 r3 r4=res->(match res with
 |.inl (p,a,y)=>∀H1,Zi t H H1->Bad Cb p a y H1 E
 |.inr k=>∀H' fs n,Zi t H H'->vT=.int n->TabOf H' C t fs n r1 r2 r3 r4 k->Q .non H'):=λres e=>by rw[<-e];exact k
 clear k;refine⟨_,rfl,vT,T',1,50,rfl,thT,_,rfl,?_⟩;by_cases hw:K1.Zr vT 1 50=true
 ·rw[hw];refine iteF ?_;obtain⟨n,rfl⟩:∃n,vT=.int n:=by
   cases vT with
  |int n=>exact⟨n,rfl⟩
  |_=>cases hw
  have hw':(decide (1<=n)&&decide (n<=50))=true:=hw;have ek:GK (.int n) r1 r2 r3 r4=named "places" (YL 14 goP r1) λk1=>named "rides" (YL 80 (goR k1 n) r2) λk2=>named "ways" (YL 40 (goW k1) r3) λk3=>named "groups" (YL 300 (goG k1 n) r4) λk4=>.inr (k1,k2,k3,k4):=by show(if(decide (1<=n)&&decide (n<=50))=true then _ else _)=_;rw[if_pos hw']
  rw[ek]at kk;dsimp only[Eh];refine tq λD1 hk1=>?_;refine⟨_,rfl,_,rfl,t,C,dx,_,rfl,ht,Z.cl,Z.na _ (by simp[fields]),by decide,?_⟩;have M0:Mid H (upd H t (.ins C dx (putF "turns" (.int n) []))) C t dx (putF "turns" (.int n) []) n 1:=⟨(Zi.refl t H).upd,Zb,λg hg=>by rw[Zl,if_neg (λz=>hg (by rw[z];simp[fields]))];rfl,Nat.le_refl _,by rw[Zl,if_pos rfl]⟩;generalize upd H t (.ins C dx (putF "turns" (.int n) []))=H0 at M0 ⊢;generalize putF "turns" (.int n) []=F0 at M0;refine hk1 _ _ (tq λD2 hk2=>?_);refine mthV M0.at_ (M0.only _ (by decide +kernel)) ?_;refine⟨_,rfl,?_⟩;dsimp only[tNil];refine Vl (z:="places") (n:=14) (go:=goP) (by simp[GP]) M0.at_ (p1.sameB ht M0.sm) (λa y e H1 s1=>?_) (λxs rs H1 l er hl s1 hx hrs hb hk=>?_)
  ·rw[e]at kk;exact kk _ rfl H1 (M0.sm.trans s1)
  have M1:=M0.same s1;refine⟨t,l,dx,xs,rs,F0,rfl,M1.at_,M1.only,by have:=M1.len;omega,hx,hl,hrs,?_⟩;have s01:Zi t H0 H1:=Zi.of s1;cases e1:Yi 0 [] rs with
 |inl q=>exact λH2 s2=>hb q.1 q.2 e1 H2 (s01.trans s2)
 |inr k1=>
  rw[hk k1 e1]at kk;dsimp only[named]at kk;intro H2 d s2 hd0 hdt hd2 ht2;refine hk2 _ _ (tq λD3 hk3=>?_);have A1:Z6 H2 (putF "room_by_place" (.ref d) (putF "places" (.ref l) F0)) "places" "room_by_place" r1 k1:=by rw[er];exact Z6.new (s2 _ _ hx (ne_of hx M1.at_ (by intro z;cases z))) hd2 (by decide +kernel)
  have M2:=M1.next s2 ht2 (by simp[fields]) (by simp[fields]) (by decide +kernel) (by decide +kernel);have lkP:(putF "room_by_place" (.ref d) (putF "places" (.ref l) F0)).lookup ("room_by_place":Str)=some (.ref d):=by rw[Zl,if_pos rfl]
  generalize putF "room_by_place" (.ref d) (putF "places" (.ref l) F0)=F2 at A1 M2 lkP;clear hk hb hrs hx ht2 s2 hd0 hl er e1 M1 s01 s1 M0 ek;refine mthV M2.at_ (M2.only _ (by decide +kernel)) ?_;refine⟨_,rfl,?_⟩;dsimp only[tNil];refine Vl (z:="rides") (n:=80) (go:=goR k1 n) (by simp[GP]) M2.at_ (p2.sameB ht M2.sm) (λa y e Hb sb=>?_) (λxs rs H3 l er hl s3 hx hrs hb hk=>?_)
  ·rw[e]at kk;exact kk _ rfl Hb (M2.sm.trans sb)
  have M3:=M2.same s3;refine⟨t,l,dx,d,xs,rs,F2,k1,n,rfl,M3.at_,M3.only,by have:=M3.len;omega,lkP,s3 _ _ hd2,M3.turns,hx,hl,hrs,?_⟩;have sx:Zi t H2 H3:=Zi.of s3;cases e1:Yq false 6 (JU k1 n) 0 [] (xs.zip rs)with
 |inl q=>exact λHb sb=>hb q.1 q.2 e1 Hb (sx.trans sb)
 |inr k2=>
  rw[hk k2 e1]at kk;dsimp only at kk;intro H4 d2 s4 hd0 hdm hdk ht4;refine hk3 _ _ (tq λD4 hk4=>?_);have sy:Zi t H2 H4:=sx.trans s4;have A2:Z6 H4 (putF "ride_by_name" (.ref d2) (putF "rides" (.ref l) F2)) "rides" "ride_by_name" r2 k2:=by rw[er];exact Z6.new (s4 _ _ hx (ne_of hx M3.at_ (by intro z;cases z))) hdk (by decide +kernel)
  have A1:=(A1.sameB M2.at_ sy).put (f':="rides") (g':="ride_by_name") (x:=.ref l) (y:=.ref d2) (by decide +kernel) (by decide +kernel) (by decide +kernel) (by decide +kernel);have hd4:H4 d=some (.dK k1):=sy _ _ hd2 hdt;have M4:=M3.next s4 ht4 (by simp[fields]) (by simp[fields]) (by decide +kernel) (by decide +kernel);have lkP:(putF "ride_by_name" (.ref d2) (putF "rides" (.ref l) F2)).lookup ("room_by_place":Str)=some (.ref d):=by rw[Zl,if_neg (by decide +kernel),Zl,if_neg (by decide +kernel)];exact lkP
  generalize putF "ride_by_name" (.ref d2) (putF "rides" (.ref l) F2)=F4 at A1 A2 M4 lkP;clear hk hb hrs hx ht4 s4 hd0 hl er e1 M3 sx sy s3 M2 hdk;refine mthV M4.at_ (M4.only _ (by decide +kernel)) ?_;refine⟨_,rfl,?_⟩;dsimp only[tNil];refine Vl (z:="ways") (n:=40) (go:=goW k1) (by simp[GP]) M4.at_ (p3.sameB ht M4.sm) (λa y e Hb sb=>?_) (λxs rs H5 l er hl s5 hx hrs hb hk=>?_)
  ·rw[e]at kk;exact kk _ rfl Hb (M4.sm.trans sb)
  have M5:=M4.same s5;refine⟨t,l,dx,d,xs,rs,F4,k1,n,rfl,M5.at_,M5.only,by have:=M5.len;omega,lkP,s5 _ _ hd4,M5.turns,hx,hl,hrs,?_⟩;have sx:Zi t H4 H5:=Zi.of s5;cases e1:Yq false 5 (wayW k1) 0 [] (xs.zip rs)with
 |inl q=>exact λHb sb=>hb q.1 q.2 e1 Hb (sx.trans sb)
 |inr k3=>
  rw[hk k3 e1]at kk;dsimp only at kk;intro H6 d3 s6 hd0 hdm hdk ht6;refine hk4 _ _ ?_;have sy:Zi t H4 H6:=sx.trans s6;have A3:Z6 H6 (putF "way_by_name" (.ref d3) (putF "ways" (.ref l) F4)) "ways" "way_by_name" r3 k3:=by rw[er];exact Z6.new (s6 _ _ hx (ne_of hx M5.at_ (by intro z;cases z))) hdk (by decide +kernel)
  have A1:=(A1.sameB M4.at_ sy).put (f':="ways") (g':="way_by_name") (x:=.ref l) (y:=.ref d3) (by decide +kernel) (by decide +kernel) (by decide +kernel) (by decide +kernel);have A2:=(A2.sameB M4.at_ sy).put (f':="ways") (g':="way_by_name") (x:=.ref l) (y:=.ref d3) (by decide +kernel) (by decide +kernel) (by decide +kernel) (by decide +kernel);have hd6:H6 d=some (.dK k1):=sy _ _ hd4 hdt;have M6:=M5.next s6 ht6 (by simp[fields]) (by simp[fields]) (by decide +kernel) (by decide +kernel);have lkP:(putF "way_by_name" (.ref d3) (putF "ways" (.ref l) F4)).lookup ("room_by_place":Str)=some (.ref d):=by rw[Zl,if_neg (by decide +kernel),Zl,if_neg (by decide +kernel)];exact lkP
  generalize putF "way_by_name" (.ref d3) (putF "ways" (.ref l) F4)=F6 at A1 A2 A3 M6 lkP;clear hk hb hrs hx ht6 s6 hd0 hl er e1 M5 sx sy s5 M4 hdk;refine mthV M6.at_ (M6.only _ (by decide +kernel)) ?_;refine⟨_,rfl,?_⟩;dsimp only[tNil];refine Vl (z:="groups") (n:=300) (go:=goG k1 n) (by simp[GP]) M6.at_ (p4.sameB ht M6.sm) (λa y e Hb sb=>?_) (λxs rs H7 l er hl s7 hx hrs hb hk=>?_)
  ·rw[e]at kk;exact kk _ rfl Hb (M6.sm.trans sb)
  have M7:=M6.same s7;refine⟨t,l,dx,d,xs,rs,F6,k1,n,rfl,M7.at_,M7.only,by have:=M7.len;omega,lkP,s7 _ _ hd6,M7.turns,hx,hl,hrs,?_⟩;have sx:Zi t H6 H7:=Zi.of s7;cases e1:Yl k1 n 0 0 [] (xs.zip rs)with
 |inl q=>exact λHb sb=>hb q.1 q.2 e1 Hb (sx.trans sb)
 |inr k4=>
  rw[hk k4 e1]at kk;dsimp only at kk;intro H8 d4 s8 hd0 hdm hdk ht8;have sy:Zi t H6 H8:=sx.trans s8;have A4:Z6 H8 (putF "group_by_name" (.ref d4) (putF "groups" (.ref l) F6)) "groups" "group_by_name" r4 k4:=by rw[er];exact Z6.new (s8 _ _ hx (ne_of hx M7.at_ (by intro z;cases z))) hdk (by decide +kernel)
  have A1:=(A1.sameB M6.at_ sy).put (f':="groups") (g':="group_by_name") (x:=.ref l) (y:=.ref d4) (by decide +kernel) (by decide +kernel) (by decide +kernel) (by decide +kernel);have A2:=(A2.sameB M6.at_ sy).put (f':="groups") (g':="group_by_name") (x:=.ref l) (y:=.ref d4) (by decide +kernel) (by decide +kernel) (by decide +kernel) (by decide +kernel);have A3:=(A3.sameB M6.at_ sy).put (f':="groups") (g':="group_by_name") (x:=.ref l) (y:=.ref d4) (by decide +kernel) (by decide +kernel) (by decide +kernel) (by decide +kernel);have hd8:H8 d=some (.dK k1):=sy _ _ hd6 hdt;have M8:=M7.next s8 ht8 (by simp[fields]) (by simp[fields]) (by decide +kernel) (by decide +kernel);have lkP:(putF "group_by_name" (.ref d4) (putF "groups" (.ref l) F6)).lookup ("room_by_place":Str)=some (.ref d):=by rw[Zl,if_neg (by decide +kernel),Zl,if_neg (by decide +kernel)];exact lkP
  generalize putF "group_by_name" (.ref d4) (putF "groups" (.ref l) F6)=F8 at A1 A2 A3 A4 M8 lkP;clear hk hb hrs hx ht8 s8 hd0 hl er e1 M7 sx sy s7 M6 hdk;exact kk _ rfl H8 F8 n M8.sm rfl ⟨⟨⟨dx,M8.at_⟩,M8.only⟩,M8.turns,A1,A2,A3,A4⟩
 ·have hw0:K1.Zr vT 1 50=false:=by simpa using hw
  rw[hw0];refine iteT ?_;have ek:GK vT r1 r2 r3 r4=.inl (.str "turns",.non,.str "number"):=by
   cases vT with
  |int n=>show(if(decide (1<=n)&&decide (n<=50))=true then _ else _)=_;rw[if_neg (by rw[show(decide (1<=n)&&decide (n<=50))=false from hw0];decide)]
  |_=>rfl
  exact⟨rfl,kk _ ek H (Zi.refl t H)⟩
end
end TB
namespace L2
open PySem PySem.Spec PyProof.Rows
section
variable {X:Cx}{CX:CXT}{k:Nat}{C:Addr}{ps:List Str}{sp:Sp}{E:XK}{m:Str}{pos apos:Pos}{o:Expr}{ta:TE}
theorem Xm{pl:Sem Bool}(c:CanM X.prog X.w X.K X.mg X.base CX k C m ps sp)(cl:Cls X.K C)(hx:Passes CX X E)(hr:Room k X.A)(he:PE X o ta)
  (ht:eval (.Call (.Attribute o m apos) [] [] pos) X.env=(do
   let ov <-eval o X.env
   gu apos.atName
   let (f,first) <-eS [ov] (eQ ov m pl)
   f_ pos f first (b8 pos (aA [] X.env)) (d6 pos (cU [] X.env))):=by rfl):
  PE X (.Call (.Attribute o m apos) [] [] pos) (Nl C m sp [] E ta tNil):=by
 obtain⟨f,fd,F,me,b⟩:=c
 exact KO he cl me F hr b .nil hx ht
end
end L2
namespace TB
open PySem L2 PySem.Spec PyProof.Rows
section
variable {P:Program}{w:World}{K:af}{mg:Str->Option Value}{base:Heap}{C Cb:Addr}
structure TMk(P:Program)(w:World)(K:af)(mg:Str->Option Value)(base:Heap)(C Cb:Addr):Prop where
 made:∃f fd,Mk K C f/\FnOk P w K mg base (CX1 P w) 7 f fd ["self","turns","places","rides","ways","groups"] (G0 C Cb)/\Binds K fd ["self","turns","places","rides","ways","groups"] []
 mg:mg "Table"=some (.ref C)
theorem GN{H H1:Hp}{t dx:Addr}{o o2:HO}(ht:H t=none)(hdx:H dx=none)(s:Zi t (upd (upd H dx o) t o2) H1):Same H H1:=λc u e=>by
 have h1:c≠t:=λz=>by rw[z,ht]at e;cases e
 have h2:c≠dx:=λz=>by rw[z,hdx]at e;cases e
 exact s c u (by rw[Zg h1,Zg h2];exact e) h1
end
end TB
namespace L2
open PySem PySem.Spec PyProof.Rows
section
variable {prog:Program}{w:World}{A:aL}{E:Value->ah->Prop}{s:ah}
theorem PX{M:Model}{a:Addr}{Q:Option Obj->ah->Prop}(h:Q (s.heap.get? a) s):wpAny M A (loadIfAlive a) Q E s:=λΓ p _=>by show Sem.wp M Γ (.loadIfAlive a .pure) _ _ p s;rw[Sem.wp_loadIfAlive,Sem.wp_pure];exact h
abbrev VY(h:Heap)(z TI TO T0:Addr)(f1:Bool):Prop:=h.get? z=some {cls:=.type "zip",dict:=none,data:=.fields #[bC T0,.bool f1,.bool false,.ref TI,.ref TO],slots:=#[]}
theorem Na{z TI TO T0:Addr}{f1:Bool}{Q:Bool->ah->Prop}(hz:VY s.heap z TI TO T0 f1)(hT:∃o,s.heap.get? T0=some o)(hQ:∀h',VY h' z TI TO T0 true->Heap.SameBut z s.heap h'->Q false {s with heap:=h'}):wpAny (model prog w) A (cy (.ref z)) Q E s:=by
 obtain⟨o,ho⟩:=hT;unfold cy;refine ae (bc hz rfl (x:=bC T0) rfl ?_);show wpAny _ _ (loadIfAlive ((T0:Int).toNat) >>= _) _ _ _;refine ae (PX ?_);have e:(T0:Int).toNat=T0:=Int.toNat_natCast T0;rw[e,ho];show wpAny _ _ (field (.ref z) 1 >>= _) _ _ _;refine ae (bc hz rfl (x:=.bool f1) rfl ?_);cases f1 with
|false=>show wpAny _ _ (setField (.ref z) 1 (.bool true) >>= _) _ _ _;refine ae (wpAny_setField_rec hz (by simp) λh1 hz1 hs1=>ai (hQ h1 hz1 hs1))
|true=>exact ai (hQ s.heap hz (Heap.SameBut.refl ..))
theorem Mf{z TI TO T0 i1 i2 l1 l2:Addr}{f1:Bool}{k1 k2:Nat}{xs ys:Array Value}{x y:Value}{Q:Value->ah->Prop}(D:gf z TI TO i1 i2 l1 l2)(hz:VY s.heap z TI TO T0 f1)(hT:∃o,s.heap.get? T0=some o)(hTI:gU s.heap TI (.ref i1) (.ref i2))(h1:s.heap.IsListIter i1 l1 k1)(h2:s.heap.IsListIter i2 l2 k2)(hl1:s.heap.IsList l1 xs)(hl2:s.heap.IsList l2 ys)(hx:xs[k1]?=some x)(hy:ys[k2]?=some y)(hQ:∀h',VY h' z TI TO T0 true->h'.IsListIter i1 l1 (k1+1)->h'.IsListIter i2 l2 (k2+1)->gU h' s.heap.objs.size x y->h'.objs.size=s.heap.objs.size+1 ->(∀c o,c≠z->c≠TO->c≠i1->c≠i2->s.heap.get? c=some o->h'.get? c=some o)->Q (.ref s.heap.objs.size) {s with heap:=h'}):wpAny (model prog w) A (cC.«zip.__next__» ⟨[.ref z],[]⟩) (λfin s'=>∃v,fin=.done (.ret v)/\Q v s') E s:=by
 show wpAny _ _ (field (.ref z) 2 >>= _) _ _ _;refine ae (bc hz rfl (x:=.bool false) rfl ?_);show wpAny _ _ (field (.ref z) 3 >>= _) _ _ _;refine ae (bc hz rfl (x:=.ref TI) rfl ?_);refine ae (fL hTI rfl ?_);show wpAny _ _ (cy (.ref z) >>= _) _ _ _;refine ae (Na hz hT λh₁ hz₁ hs₁=>?_);simp only[Bool.false_eq_true,if_false];refine ae ?_;simp only[List.forIn_toArray,List.forIn_cons,List.forIn_nil];refine ae (ae (aW ?_));show wpAny _ _ (bg (.ref i1) >>= _) _ _ _;refine ae (gy (h1.extBut hs₁.extBut D.i1z) (hl1.extBut hs₁.extBut D.l1z) hx λh₂ h1₂ hs₂=>ai (ai ?_));refine ae (ae (aW ?_));show wpAny _ _ (bg (.ref i2) >>= _) _ _ _;refine ae (gy ((h2.extBut hs₁.extBut D.i2z).extBut hs₂.extBut D.i12.symm) ((hl2.extBut hs₁.extBut D.l2z).extBut hs₂.extBut D.l2i1) hy λh₄ h2₄ hs₄=>ai (ai (ai ?_)));have hsz:h₄.objs.size=s.heap.objs.size:=by rw[hs₄.1,hs₂.1,hs₁.1]
 have hz₄:VY h₄ z TI TO T0 true:=hs₄.extBut _ _ D.i2z.symm (hs₂.extBut _ _ D.i1z.symm hz₁);have h1₄:h₄.IsListIter i1 l1 (k1+1):=h1₂.extBut hs₄.extBut D.i12;refine ae (wpAny_newTuple (hsz:=(zl)) ?_);refine ai ⟨_,rfl,?_⟩;show Q (.ref h₄.objs.size) _;rw[hsz];refine hQ _ (Heap.get?_push_of_some _ hz₄) (h1₄.at λo e=>Heap.get?_push_of_some _ e) (h2₄.at λo e=>Heap.get?_push_of_some _ e) ?_ ?_ λc o c1 c2 c3 c4 e=>Heap.get?_push_of_some _ (hs₄.extBut _ _ c4 (hs₂.extBut _ _ c3 (hs₁.extBut _ _ c1 e)))
 ·have this:(h₄.push {cls:=.type "tuple",data:=.seq #[x,y]}).get? h₄.objs.size=some _:=Heap.get?_push_size _ rfl;rw[hsz]at this;exact this
 ·rw[Heap.size_push,hsz]
theorem MX{z TI TO T0 i1 i2 l1 l2:Addr}{f1:Bool}{k1 k2:Nat}{xs ys:Array Value}{Q:Fin->ah->Prop}(hh:A.handled=none)(D:gf z TI TO i1 i2 l1 l2)(hz:VY s.heap z TI TO T0 f1)(hT:∃o,s.heap.get? T0=some o)(hTI:gU s.heap TI (.ref i1) (.ref i2))(h1:s.heap.IsListIter i1 l1 k1)(h2:s.heap.IsListIter i2 l2 k2)(hl1:s.heap.IsList l1 xs)(hl2:s.heap.IsList l2 ys)(hend:xs[k1]?=none\/ys[k2]?=none)(hE:∀h' e,(∀c o,c≠z->c≠TO->c≠i1->c≠i2->s.heap.get? c=some o->h'.get? c=some o)->(∃o,h'.get? e=some o/\o.cls=.type "StopIteration")->E (.ref e) {s with heap:=h'}):wpAny (model prog w) A (cC.«zip.__next__» ⟨[.ref z],[]⟩) Q E s:=by
 show wpAny _ _ (field (.ref z) 2 >>= _) _ _ _;refine ae (bc hz rfl (x:=.bool false) rfl ?_);show wpAny _ _ (field (.ref z) 3 >>= _) _ _ _;refine ae (bc hz rfl (x:=.ref TI) rfl ?_);refine ae (fL hTI rfl ?_);show wpAny _ _ (cy (.ref z) >>= _) _ _ _;refine ae (Na hz hT λh₁ hz₁ hs₁=>?_);simp only[Bool.false_eq_true,if_false];refine ae ?_;simp only[List.forIn_toArray,List.forIn_cons,List.forIn_nil];refine ae (ae (aW ?_));show wpAny _ _ (bg (.ref i1) >>= _) _ _ _;cases hx:xs[k1]? with
|none=>exact ae (wpAny_nextOf_list_end hh (h1.extBut hs₁.extBut D.i1z) (hl1.extBut hs₁.extBut D.l1z) hx λh₂ e hs₂ he=>hE h₂ e (λc o c1 _ c3 _ x=>hs₂ _ _ c3 (hs₁.extBut _ _ c1 x)) he)
|some x=>
  have hy:ys[k2]?=none:=by rcases hend with h|h;rw[hx]at h;cases h;exact h
  refine ae (gy (h1.extBut hs₁.extBut D.i1z) (hl1.extBut hs₁.extBut D.l1z) hx λh₂ h1₂ hs₂=>ai (ai ?_));refine ae (ae (aW ?_));show wpAny _ _ (bg (.ref i2) >>= _) _ _ _;exact ae (wpAny_nextOf_list_end hh ((h2.extBut hs₁.extBut D.i2z).extBut hs₂.extBut D.i12.symm) ((hl2.extBut hs₁.extBut D.l2z).extBut hs₂.extBut D.l2i1) hy λh₄ e hs₄ he=>hE h₄ e (λc o c1 c2 c3 c4 x=>hs₄ _ _ c4 (hs₂.extBut _ _ c3 (hs₁.extBut _ _ c1 x))) he)
def JL(N0:Nat)(h:Heap)(z TI TO i1 i2 l1 l2:Addr)(xs ys:Array Value)(k:Nat):Prop:=((IsZip h z TI TO .none/\∃a b,gU h TO a b)\/∃T0 f1,VY h z TI TO T0 f1/\(∃o,h.get? T0=some o)/\N0<=T0) /\gU h TI (.ref i1) (.ref i2)/\h.IsListIter i1 l1 k/\h.IsListIter i2 l2 k/\h.IsList l1 xs/\h.IsList l2 ys
theorem JL.type{N0:Nat}{z TI TO i1 i2 l1 l2:Addr}{xs ys:Array Value}{k:Nat}(st:JL N0 s.heap z TI TO i1 i2 l1 l2 xs ys k):s.TypeIs (.ref z) "zip":=by
 obtain⟨⟨hz,_⟩|⟨T0,f1,hz,_⟩,_⟩:=st
 ·exact⟨_,hz,rfl⟩
 ·exact⟨_,hz,rfl⟩
theorem PU{N0:Nat}{z TI TO i1 i2 l1 l2:Addr}(lt0:z<N0/\TO<N0/\i1<N0/\i2<N0)(hN:N0<=s.heap.objs.size){k:Nat}{xs ys:Array Value}{x y:Value}{Q:Option Value->ah->Prop}(D:gf z TI TO i1 i2 l1 l2)(st:JL N0 s.heap z TI TO i1 i2 l1 l2 xs ys k)(hx:xs[k]?=some x)(hy:ys[k]?=some y)(hQ:∀h',JL N0 h' z TI TO i1 i2 l1 l2 xs ys (k+1)->gU h' s.heap.objs.size x y->(∀c o,c≠z->c≠TO->c≠i1->c≠i2->s.heap.get? c=some o->h'.get? c=some o)->Q (some (.ref s.heap.objs.size)) {s with heap:=h'}):wpAny (model prog w) A (fq (.ref z)) Q E s:=by
 have hT:s.TypeIs (.ref z) "zip":=st.type;obtain⟨ha,hTI,h1,h2,hl1,hl2⟩:=st;have keep:∀h',(∀c o,c≠z->c≠TO->c≠i1->c≠i2->s.heap.get? c=some o->h'.get? c=some o)->gU h' TI (.ref i1) (.ref i2)/\h'.IsList l1 xs/\h'.IsList l2 ys:=λh' hk=>⟨hk _ _ D.TIz D.TITO D.TIi1 D.TIi2 hTI,hl1.at λo e=>hk _ o D.l1z D.l1TO D.l1i1 D.l1i2 e,hl2.at λo e=>hk _ o D.l2z D.l2TO D.l2i1 D.l2i2 e⟩;have lt:∀{c o},s.heap.get? c=some o->s.heap.objs.size≠c:=λe=>Nat.ne_of_gt (Heap.lt_size e);have n1:s.heap.objs.size≠i1:=by obtain⟨_,e,_⟩:=h1;exact lt e
 have n2:s.heap.objs.size≠i2:=by obtain⟨_,e,_⟩:=h2;exact lt e
 unfold fq;refine ae (dN (br (name:=Str.ofString "__next__") hT F.slot_zip_next (bB F.slot_zip_next hT F.entry_zip_next ?_ (F.args_zip_next_1 _))));rcases ha with⟨hz,a,b,hTO⟩|⟨T0,f1,hz,⟨o0,ho0⟩,t0⟩
 ·refine zip_next_item D hz hTI hTO h1 h2 hl1 hl2 hx hy λh' a1 a2 a3 a4 a5 a6 a7=>ai ?_;obtain⟨q1,q2,q3⟩:=keep h' a7;exact hQ h' ⟨.inr ⟨_,false,a1,⟨_,a5⟩,hN⟩,q1,a3,a4,q2,q3⟩ a5 a7
 ·refine Mf D hz ⟨o0,ho0⟩ hTI h1 h2 hl1 hl2 hx hy λh' a1 a3 a4 a5 a6 a7=>ai ?_;obtain⟨q1,q2,q3⟩:=keep h' a7;have g:∀c:Addr,c<N0->T0≠c:=λc hc=>Nat.ne_of_gt (Nat.lt_of_lt_of_le hc t0);exact hQ h' ⟨.inr ⟨T0,true,a1,⟨_,a7 _ _ (g z lt0.1) (g TO lt0.2.1) (g i1 lt0.2.2.1) (g i2 lt0.2.2.2) ho0⟩,t0⟩,q1,a3,a4,q2,q3⟩ a5 a7
theorem Q4{N0:Nat}{z TI TO i1 i2 l1 l2:Addr}{k:Nat}{xs ys:Array Value}{Q:Option Value->ah->Prop}(hh:A.handled=none)(D:gf z TI TO i1 i2 l1 l2)(st:JL N0 s.heap z TI TO i1 i2 l1 l2 xs ys k)(hend:xs[k]?=none\/ys[k]?=none)(hQ:∀h',(∀c o,c≠z->c≠TO->c≠i1->c≠i2->s.heap.get? c=some o->h'.get? c=some o)->Q none {s with heap:=h'}):wpAny (model prog w) A (fq (.ref z)) Q E s:=by
 have hT:s.TypeIs (.ref z) "zip":=st.type;obtain⟨ha,hTI,h1,h2,hl1,hl2⟩:=st;unfold fq;have fin:∀h' e,(∀c o,c≠z->c≠TO->c≠i1->c≠i2->s.heap.get? c=some o->h'.get? c=some o)->(∃o,h'.get? e=some o/\o.cls=.type "StopIteration")->wpAny (model prog w) A (isInstance (.ref e) (.type "StopIteration") >>= λok=>if ok=true then pure none else throw (.ref e)) Q E {s with heap:=h'}:=by rintro h' e hk ⟨o,ho,hc⟩;refine ae (wpAny_isInstance (T:="StopIteration") (b:=true) ⟨o,ho,hc⟩ isSubtype_stop ?_);exact ai (hQ _ hk)
 rcases ha with⟨hz,a,b,hTO⟩|⟨T0,f1,hz,hT0,t0⟩
 ·refine ae (dN (br (name:=Str.ofString "__next__") hT F.slot_zip_next (bB F.slot_zip_next hT F.entry_zip_next (zip_next_end hh D hz hTI hTO h1 h2 hl1 hl2 hend λh' e hk he=>fin h' e hk he) (F.args_zip_next_1 _))))
 ·refine ae (dN (br (name:=Str.ofString "__next__") hT F.slot_zip_next (bB F.slot_zip_next hT F.entry_zip_next (MX hh D hz hT0 hTI h1 h2 hl1 hl2 hend λh' e hk he=>fin h' e hk he) (F.args_zip_next_1 _))))
end
theorem Q3:ig (.type "zip") "__len__"=pure none:=by rw[typeLookup_type,builtinLookup_eq_fast];kernel_rfl
theorem PN:ig (.type "zip") "__length_hint__"=pure none:=by rw[typeLookup_type,builtinLookup_eq_fast];kernel_rfl
theorem JL.keep{N0:Nat}{h h':Heap}{z TI TO i1 i2 l1 l2:Addr}{xs ys:Array Value}{k:Nat}{S:Addr}(st:JL N0 h z TI TO i1 i2 l1 l2 xs ys k)(hS:∀b o,b≠S->h.get? b=some o->h'.get? b=some o)(n:z≠S/\TI≠S/\TO≠S/\i1≠S/\i2≠S/\l1≠S/\l2≠S)(nT:S<N0):JL N0 h' z TI TO i1 i2 l1 l2 xs ys k:=by
 obtain⟨ha,hTI,h1,h2,hl1,hl2⟩:=st;obtain⟨n1,n2,n3,n4,n5,n6,n7⟩:=n;refine⟨?_,hS _ _ n2 hTI,h1.at λo e=>hS _ o n4 e,h2.at λo e=>hS _ o n5 e,hl1.at λo e=>hS _ o n6 e,hl2.at λo e=>hS _ o n7 e⟩;rcases ha with⟨hz,a,b,hTO⟩|⟨T0,f1,hz,⟨o0,ho0⟩,t⟩
 ·exact .inl ⟨hS _ _ n1 hz,a,b,hS _ _ n3 hTO⟩
 ·exact .inr ⟨T0,f1,hS _ _ n1 hz,⟨o0,hS _ _ (Nat.ne_of_gt (Nat.lt_of_lt_of_le nT t)) ho0⟩,t⟩
section
variable {prog:Program}{w:World}{A:aL}{E:Value->ah->Prop}{R:Result->ah->Prop}
def Pairs(h:Heap)(N0:Nat)(xs ys:Array Value)(Ts:List Addr):Prop:=Ts.Nodup/\(∀T∈Ts,N0<=T/\T<h.objs.size)/\∀(j:Nat)T,Ts[j]?=some T->∃x y,xs[j]?=some x/\ys[j]?=some y/\gU h T x y
theorem RO{z TI TO i1 i2 l1 l2 S:Addr}{xs ys:Array Value}{N0:Nat}(hh:A.handled=none)(D:gf z TI TO i1 i2 l1 l2)(nS:z≠S/\TI≠S/\TO≠S/\i1≠S/\i2≠S/\l1≠S/\l2≠S)(res:Value)(lt:z<N0/\TO<N0/\i1<N0/\i2<N0/\S<N0)(hsz:min xs.size ys.size<=sizeLine):∀(k i:Nat)(s:ah)(Ts:List Addr)(c:Nat),min xs.size ys.size-i=k->i<=min xs.size ys.size->Ts.length=i->N0<=s.heap.objs.size->JL N0 s.heap z TI TO i1 i2 l1 l2 xs ys i ->s.heap.get? S=some {cls:=.type "list",dict:=none,data:=.seq (Ts.map Value.ref).toArray c,slots:=#[]}->Pairs s.heap N0 xs ys Ts ->(∀h' Ts' c',(∀b o,b≠S->b≠z->b≠TO->b≠i1->b≠i2->s.heap.get? b=some o->h'.get? b=some o)->h'.get? S=some {cls:=.type "list",dict:=none,data:=.seq (Ts'.map Value.ref).toArray c',slots:=#[]}->Ts'.length=min xs.size ys.size->Pairs h' N0 xs ys Ts'->R (.ok (.ret res)) {s with heap:=h'}) ->fS (model prog w) A (.builtin "list.extend.loop" ⟨[.ref S,.ref z,res],[]⟩) R s:=by
 intro k;induction k with
|zero=>
  intro i s Ts c hk hi hl hN st hS hp hR;have hin:i=min xs.size ys.size:=by omega
  refine codeAny_builtin F.entry_extend_loop ?_;rw[Around.under_plainId F.plain_extend_loop _];show wpAny _ A.in1 (fq (.ref z) >>= _) _ _ s;have hend:xs[i]?=none\/ys[i]?=none:=by
   rcases Nat.le_total xs.size ys.size with h|h
   ·exact .inl (by rw[hin,Nat.min_eq_left h];exact Array.getElem?_eq_none (Nat.le_refl _))
   ·exact .inr (by rw[hin,Nat.min_eq_right h];exact Array.getElem?_eq_none (Nat.le_refl _))
  refine ae (Q4 hh D st hend λh' hk'=>?_);obtain⟨n1,n2,n3,n4,n5,n6,n7⟩:=nS;refine ai (hR h' Ts c (λb o _ b1 b2 b3 b4 e=>hk' b o b1 b2 b3 b4 e) (hk' S _ n1.symm n3.symm n4.symm n5.symm hS) (by omega) ?_);obtain⟨p1,p2,p3⟩:=hp;have kt:∀T∈Ts,∀o,s.heap.get? T=some o->h'.get? T=some o:=λT hT' o e=>by have g:∀c:Addr,c<N0->T≠c:=λc hc=>Nat.ne_of_gt (Nat.lt_of_lt_of_le hc (p2 T hT').1);exact hk' T o (g z lt.1) (g TO lt.2.1) (g i1 lt.2.2.1) (g i2 lt.2.2.2.1) e
  refine⟨p1,λT hT'=>⟨(p2 T hT').1,?_⟩,λj T hj=>?_⟩
  ·obtain⟨j,hj⟩:=bj.mp hT';obtain⟨x,y,_,_,e⟩:=p3 j T hj;exact Heap.lt_size (kt T hT' _ e)
  ·obtain⟨x,y,q1,q2,e⟩:=p3 j T hj;exact⟨x,y,q1,q2,kt T (aQ hj) _ e⟩
|succ k ih=>
  intro i s Ts c hk hi hl hN st hS hp hR;have hlt:i<min xs.size ys.size:=by omega
  have hix:i<xs.size:=Nat.lt_of_lt_of_le hlt (Nat.min_le_left ..);have hiy:i<ys.size:=Nat.lt_of_lt_of_le hlt (Nat.min_le_right ..);refine codeAny_builtin F.entry_extend_loop ?_;rw[Around.under_plainId F.plain_extend_loop _];show wpAny _ A.in1 (fq (.ref z) >>= _) _ _ s;refine ae (PU ⟨lt.1,lt.2.1,lt.2.2.1,lt.2.2.2.1⟩ hN D st (bI hix) (bI hiy) λh' st' hpr hk'=>?_);obtain⟨n1,n2,n3,n4,n5,n6,n7⟩:=id nS;have hS':=hk' S _ n1.symm n3.symm n4.symm n5.symm hS;show wpAny _ A.in1 (updateSeq S (·.push (.ref s.heap.objs.size)) >>= _) _ _ _;refine ae ?_;have hsS:S<s.heap.objs.size:=Heap.lt_size hS;obtain⟨p1,p2,p3⟩:=hp;have oth:∀b o,b≠S->h'.get? b=some o->(h'.update S (Obj.mapSeq (·.push (.ref s.heap.objs.size)))).get? b=some o:=λb o hb e=>(Heap.get?_update_other _ _ (bw hb)).trans e;have eT:(Ts.map Value.ref).toArray.push (Value.ref s.heap.objs.size)=((Ts++[s.heap.objs.size]).map Value.ref).toArray:=by simp
  obtain⟨c2,hS2⟩:∃c2,(h'.update S (Obj.mapSeq (·.push (.ref s.heap.objs.size)))).get? S=some {cls:=.type "list",dict:=none,data:=.seq ((Ts++[s.heap.objs.size]).map Value.ref).toArray c2,slots:=#[]}:=⟨_,(Heap.get?_update_self _ hS' rfl).trans (by rw[<-eT];rfl)⟩;refine gD hS' rfl (ai ⟨plainId_quiet F.plain_extend_loop _,ih (i+1) _ (Ts++[s.heap.objs.size]) c2 (by omega) hlt (by simp[hl]) ?_ (st'.keep oth nS lt.2.2.2.2) hS2 ?_ λh'' Ts' c' q1 q2 q3 q4=>hR h'' Ts' c' (λb o b0 b1 b2 b3 b4 e=>q1 b o b0 b1 b2 b3 b4 (oth b o b0 (hk' b o b1 b2 b3 b4 e))) q2 q3 q4⟩) (by simp only[ar,bu];omega) (by simp only[Array.size_push,ar,bu];omega)
  ·have:=Heap.lt_size (oth _ _ (Nat.ne_of_gt hsS) hpr);exact Nat.le_of_lt (Nat.lt_of_le_of_lt hN this)
  ·have kt:∀T∈Ts,∀o,s.heap.get? T=some o->(h'.update S (Obj.mapSeq (·.push (.ref s.heap.objs.size)))).get? T=some o:=λT hT' o e=>by have g:∀c:Addr,c<N0->T≠c:=λc hc=>Nat.ne_of_gt (Nat.lt_of_lt_of_le hc (p2 T hT').1);exact oth T o (g S lt.2.2.2.2) (hk' T o (g z lt.1) (g TO lt.2.1) (g i1 lt.2.2.1) (g i2 lt.2.2.2.1) e)
   have new:=oth _ _ (Nat.ne_of_gt hsS) hpr;refine⟨?_,λT hT'=>?_,λj T hj=>?_⟩
   ·rw[g8];refine⟨p1,by simp,λa ha b hb=>?_⟩;rw[aU]at hb;subst hb;exact Nat.ne_of_lt (p2 a ha).2
   ·rcases aN.mp hT' with hT'|hT'
    ·obtain⟨j,hj⟩:=bj.mp hT';obtain⟨x,y,_,_,e⟩:=p3 j T hj;exact⟨(p2 T hT').1,Heap.lt_size (kt T hT' _ e)⟩
    ·rw[aU]at hT';subst hT';exact⟨hN,Heap.lt_size new⟩
   ·rcases Nat.lt_or_ge j Ts.length with hjl|hjl
    ·rw[cZ hjl]at hj;obtain⟨x,y,q1,q2,e⟩:=p3 j T hj;exact⟨x,y,q1,q2,kt T (aQ hj) _ e⟩
    ·rw[fo hjl]at hj;have hj0:j-Ts.length=0:=by
      rcases Nat.eq_zero_or_pos (j-Ts.length)with h|h
      ·exact h
      ·rw[dI (by simp;omega)]at hj;cases hj
     rw[hj0]at hj;have e:s.heap.objs.size=T:=by simpa using hj
     subst e;have hji:j=i:=by omega
     subst hji;exact⟨_,_,bI hix,bI hiy,new⟩
end
section
variable {prog:Program}{w:World}{A:aL}{E:Value->ah->Prop}{s:ah}
theorem Pairs.nil{h:Heap}{N0:Nat}{xs ys:Array Value}:Pairs h N0 xs ys []:=⟨fh,λT hT=>(by cases hT),λj T hj=>by simp at hj⟩
theorem JL.iter{N0:Nat}{z TI TO i1 i2 l1 l2:Addr}{xs ys:Array Value}{k:Nat}{Q:Value->ah->Prop}(st:JL N0 s.heap z TI TO i1 i2 l1 l2 xs ys k)(h:Q (.ref z) s):wpAny (model prog w) A (pyIter (.ref z)) Q E s:=by have hT:s.TypeIs (.ref z) "zip":=st.type;refine wpAny_pyIter_slot hT F.slot_zip_iter (bB F.slot_zip_iter hT F.entry_zip_iter ?_ (F.args_zip_iter_1 _));show wpAny _ _ (ret (.ref z)) _ _ s;exact ai ⟨_,rfl,"zip",_,hT,F.slot_zip_next.lookup,h⟩
theorem GY{R:Result->ah->Prop}{z TI TO i1 i2 l1 l2 S:Addr}{xs ys:Array Value}{N0:Nat}(hh:A.handled=none)(D:gf z TI TO i1 i2 l1 l2)(nS:z≠S/\TI≠S/\TO≠S/\i1≠S/\i2≠S/\l1≠S/\l2≠S)(res:Value)(c₀:Nat)(lt:z<N0/\TO<N0/\i1<N0/\i2<N0/\S<N0)(hN:N0<=s.heap.objs.size)(hsz:min xs.size ys.size<=sizeLine)(st:JL N0 s.heap z TI TO i1 i2 l1 l2 xs ys 0)(hS:s.heap.get? S=some {cls:=.type "list",data:=.seq #[] c₀})(hR:∀h' Ts' c',(∀b o,b≠S->b≠z->b≠TO->b≠i1->b≠i2->s.heap.get? b=some o->h'.get? b=some o)->h'.get? S=some {cls:=.type "list",dict:=none,data:=.seq (Ts'.map Value.ref).toArray c',slots:=#[]}->Ts'.length=min xs.size ys.size->Pairs h' N0 xs ys Ts'->R (.ok (.ret res)) {s with heap:=h'}):wpAny (model prog w) A.in1 (dw (.ref S) (.ref z) res) (λfin s'=>match fin with|.done f=>R (.ok f) s'|.again c'=>c'.quiet=true/\fS (model prog w) A c' R s') (λe s'=>R (.error e) s') s:=by
 obtain⟨n1,n2,n3,n4,n5,n6,n7⟩:=id nS;unfold dw;refine ae (wpAny_typeOf st.type ?_);have h1:g9 (.ref S) (.ref z)=false:=by simp[g9,n1.symm]
 have h2:(Value.type "zip"==Value.type "list")=false:=by decide
 have h3:(Value.type "zip"==Value.type "tuple")=false:=by decide
 simp only[h1,h2,h3,Bool.or_false,Bool.false_eq_true,if_false];refine ae (st.iter ?_);refine ae (aW ?_);unfold Builtin.List.listLengthHint;refine ae (gF st.type Q3 ?_);show wpAny _ A.in1 (specialOf (Value.ref z) (Str.ofString "__length_hint__") >>= _) _ _ _;refine ae (gF st.type PN ?_);refine ai ?_;show wpAny _ A.in1 (rule "list.extend.makes-room" >>= λ_=>Builtin.List.listTouch (.ref S) >>= λ_=>
  again (.builtin "list.extend.loop" ⟨[.ref S,.ref z,res],[]⟩)) _ _ _;refine ae (d8 ?_);refine ae ?_;show wpAny _ A.in1 (updateSeq S (·.push .none) >>= λ_=>updateSeq S (·.pop)) _ _ _;refine ae (gD hS rfl ?_);have hS₂:=Heap.get?_update_self (Obj.mapSeq (·.push Value.none)) hS rfl;refine gD (hz:=by seq_fits) hS₂ rfl ?_;have hS₃:=Heap.get?_update_self (Obj.mapSeq (·.pop)) hS₂ rfl;have oth:∀b o,b≠S->s.heap.get? b=some o->((s.heap.update S (Obj.mapSeq (·.push Value.none))).update S (Obj.mapSeq (·.pop))).get? b=some o:=λb o hb e=>(Heap.get?_update_other _ _ (bw hb)).trans ((Heap.get?_update_other _ _ (bw hb)).trans e);have hsz2:((s.heap.update S (Obj.mapSeq (·.push Value.none))).update S (Obj.mapSeq (·.pop))).objs.size=s.heap.objs.size:=by
  rw[(Heap.SameBut.update ..).1,(Heap.SameBut.update ..).1]
 refine ai ⟨plainId_quiet F.plain_extend_loop _,RO hh D nS res lt hsz (min xs.size ys.size) 0 _ [] _ (by omega) (Nat.zero_le _) rfl (by rw[hsz2];exact hN) (st.keep oth nS lt.2.2.2.2) hS₃ Pairs.nil λh' Ts' c' q1 q2 q3 q4=>?_⟩;exact hR h' Ts' c' (λb o b0 b1 b2 b3 b4 e=>q1 b o b0 b1 b2 b3 b4 (oth b o b0 e)) q2 q3 q4
theorem GD{Q:Value->ah->Prop}{z TI TO i1 i2 l1 l2:Addr}{xs ys:Array Value}(hh:A.handled=none)(D:gf z TI TO i1 i2 l1 l2)(lt:z<s.heap.objs.size/\TI<s.heap.objs.size/\TO<s.heap.objs.size/\i1<s.heap.objs.size/\i2<s.heap.objs.size/\l1<s.heap.objs.size/\l2<s.heap.objs.size)
  (hsz:min xs.size ys.size<=sizeLine) (hz:IsZip s.heap z TI TO .none) (hTI:gU s.heap TI (.ref i1) (.ref i2)) (hTO:∃a b,gU s.heap TO a b) (h1:s.heap.IsListIter i1 l1 0) (h2:s.heap.IsListIter i2 l2 0) (hl1:s.heap.IsList l1 xs) (hl2:s.heap.IsList l2 ys)
  (hQ:∀h' Ts' c',(∀b o,b≠z->b≠TO->b≠i1->b≠i2->s.heap.get? b=some o->h'.get? b=some o)->h'.get? s.heap.objs.size=some {cls:=.type "list",dict:=none,data:=.seq (Ts'.map Value.ref).toArray c',slots:=#[]}->Ts'.length=min xs.size ys.size->Pairs h' (s.heap.objs.size+1) xs ys Ts'->Q (.ref s.heap.objs.size) {s with heap:=h'}):
  wpAny (model prog w) A (call (.type "list") [.ref z]) Q E s:=by
 have ne:∀{b:Addr},b<s.heap.objs.size->b≠s.heap.objs.size:=λh=>Nat.ne_of_lt h
 refine callType_codes (Q₁:=λobj s₁=>obj=.ref s.heap.objs.size/\s₁={s with heap:=s.heap.push {cls:=.type "list",data:=.seq #[]}}) F.called_list (F.typeCall_list_1 _) F.entry_list_init
  (code_list_new _ ⟨rfl,rfl⟩) λobj s₁ h₁=>?_
 obtain⟨rfl,rfl⟩:=h₁
 have hS:(s.heap.push {cls:=.type "list",data:=.seq #[]}).get? s.heap.objs.size=some {cls:=.type "list",data:=.seq #[]}:=Heap.get?_push_size _ rfl
 refine⟨⟨_,hS,rfl⟩,F.args_list_init_2 _ _,?_⟩
 show wpAny _ A.in1.in1 (do let old <-ie (.ref s.heap.objs.size);Builtin.List.listUpdate (.ref s.heap.objs.size) (λ_=>#[]);letGo old.toList.reverse;dw (.ref s.heap.objs.size) (.ref z) .none) _ _ _
 refine ae ?_
 unfold ie
 refine ae (fL hS rfl (ai ?_))
 show wpAny _ A.in1.in1 (updateSeq s.heap.objs.size (λ_=>#[]) >>= λ_=>letGo (#[]:Array Value).toList.reverse >>= λ_=>dw (.ref s.heap.objs.size) (.ref z) .none) _ _ _
 refine ae (gD hS rfl ?_)
 have hS₂:=Heap.get?_update_self (Obj.mapSeq (λ_=>(#[]:Array Value))) hS rfl
 have oth:∀b o,b≠s.heap.objs.size->s.heap.get? b=some o->((s.heap.push {cls:=.type "list",data:=.seq #[]}).update s.heap.objs.size (Obj.mapSeq (λ_=>(#[]:Array Value)))).get? b=some o:=
  λb o hb e=>(Heap.get?_update_other _ _ (bw hb)).trans (Heap.get?_push_of_some _ e)
 refine ae (wpAny_letGo ?_)
 have hsz2:((s.heap.push {cls:=.type "list",data:=.seq #[]}).update s.heap.objs.size (Obj.mapSeq (λ_=>(#[]:Array Value)))).objs.size=s.heap.objs.size+1:=by rw[(Heap.SameBut.update ..).1,Heap.size_push]
 obtain⟨t1,t2,t3,t4,t5,t6,t7⟩:=lt
 obtain⟨a,b,hTO⟩:=hTO
 refine GY (N0:=s.heap.objs.size+1) (A:=A.in1) hh D ⟨ne t1,ne t2,ne t3,ne t4,ne t5,ne t6,ne t7⟩ .none _ ⟨Nat.lt_succ_of_lt t1,Nat.lt_succ_of_lt t3,Nat.lt_succ_of_lt t4,Nat.lt_succ_of_lt t5,Nat.lt_succ_self _⟩ (by rw[hsz2];exact Nat.le_refl _) hsz
  ⟨.inl ⟨oth _ _ (ne t1) hz,a,b,oth _ _ (ne t3) hTO⟩,oth _ _ (ne t2) hTI,h1.at λo e=>oth _ o (ne t4) e,h2.at λo e=>oth _ o (ne t5) e,hl1.at λo e=>oth _ o (ne t6) e,hl2.at λo e=>oth _ o (ne t7) e⟩ hS₂ λh' Ts' c' q1 q2 q3 q4=>?_
 exact⟨rfl,hQ h' Ts' c' (λb o b1 b2 b3 b4 e=>q1 b o (Nat.ne_of_lt (Heap.lt_size e)) b1 b2 b3 b4 (oth b o (Nat.ne_of_lt (Heap.lt_size e)) e)) q2 q3 q4⟩
end
noncomputable def Ug(H news:Hp):Hp:=λa=>match news a with|some o=>some o|none=>H a
theorem Vn{H news:Hp}{a:Addr}(h:news a=none):Ug H news a=H a:=by unfold Ug;rw[h]
theorem Gg{H news:Hp}{a:Addr}{o:HO}(h:news a=some o):Ug H news a=some o:=by unfold Ug;rw[h]
section
variable {X:Cx}{pins:List (Addr×Obj)}{σ:List (Option V)}{H:Hp}{s:ah}{h':Heap}
theorem Inv.more{news:Hp}{t':Nat}(I:Inv X pins σ H s)(k:∀b u,s.heap.get? b=some u->h'.get? b=some u)(hp:∀a o,news a=some o->s.heap.objs.size<=a)(new:∀a o,news a=some o->ZE X.prog X.w (Ug H news) h' a o):Inv X pins σ (Ug H news) {s with heap:=h',toks:=t'}:=by
 have old:∀b,b<s.heap.objs.size->news b=none:=λb hb=>by
  cases e:news b with
 |none=>rfl
 |some o=>exact absurd (Nat.lt_of_lt_of_le hb (hp b o e)) (Nat.lt_irrefl _)
 have oldH:∀b u,H b=some u->Ug H news b=some u:=λb u e=>by rw[Vn (old b (I.hok.lt e))];exact e
 refine I.un ⟨λb u q _ _ _=>k b u q,λb u q _ _ _=>⟨u.slots,k b u q⟩,λb u q n _=>by rw[Vn (old b (Heap.lt_size q))];exact n,λb u q _=>⟨u,k b u q⟩,λb xs q=>oldH _ _ q,λb o u q=>oldH _ _ q,λb ps q=>⟨#[],by rw[oldH _ _ q];simp⟩⟩ λb u q=>?_;cases e:news b with
|some o=>rw[Gg e]at q;cases q;exact new b _ e
|none=>rw[Vn e]at q;exact(I.hok b u q).stay (λc v _ q=>k c v q) (λc q=>oldH _ _ q) λc xs q=>oldH _ _ q
end
def Dh(H H':Hp)(l:Addr)(rows:List (List V)):Prop:=Same H H'/\H l=none/\∃as:List Addr,H' l=some (.lst (as.map V.ref))/\as.length=rows.length/\(∀a∈as,H a=none)/\∀(i:Nat)a r,as[i]?=some a->rows[i]?=some r->H' a=some (.tup r)
section
variable {X:Cx}{a b:Expr}{ta:TA}{p p2 pos pos2:Pos}
def Hv(ta:TA):TE:=λσ H Q=>ta σ H λvs H1=>∃(l1 l2:Addr)(xs ys:List V),vs=[.ref l1,.ref l2]/\H1 l1=some (.lst xs)/\H1 l2=some (.lst ys)/\∀H' l,Dh H1 H' l ((xs.zip ys).map λq=>[q.1,q.2])->Q (.ref l) H'
theorem Sz{xs:List V}{us:List Value}(r:Vals xs us){j:Nat}{u:Value}(h:us[j]?=some u):∃x,xs[j]?=some x/\RelV x u:=by
 have hj:j<us.length:=(aw.mp h).1;have hj':j<xs.length:=by rw[r.length];exact hj
 obtain⟨u',e,rr⟩:=r.get (gE hj');rw[h]at e;cases e;exact⟨_,gE hj',rr⟩
theorem Rv(hc:X.calm=true)(hg:Gl X "list")(hm:X.mg "list"=none)(hg2:Gl X "zip")(hm2:X.mg "zip"=none)(ha:PA X [a,b] ta)(hs:aA [a,b] X.env=[(false,eval a X.env),(false,eval b X.env)]:=by rfl)(hs2:aA [b] X.env=[(false,eval b X.env)]:=by rfl)(hs3:aA [.Call (.Name "zip" p2) [a,b] [] pos2] X.env=[(false,eval (.Call (.Name "zip" p2) [a,b] [] pos2) X.env)]:=by rfl):PE X (.Call (.Name "list" p) [.Call (.Name "zip" p2) [a,b] [] pos2] [] pos) (Hv ta):=by
 intro pins s σ H Q I h;refine dM (J1 I hg hm YZ (bR ?_ (by rw[hs3];rfl) (by rfl)));rw[hs3];refine Calls.spliced_cons ?_;refine Call_ (J1 I hg2 hm2 boot_zip (bR (thn (ha pos2 pins s σ H _ I h) λus s1⟨vs,H1,I1,r1,q1⟩=>?_) (by rw[hs,hs2]) (by rw[hs2];rfl)));obtain⟨l1,l2,xs,ys,e,hx,hy,q⟩:=q1;subst e;cases r1 with
|cons r rr=>
  cases rr with
 |cons r' rr=>
   cases rr;cases r;cases r';obtain⟨z1,its,n,rv,hl,e⟩:=I1.lstM hx;obtain⟨z2,its2,n2,rv2,hl2,e2⟩:=I1.lstM hy;refine call_zip_2 (xs:=its.toArray) (ys:=its2.toArray) ⟨_,e,rfl,_,rfl⟩ ⟨_,e2,rfl,_,rfl⟩ λh' a1 a2 a3 a4 a5 hsz kk=>?_;refine Calls.spliced_nil ?_;have lt1:=Heap.lt_size e;have lt2:=Heap.lt_size e2;have D:gf (s1.heap.objs.size+4) (s1.heap.objs.size+2) (s1.heap.objs.size+3) s1.heap.objs.size (s1.heap.objs.size+1) l1 l2:=by
    generalize s1.heap.objs.size=N at lt1 lt2;have g:∀(c:Nat)(k:Nat),c<N->c≠N+k:=λc k hc=>by omega
    have g2:∀i j:Nat,i≠j->N+i≠N+j:=λi j h e=>h (Nat.add_left_cancel e);exact⟨g2 2 4 (by decide),g2 3 4 (by decide),g2 0 4 (by decide),g2 1 4 (by decide),g2 2 3 (by decide),g2 2 0 (by decide),g2 2 1 (by decide),g2 3 0 (by decide),g2 3 1 (by decide),g2 0 1 (by decide),g _ 4 lt1,g _ 3 lt1,g _ 0 lt1,g _ 1 lt1,g _ 4 lt2,g _ 3 lt2,g _ 0 lt2,g _ 1 lt2⟩
   have sz:h'.objs.size=s1.heap.objs.size+5:=hsz;refine GD (s:={s1 with heap:=h'}) (xs:=its.toArray) (ys:=its2.toArray) (I1.ok.hd hc) D ?_ ?_ a1 a2 ⟨_,_,a3⟩ a4 a5 ⟨_,kk _ _ e,rfl,_,rfl⟩ ⟨_,kk _ _ e2,rfl,_,rfl⟩ λh'' Ts c' k2 hS hlen hp=>?_
   ·show _<h'.objs.size/\_<h'.objs.size/\_<h'.objs.size/\_<h'.objs.size/\_<h'.objs.size/\_<h'.objs.size/\_<h'.objs.size;rw[sz];generalize s1.heap.objs.size=N at lt1 lt2;have g:∀k:Nat,k<5->N+k<N+5:=λk hk=>by omega
    exact⟨g 4 (by decide),g 2 (by decide),g 3 (by decide),g 0 (by decide),g 1 (by decide),Nat.lt_of_lt_of_le lt1 (Nat.le_add_right _ _),Nat.lt_of_lt_of_le lt2 (Nat.le_add_right _ _)⟩
   ·simp only[ar];omega
   ·have kold:∀b o,s1.heap.get? b=some o->h''.get? b=some o:=λb o q=>by have hb:=Heap.lt_size q;have g:∀k:Nat,b≠s1.heap.objs.size+k:=λk=>Nat.ne_of_lt (Nat.lt_of_lt_of_le hb (Nat.le_add_right _ _));exact k2 b o (g 4) (g 3) (g 0) (g 1) (kk b o q)
    obtain⟨p1,p2,p3⟩:=hp;simp only[ar]at hlen;have lenxy:Ts.length=min xs.length ys.length:=by rw[hlen,hl,hl2]
    let rows:=(xs.zip ys).map λq=>[q.1,q.2]
    let news:Hp:=λc=>if c=h'.objs.size then some (HO.lst (Ts.map V.ref))else if c∈Ts then some (HO.tup (rows.getD (Ts.idxOf c) []))else none
    have hS':h'.objs.size∉Ts:=λz=>Nat.not_succ_le_self _ (p2 _ z).1;have nS:news h'.objs.size=some (.lst (Ts.map V.ref)):=if_pos rfl;have nT:∀c∈Ts,news c=some (.tup (rows.getD (Ts.idxOf c) [])):=λc hc=>by have zc:c≠h'.objs.size:=λz=>hS' (by rw[<-z];exact hc);show(if c=h'.objs.size then some (HO.lst (Ts.map V.ref))else if c∈Ts then some (HO.tup (rows.getD (Ts.idxOf c) []))else none)=_;rw[if_neg zc,if_pos hc]
    have hge:s1.heap.objs.size<=h'.objs.size:=by rw[sz];exact Nat.le_add_right _ _
    have hrow:∀(i:Nat)T r,Ts[i]?=some T->rows[i]?=some r->rows.getD (Ts.idxOf T) []=r:=λi T r h1 h2=>by
     have hi:i<Ts.length:=(aw.mp h1).1;have ei:Ts.idxOf T=i:=by have e:Ts[i]=T:=(aw.mp h1).2;rw[<-e];exact p1.idxOf_getElem i hi
     rw[ei,bp,h2];rfl
    have I2:Inv X pins σ (Ug H1 news) {s1 with heap:=h'',toks:=s1.toks}:=I1.more kold (λc o hc=>?_) (λc o hc=>?_)
    ·refine⟨.ref h'.objs.size,Ug H1 news,I2,rfl,q _ _ ⟨λc o ho=>?_,I1.hok.fresh hge,Ts,Gg nS,?_,λc hc=>I1.hok.fresh (Nat.le_trans hge (Nat.le_of_succ_le (p2 c hc).1)),λi T r h1 h2=>?_⟩⟩
     ·rw[Vn ?_]
      ·exact ho
      ·have hlt:=I1.hok.lt ho;have zc:c≠h'.objs.size:=Nat.ne_of_lt (Nat.lt_of_lt_of_le hlt hge);have zt:c∉Ts:=λz=>Nat.lt_irrefl _ (Nat.lt_of_lt_of_le hlt (Nat.le_trans hge (Nat.le_of_succ_le (p2 c z).1)));show(if c=h'.objs.size then some (HO.lst (Ts.map V.ref))else if c∈Ts then some (HO.tup (rows.getD (Ts.idxOf c) []))else none)=_;rw[if_neg zc,if_neg zt]
     ·rw[lenxy,lm,bF]
     ·rw[Gg (nT T (aQ h1)),hrow i T r h1 h2]
    ·by_cases z:c=h'.objs.size
     ·rw[z];exact hge
     ·by_cases zz:c∈Ts
      ·exact Nat.le_trans hge (Nat.le_of_succ_le (p2 c zz).1)
      ·have:news c=none:=by show(if c=h'.objs.size then some (HO.lst (Ts.map V.ref))else if c∈Ts then some (HO.tup (rows.getD (Ts.idxOf c) []))else none)=_;rw[if_neg z,if_neg zz]
       rw[this]at hc;cases hc
    ·by_cases z:c=h'.objs.size
     ·subst z;rw[nS]at hc;cases hc;refine⟨by rw[lm,lenxy];omega,Ts.map Value.ref,c',?_,hS⟩;generalize Ts=l;induction l with
     |nil=>exact .nil
     |cons a l ih=>exact .cons rfl ih
     ·by_cases zz:c∈Ts
      ·rw[nT c zz]at hc;cases hc;obtain⟨j,hj⟩:=bj.mp zz;obtain⟨x,y,hx',hy',hpr⟩:=p3 j c hj;obtain⟨vx,ex,rx⟩:=Sz rv (j:=j) (by simpa using hx');obtain⟨vy,ey,ry⟩:=Sz rv2 (j:=j) (by simpa using hy');have er:rows[j]?=some [vx,vy]:=by show((xs.zip ys).map λq=>[q.1,q.2])[j]?=_;rw[aD,List.getElem?_zip_eq_some (z:=(vx,vy)) |>.mpr ⟨ex,ey⟩];rfl
       rw[hrow j c _ hj er];exact⟨zl,[x,y],.cons rx (.cons ry .nil),⟨_,hpr,rfl,_,rfl⟩⟩
      ·have:news c=none:=by show(if c=h'.objs.size then some (HO.lst (Ts.map V.ref))else if c∈Ts then some (HO.tup (rows.getD (Ts.idxOf c) []))else none)=_;rw[if_neg z,if_neg zz]
       rw[this]at hc;cases hc
end
section
variable {prog:Program}{w:World}{A:aL}{E:Value->ah->Prop}
theorem NM{it l:Addr}{items:Array Value}(hne:l≠it):∀(n i:Nat)(s:ah)(Q:List Value->ah->Prop),s.heap.IsListIter it l i->s.heap.IsList l items->i+n<=items.size ->(∀h',h'.IsListIter it l (i+n)->Heap.SameBut it s.heap h'->Q ((items.toList.drop i).take n) {s with heap:=h'})->wpAny (model prog w) A (draw (.ref it) n) Q E s
|0,i,s,Q,hit,_,_,hQ=>by show wpAny _ _ (pure []) Q E s;exact ai (by simpa using hQ s.heap hit (Heap.SameBut.refl ..))
|n+1,i,s,Q,hit,hl,hle,hQ=>by
  have hlt:i<items.size:=by omega
  show wpAny _ _ (fq (.ref it) >>= _) Q E s;refine ae (wpAny_pyNext_list_item hit hl (x:=items[i]) (by simp[hlt]) λh₁ hit₁ hs₁=>?_);refine ae (aW (NM hne n (i+1) _ _ hit₁ (hl.at λo e=>hs₁.extBut _ _ hne e) (by omega) λh₂ hit₂ hs₂=>ai ?_));have hd:items.toList.drop i=items[i]::items.toList.drop (i+1):=by simp[c8,hlt]
  have:=hQ h₂ (by rw[show i+(n+1)=i+1+n by omega];exact hit₂) (hs₁.trans hs₂);rw[hd,List.take_succ_cons]at this;exact this
theorem UX{s:ah}{t:Addr}{items:Array Value}{Q:List Value->ah->Prop}(hh:A.handled=none)(ht:s.heap.IsList t items)(hQ:∀h',Heap.ExtBut s.heap.objs.size s.heap h'->Q items.toList {s with heap:=h'}):wpAny (model prog w) A (unpackItems (.ref t) items.size none) Q E s:=by
 have hlt:t≠s.heap.objs.size:=by obtain⟨o,ho,_⟩:=ht;exact Nat.ne_of_lt (Heap.lt_size ho)
 unfold unpackItems;refine ae ?_
 ·unfold notIterableAtAll;refine ae (gF ht.typeIs slot_list_iter.lookup ?_);refine ai ?_;simp only[Bool.false_eq_true,if_false];refine ae (aW (wpAny_pyIter_list ht ?_));have ht0:(s.heap.push {cls:=.type "list_iterator",data:=.fields #[.ref t,.int 0 0]}).IsList t items:=ht.at λo e=>Heap.get?_push_of_some _ e;refine ae (aW (NM hlt items.size 0 _ _ ⟨_,Heap.get?_push_size _ rfl,rfl,rfl⟩ ht0 (by omega) λh₁ hit₁ hs₁=>?_));have hall:List.take items.size (List.drop 0 items.toList)=items.toList:=by rw[List.drop_zero];exact aV (by simp)
  rw[hall];rw[if_neg (by simp)];have ht₁:h₁.IsList t items:=ht0.at λo e=>hs₁.extBut _ _ hlt e;refine ae (aW (wpAny_pyNext_list_end hh hit₁ ht₁ (by simp) λh₂ he₂=>?_));simp only[Option.isSome_none,Bool.false_eq_true,if_false];refine ai (hQ h₂ λb o hb e=>he₂ b o hb (hs₁.extBut b o hb (Heap.get?_push_of_some _ e)))
theorem UW{s:ah}{env:Env}{elts:List Expr}{x1}{pos:Pos}{t:Addr}{items:Array Value}{Q:Unit->ah->Prop}(hh:A.handled=none)(ht:s.heap.IsList t items)(hn:(c_ elts env).length=items.size)(hstar:(c_ elts env).findIdx? (·.1)=none)(h:∀h',Heap.ExtBut s.heap.objs.size s.heap h'->wpAny (model prog w) A (assignInOrder ((c_ elts env).map (·.2)) items.toList) Q E {s with heap:=h'}):wpAny (model prog w) A (assign (.Tuple elts x1 pos) env (.ref t)) Q E s:=by rw[assign_Tuple];refine ae (eU ?_);unfold unpack;rw[hn,hstar];exact ae (aW (UX hh ht h))
end
section
variable {X:Cx}{pos:Pos}
def gLst(K:af)(n:Nat)(t:TGs):TG:=λv σ H Q=>∃a xs,v=.ref a/\SqL K H a xs/\xs.length=n/\t xs σ H Q
theorem Rt{es:List Expr}{k:Nat}{t:TGs}{n:Nat}(hc:X.calm=true)(h:PGs X es t)(hn:(c_ es X.env).length=n:=by rfl)(hst:(c_ es X.env).findIdx? (·.1)=none:=by rfl):PG X (.Tuple es k pos) (gLst X.K n t):=by intro pins s σ H v u Q I r hw;obtain⟨a,xs,e1,hq,hl,hw⟩:=hw;subst e1;cases r;obtain⟨its,rv,ht,hz⟩:=I.list hq;refine UW (I.ok.hd hc) ht.isList (by simp[hn,<-hl,rv.length]) hst λh' hx=>?_;have I1:Inv X pins σ H {s with heap:=h'}:=I.kept (t':=s.toks) λb o e=>hx b o (Nat.ne_of_lt (Heap.lt_size e)) e;exact h pins _ σ H xs _ Q I1 (by simpa using rv) hw
noncomputable def rLen(K:af):List V->Hp->VK->Prop:=λxs H Q=>∃p ys,xs=[.ref p]/\(SqL K H p ys\/SqT K H p ys)/\Q (.int ys.length) H
theorem YR:Y1 X (.builtin "len") (rLen X.K):=JG
end
mutual
inductive Is(H:Hp):V->PyData->Prop
|non:Is H .non .none
|bl (b:Bool):Is H (.bl b) (.bool b)
|int (i:Int):Is H (.int i) (.int i)
|str (z:Str):Is H (.str z) (.str z)
|lst {a:Addr}{xs:List V}{ds:List PyData} (e:H a=some (.lst xs)) (r:IsAll H xs ds):Is H (.ref a) (.list ds)
|tup {a:Addr}{xs:List V}{ds:List PyData} (e:H a=some (.tup xs)) (r:IsAll H xs ds):Is H (.ref a) (.tuple ds)
inductive IsAll(H:Hp):List V->List PyData->Prop
|nil:IsAll H [] []
|cons {x:V}{xs:List V}{d:PyData}{ds:List PyData} (h:Is H x d) (r:IsAll H xs ds):IsAll H (x::xs) (d::ds)
end
section
variable {P:Program}{w:World}{H:Hp}{h:Heap}
mutual
theorem Is.reads(ok:HOk P w H h):∀{x:V}{d:PyData}{v:Value},Is H x d->RelV x v->∃as,Reads h v d as
|_,_,_,.non,r=>by cases r;exact⟨_,.none⟩
|_,_,_,.bl b,r=>by cases r;exact⟨_,.bool b⟩
|_,_,_,.int i,r=>by obtain⟨t,rfl⟩:=r;exact⟨_,.int i t⟩
|_,_,_,.str z,r=>by obtain⟨t,rfl⟩:=r;exact⟨_,.str z t⟩
|_,_,_,.lst e q,r=>by cases r;obtain⟨_,its,n,rv,e2⟩:=ok _ _ e;obtain⟨as,ra⟩:=IsAll.reads ok q rv;exact⟨_,.list e2 rfl rfl (by simpa using ra)⟩
|_,_,_,.tup e q,r=>by cases r;obtain⟨_,its,rv,o,e2,hc,n,hd⟩:=ok _ _ e;obtain⟨as,ra⟩:=IsAll.reads ok q rv;exact⟨_,.tuple e2 hc hd (by simpa using ra)⟩
theorem IsAll.reads(ok:HOk P w H h):∀{xs:List V}{ds:List PyData}{us:List Value},IsAll H xs ds->Vals xs us->∃as,ReadsAll h us ds as
|_,_,_,.nil,r=>by cases r;exact⟨_,.nil⟩
|_,_,_,.cons a b,r=>by
  cases r with
 |cons r1 r2=>obtain⟨as,h1⟩:=Is.reads ok a r1;obtain⟨bs,h2⟩:=IsAll.reads ok b r2;exact⟨_,.cons h1 h2⟩
end
mutual
theorem Is.nodict:∀{x:V}{d:PyData},Is H x d->d.hasDict=false
|_,_,.non=>by simp only[PyData.hasDict]
|_,_,.bl b=>by simp only[PyData.hasDict]
|_,_,.int i=>by simp only[PyData.hasDict]
|_,_,.str z=>by simp only[PyData.hasDict]
|_,_,.lst e q=>by simp only[PyData.hasDict];exact IsAll.nodict q
|_,_,.tup e q=>by simp only[PyData.hasDict];exact IsAll.nodict q
theorem IsAll.nodict:∀{xs:List V}{ds:List PyData},IsAll H xs ds->PyData.hasDictAll ds=false
|_,_,.nil=>by simp only[PyData.hasDictAll]
|_,_,.cons a b=>by simp only[PyData.hasDictAll,Is.nodict a,IsAll.nodict b,Bool.or_false]
end
mutual
theorem Is.same{H':Hp}(s:Same H H'):∀{x:V}{d:PyData},Is H x d->Is H' x d
|_,_,.non=>.non
|_,_,.bl b=>.bl b
|_,_,.int i=>.int i
|_,_,.str z=>.str z
|_,_,.lst e q=>.lst (s _ _ e) (IsAll.same s q)
|_,_,.tup e q=>.tup (s _ _ e) (IsAll.same s q)
theorem IsAll.same{H':Hp}(s:Same H H'):∀{xs:List V}{ds:List PyData},IsAll H xs ds->IsAll H' xs ds
|_,_,.nil=>.nil
|_,_,.cons a b=>.cons (Is.same s a) (IsAll.same s b)
end
end
section
variable {X:Cx}
noncomputable def HJ:List V->Hp->VK->Prop:=λxs H Q=>∃a d,xs=[.ref a]/\Is H (.ref a) d/\d.showable=true/\d.depth<=64/\d.shown.length<=sizeLine/\Q (.str d.shown) H
theorem MP{k:Nat}(hr:Room k X.A):Y1 X (.builtin "repr") HJ:=by intro pins s σ H xs us Q I r h;obtain⟨a,d,rfl,hd,hs,hdp,hz,q⟩:=h;obtain⟨u,rfl,rx⟩:=vals1 r;obtain⟨as,rd⟩:=hd.reads I.hok rx;cases rx;exact repr_of_reads' rd hs (PyData.noDict_hsm hd.nodict) hr.gd (by have:=hr.un;omega) (λ_ _ e=>e) (λh' u tk hk=>⟨.str d.shown,H,I.kept hk,⟨u,rfl⟩,q⟩) hz
end
theorem Zi.new'{b l:Addr}{H H1:Hp}{o:HO}(x:Zi b H H1)(hl:H1 l=none):Zi b H (L2.upd H1 l o):=λc u h hc=>by rw[Zg (Zf (x c u h hc) hl)];exact x c u h hc
theorem Zi.put{b:Addr}{H H1:Hp}{o:HO}(x:Zi b H H1):Zi b H (L2.upd H1 b o):=λc u h hc=>by rw[Zg hc];exact x c u h hc
theorem at_of{α:Type}{xs:List α}{r:Int}(h0:0<=r)(h1:r<(xs.length:Int)):∃v,atI xs r=some v/\v∈xs:=by
 have e1:((r.toNat:Nat):Int)=r:=Int.toNat_of_nonneg h0;have hr':r.toNat<xs.length:=by omega
 refine⟨xs[r.toNat],?_,aH hr'⟩;have h:=Zv (xs:=xs) (gE hr');rwa [e1]at h
end L2
namespace WD
open PySem L2 PySem.Spec PyProof.Rows TB
noncomputable def Blts:List Str:=["len","range","int","list","tuple","zip","sum","repr","max","isinstance","bool","str","enumerate"]
theorem bm{mg:Str->Option Value}(B:∀x∈Blts,mg x=none){x:Str}(h:x∈Blts:=by decide +kernel):mg x=none:=B x h
noncomputable def boxV(x y z:Int):HO:=.lst [.int x,.int y,.int z]
def Zu(H:Hp)(b:Addr):Prop:=∃x y z:Int,H b=some (boxV x y z)
theorem Zu.new{H:Hp}{b l:Addr}{o:HO}(h:Zu H b)(hl:H l=none):Zu (upd H l o) b:=by obtain⟨x,y,z,e⟩:=h;exact⟨x,y,z,by rw[Zg (Zf e hl)];exact e⟩
theorem Zu.ne{H:Hp}{b l:Addr}(h:Zu H b)(hl:H l=none):l≠b:=by obtain⟨x,y,z,e⟩:=h;exact(Zf e hl).symm
theorem Zu.same{H H':Hp}{b:Addr}(h:Zu H b)(s:Same H H'):Zu H' b:=by obtain⟨x,y,z,e⟩:=h;exact⟨x,y,z,s _ _ e⟩
theorem al{b c:Addr}{H:Hp}{o:HO}{G:Hp->Prop}(B:Zu H b)(h:H c=none)(k:∀H',Zu H' b->Zi b H H'->H' c=some o->c≠b->G H'):G (upd H c o):=k _ (B.new h) ((Zi.refl b H).new' h) Zb (B.ne h)
theorem al2{b c:Addr}{H:Hp}{o:HO}{R:Type}{q:R}{G:Hp->R->Prop}(B:Zu H b)(h:H c=none)(k:∀H',Zu H' b->Zi b H H'->H' c=some o->c≠b->G H' q):G (upd H c o) q:=al (G:=λH=>G H q) B h k
def Ej:Sp:=λvs H Q _=>∃c:Int,vs=[.int c]/\∀l H',H l=none->Zu H' l->Same H H'->Q (.ref l) H'
def Xr:Sp:=λvs H Q _=>∃(b:Addr)(n:Int),vs=[.ref b,.int n]/\Zu H b/\0<n/\n.natAbs.log2<9000/\∀(r:Int)H',0<=r->r<n->Zu H' b->Zi b H H'->Q (.int r) H'
def N5:Sp:=λvs H Q _=>∃(b:Addr),vs=[.ref b]/\Zu H b/\∀(r:Int)H',0<=r->r<=1000->Zu H' b->Zi b H H'->Q (.int r) H'
theorem Nt(a m:Int)(h:0<m)(hm:m<2 ^ 64):-(2 ^ 64)<a % m/\a % m<2 ^ 64:=by have h1:=Int.emod_nonneg a (by omega:m≠0);have h2:=Int.emod_lt_of_pos a h;omega
theorem Yv{n:Int}(h:0<=n)(h2:n<=1000):n.natAbs.log2<9000:=Nat.lt_of_le_of_lt (Nat.log2_le_self _) (by omega)
theorem tkC{b:Addr}{i:Nat}{n:Int}{σ:L2.St}{H:Hp}{Q:VK}{E:XK}(hb:Zu H b)(k:∀(r:Int)H',0<=r->r<n->Zu H' b->Zi b H H'->Q (.int r) H')(h0:0<n:=by decide)(hl:n.natAbs.log2<9000:=by exact Yv (by decide) (by decide))(hv:σ[i]?=some (some (.ref b)):=by rfl):Nn Xr [] E (JH (tVar i) (JH (tC (.int n)) tNil)) σ H Q:=⟨_,hv,b,n,rfl,hb,h0,hl,k⟩
theorem J2{p:Bool}{A B:Prop}(h1:p=true->A)(h2:p=false->B):if p=true then A else B:=by
 cases p
 ·exact h2 rfl
 ·exact h1 rfl
section
variable {P:Program}{w:World}{K:af}{mg:Str->Option Value}{base:Heap}
theorem Rn:FnScope ["_law_cell_here"] ["_law_cell_here"] (Ze T.f__law_box):=scO
theorem Ed(B:∀x∈Blts,mg x=none)(D:Df K mg "_law_box" T.f__law_box ["_law_cell_here"]):Can P w K mg base 1 "_law_box" ["_law_cell_here"] Ej:=by refine D.cn Rn λf cdv A outer s H vs Q E hr h=>?_;obtain⟨c,rfl,k⟩:=h;refine⟨_,(Zj (Zn (ZA (Za (ZO (WZ rfl) rfl (bm B) PyProof.Rows.boot_max (Za Zc (Za (Zw JY (pv 0) (Zw KS Zc Zc)) Zh))) (Za (Zw Jg (pv 0) Zc) (Za Zc Zh)))))),?_⟩;refine⟨_,rfl,_,_,rfl,rfl,⟨by decide,by decide,by decide⟩,_,_,rfl,rfl,_,_,rfl,_,rfl,_,_,rfl,rfl,(by show(0:Int)<2147483647;decide),(zl),λp hp=>?_⟩;exact k p _ hp ⟨_,_,_,Zb⟩ (sameNew (Same.refl _) hp)
theorem X5:FnScope [q_b,"_law_many","_law_digit","_law_number"] [q_b,"_law_many"] (Ze T.f__law_take):=scO
theorem LL(D:Df K mg "_law_take" T.f__law_take [q_b,"_law_many"]):Can P w K mg base 1 "_law_take" [q_b,"_law_many"] Xr:=by
 refine D.cn X5 λf cdv A outer s H vs Q E hr h=>?_;obtain⟨b,n,rfl,⟨x,y,z,hb⟩,hn,hlog,k0⟩:=h;have k:∀r x' y' z':Int,0<=r->r<n->Q (.int r) (upd H b (boxV x' y' z')):=λr x' y' z' h0 h1=>k0 r _ h0 h1 ⟨_,_,_,Zb⟩ (Zi.refl b H).put;refine⟨_,(Zd (ZZ (ZD KY (il K (pv 0) Zc) Zc (ZC _)) (Zd (st 2 X5.nd (Zw Jg (il K (pv 0) Zc) (pv 1))) (Zd (VR (Zw KZ (il K (pv 0) Zc) (pv 1)) (KN (pv 0) Zc set_list)) (Zj (Zn (pv 2))))) Zx) (Zd (VR (Zw ZX (il K (pv 0) Zc) Zc) (KN (pv 0) Zc set_list)) (Zd (st 3 X5.nd (Zw Jg (Zw ZX (Zw ZX (Zw Ga (il K (pv 0) Zc) Zc) (Zw Ga Zc (il K (pv 0) Zc))) Zc) Zc)) (Zd (st 3 X5.nd (Zw Jg (Zw Ga (Zw Jg (Zw Ga (pv 3) (pv 3)) Zc) Zc) Zc)) (Zj (Zn (Zw Jg (Zw DN (Zw Jg (Zw Ga (pv 3) (pv 3)) Zc) Zc) (pv 1)))))))),?_⟩;have a0:atI [V.int x,V.int y,V.int z] 0=some (.int x):=Zv (j:=0) rfl;refine iaL hb a0 ⟨_,_,rfl,rfl,_,rfl,?_⟩;refine ite2 (λe=>?_) (λe=>?_)
 ·refine iaL hb a0 ⟨_,rfl,_,_,rfl,rfl,hn,?_⟩;refine iaL hb a0 ⟨_,rfl,_,_,rfl,rfl,⟨hn,hlog⟩,?_⟩;refine⟨_,rfl,b,_,0,0,rfl,rfl,hb,rfl,_,rfl,?_⟩;exact k _ _ _ _ (Int.emod_nonneg _ (by omega)) (Int.emod_lt_of_pos _ hn)
 ·have a2:atI [V.int x,V.int y,V.int z] 2=some (.int z):=Zv (j:=2) rfl;refine iaL hb a2 ⟨_,_,rfl,rfl,?_⟩;refine⟨_,rfl,b,_,2,2,rfl,rfl,hb,rfl,?_⟩;have hb2:upd H b (.lst ([V.int x,V.int y,V.int z].set 2 (.int (z+1)))) b=some (boxV x y (z+1)):=Zb;have b1:atI [V.int x,V.int y,V.int (z+1)] 1=some (.int y):=Zv (j:=1) rfl;have b2:atI [V.int x,V.int y,V.int (z+1)] 2=some (.int (z+1)):=Zv (j:=2) rfl;refine iaL hb2 b1 ⟨_,_,rfl,rfl,.inr ⟨by decide,by decide⟩,iaL hb2 b2 ⟨_,_,rfl,rfl,.inl ⟨by decide,by decide⟩,_,_,rfl,rfl,_,_,rfl,rfl,_,_,rfl,rfl,(by show(0:Int)<2147483629;decide),?_⟩⟩;refine⟨_,rfl,_,rfl,_,_,rfl,rfl,.inl (Nt _ _ (by decide) (by decide)),_,_,rfl,rfl,(by show(0:Int)<2147483587;decide),_,_,rfl,rfl,.inr ⟨by decide,by decide⟩,_,_,rfl,rfl,(by show(0:Int)<2147483647;decide),?_⟩;refine⟨_,rfl,_,rfl,_,_,rfl,rfl,.inl (Nt _ _ (by decide) (by decide)),_,_,rfl,rfl,(by show(0:Int)<2147483629;decide),_,_,rfl,rfl,⟨by decide,by decide⟩,_,rfl,_,_,rfl,rfl,hn,?_⟩;exact k _ _ _ _ (Int.emod_nonneg _ (by omega)) (Int.emod_lt_of_pos _ hn)
theorem GL:FnScope [q_b,"_law_way_here"] [q_b] (Ze T.f__law_size):=scO
theorem LP(CT:Can P w K mg base 1 "_law_take" [q_b,"_law_many"] Xr)(D:Df K mg "_law_size" T.f__law_size [q_b]):Can P w K mg base 2 "_law_size" [q_b] N5:=by
 refine D.cn GL λf cdv A outer s H vs Q E hr h=>?_;obtain⟨b,rfl,hb,k⟩:=h;refine⟨_,(Zd (st 1 GL.nd (cn CT hr (Za (pv 0) (Za Zc Zh)))) (Zd (ZZ (ZD Jp (pv 1) Zc (ZC _)) (Zj (Zn (il K (ZA (Za Zc (Za Zc (Za Zc Zh)))) (cn CT hr (Za (pv 0) (Za Zc Zh)))))) Zx) (Zj (Zn (cn CT hr (Za (pv 0) (Za Zc Zh))))))),?_⟩;refine tkC hb (λr H1 h0 h1 B1 S1=>?_);refine⟨_,rfl,rfl,_,rfl,?_⟩;refine ite2 (λe=>?_) (λe=>?_)
 ·refine⟨zl,λl hl=>?_⟩;have nlb:=B1.ne hl;refine tkC (B1.new hl) (λr2 H2 h02 h12 B2 S2=>?_);obtain⟨v,hv,hm⟩:=at_of (xs:=[V.int 0,.int 1000,.int 999]) h02 h12;refine⟨l,_,r2,v,rfl,rfl,SqL.of (S2 _ _ Zb nlb),hv,?_⟩;have S:Zi b H H2:=(S1.new' hl).trans S2;simp only[au,aG,or_false]at hm;rcases hm with rfl|rfl|rfl
  ·exact k 0 H2 (by decide) (by decide) B2 S
  ·exact k 1000 H2 (by decide) (by decide) B2 S
  ·exact k 999 H2 (by decide) (by decide) B2 S
 ·refine tkC B1 (λr2 H2 h02 h12 B2 S2=>?_);exact k r2 H2 h02 (by omega) B2 (S1.trans S2)
end
noncomputable abbrev codes:=K1.codes
noncomputable abbrev LET:=K1.LET
theorem WH{a b:Str}(h:codes a=codes b):a=b:=by
 obtain⟨x⟩:=a;obtain⟨y⟩:=b;have:x=y:=by simpa[K1.codes]using h
 rw[this]
theorem XG(a b:Str):codes (a++b)=codes a++codes b:=by show(a.cps++b.cps).toList=_;simp[K1.codes]
theorem WG(c:Nat):codes ⟨#[c]⟩=[c]:=rfl
theorem VQ{α:Type}(xs:List α)(a:Nat):∀k,a+k<=xs.length->((aT k).map λi=>a+i).filterMap (λi=>xs[i]?)=(xs.drop a).take k
|0,_=>by simp
|k+1,h=>by
  rw[eN,a8,List.filterMap_append,VQ xs a k (by omega)];have hk:a+k<xs.length:=by omega
  rw[bE];congr 1;simp[hk]
theorem Lw(n:Nat)(j:Int)(h:0<=j):dz none (some j) 1 n=(aT (min j.toNat n)).map λi=>0+i:=by
 unfold dz sliceRange;obtain⟨m,rfl⟩:=Int.eq_ofNat_of_zero_le h;simp only[show(1:Int)>0 by decide,if_true,show ¬(m:Int)<0 by omega,if_false];rw[show max 0 (min (m:Int) n)=((min m n:Nat):Int) by omega,Int.toNat_natCast];generalize min m n=t;have e:(if(0:Int)<t then((t:Int)-0+1-1) / 1 else 0).toNat=t:=by rw[Int.ediv_one];split<;>omega
 rw[e];apply List.map_congr_left;intro k _;omega
theorem Lx(n:Nat)(j:Int)(h:0<=j)(h2:j<=n):dz (some j) none 1 n=(aT (n-j.toNat)).map λi=>j.toNat+i:=by
 unfold dz sliceRange;obtain⟨m,rfl⟩:=Int.eq_ofNat_of_zero_le h;simp only[show(1:Int)>0 by decide,if_true,show ¬(m:Int)<0 by omega,if_false];rw[show max 0 (min (m:Int) n)=m by omega,Int.toNat_natCast];have e:(if(m:Int)<(n:Int)then((n:Int)-m+1-1) / 1 else 0).toNat=n-m:=by rw[Int.ediv_one];split<;>omega
 rw[e];apply List.map_congr_left;intro k _;omega
theorem Qk(x:Str)(l:List Nat):(l.filterMap (x.cps[·]?))=l.filterMap (λi=>(codes x)[i]?):=by congr 1;funext i;simp[K1.codes]
theorem ZN(x:Str):(codes x).length=x.length:=K1.clen x
theorem VV(x:Str)(j:Int)(h:0<=j):codes (Txt.slice x none (some j))=(codes x).take j.toNat:=by
 unfold Txt.slice;rw[Lw _ _ h];split
 ·rename_i hq;have:min j.toNat x.length=x.length:=by simpa using hq
  rw[aV (by rw[ZN];omega)]
 ·show(List.filterMap _ _)=_;rw[Qk,VQ _ 0 _ (by rw[ZN];omega),List.drop_zero];rcases Nat.le_total j.toNat x.length with hh|hh
  ·rw[Nat.min_eq_left hh]
  ·rw[Nat.min_eq_right hh,aV (by rw[ZN];exact Nat.le_refl _),aV (by rw[ZN];omega)]
theorem RP(x:Str)(j:Int)(h:0<=j)(h2:j<=x.length):codes (Txt.slice x (some j) none)=(codes x).drop j.toNat:=by
 unfold Txt.slice;rw[Lx _ _ h h2];split
 ·rename_i hq;have:x.length-j.toNat=x.length:=by simpa using hq
  have hl:=ZN x;rcases Nat.eq_zero_or_pos x.length with e|e
  ·have:codes x=[]:=eJ (by omega);rw[this];simp
  ·have:j.toNat=0:=by omega
   rw[this,List.drop_zero]
 ·show(List.filterMap _ _)=_;rw[Qk,VQ _ j.toNat _ (by rw[ZN];omega),aV (by rw[hV,ZN];omega)]
theorem MN:∀(ts:List Str),codes (Txt.join Str.empty ts)=(ts.map codes).flatten
|[]=>rfl
|[t]=>by show codes (Txt.join Str.empty [t])=_;unfold Txt.join;rw[gL];show codes t=_;simp
|t::u::r=>by have ih:=MN (u::r);unfold Txt.join at ih ⊢;rw[gL]at ih ⊢;show codes (t++Str.empty++Str.join Str.empty (u::r))=_;rw[XG,XG,ih];simp[K1.codes,Str.empty]
def Nm(t:Str):Prop:=1<=(codes t).length/\(codes t).length<=8/\∀c∈codes t,c∈LET
def Bs(n:Nat)(t:Str):Prop:=(codes t).length=n/\∀c∈codes t,c∈LET
theorem Bs.join{ts:List Str}(h:∀t∈ts,Bs 1 t):Bs ts.length (Txt.join Str.empty ts):=by
 unfold Bs;rw[MN];induction ts with
|nil=>simp
|cons t r ih=>
  obtain⟨a,b⟩:=h t az;obtain⟨a',b'⟩:=ih λu hu=>h u (aq _ hu);refine⟨by simp only[aI,List.flatten_cons,ax,aP];omega,λc hc=>?_⟩;rw[aI,List.flatten_cons]at hc;rcases aN.mp hc with hc|hc
  ·exact b c hc
  ·exact b' c hc
noncomputable def wds:List Str:=["home","ride","turns","place","way","group","out","wait"]
noncomputable def wdsFrom(a n:Nat):List Str:=(aT n).map λk=>wds.getD ((a+k) % 8) ""
theorem EF:∀a<8,∀n<9,(wdsFrom a n).Nodup:=by decide +kernel
theorem EE:∀t∈wds,1<=(codes t).length/\(codes t).length<=8/\∀c∈codes t,c∈LET:=by decide +kernel
theorem Q6(a n:Nat):∀t∈wdsFrom a n,Nm t:=λt ht=>by obtain⟨k,_,rfl⟩:=av.mp ht;have:(a+k) % 8<wds.length:=Nat.mod_lt _ (by decide);rw[bp,gE this];exact EE _ (aH this)
noncomputable def begs(base:Str)(sz n:Nat):List Str:=(aT n).map λk=>Txt.slice base none (some ((1+(k+sz) % 8:Nat):Int))
theorem Ee{base:Str}(hb:Bs 8 base)(sz n:Nat):∀t∈begs base sz n,Nm t:=λt ht=>by obtain⟨k,_,rfl⟩:=av.mp ht;unfold Nm;rw[VV _ _ (by omega)];refine⟨by rw[aB,hb.1];omega,by rw[aB,hb.1];omega,λc hc=>hb.2 c (gk hc)⟩
theorem nodup_map_on{α β:Type}{f:α->β}:∀{l:List α},l.Nodup->(∀a∈l,∀b∈l,f a=f b->a=b)->(l.map f).Nodup
|[],_,_=>fh
|a::l,h,i=>by rw[aI,cF];rw[cF]at h;refine⟨λhm=>?_,nodup_map_on h.2 λx hx y hy e=>i x (aq _ hx) y (aq _ hy) e⟩;obtain⟨b,hb,e⟩:=av.mp hm;exact h.1 (i b (aq _ hb) a az e▸hb)
theorem Ef{base:Str}(hb:Bs 8 base)(sz:Nat){n:Nat}(hn:n<=8):(begs base sz n).Nodup:=by refine nodup_map_on List.nodup_range λa ha b hb' e=>?_;rw[cA]at ha hb';have e1:=congrArg (λt=>(codes t).length) e;simp only[VV _ _ (Int.natCast_nonneg _),aB,hb.1,Int.toNat_natCast]at e1;omega
noncomputable def put(base:Str)(at_:Nat)(c:Nat):Str:=Txt.slice base none (some (at_:Int))++⟨#[c]⟩++Txt.slice base (some (at_:Int)) none
theorem GC{base:Str}{a:Nat}(h:a<=base.length)(c:Nat):codes (put base a c)=(codes base).take a++[c]++(codes base).drop a:=by unfold put;rw[XG,XG,VV _ _ (by omega),RP _ _ (by omega) (by omega),WG];simp
noncomputable def sgn(f k:Nat):Nat:=LET.getD ((f+5*k) % 26) 0
theorem Ds(f k:Nat):sgn f k∈LET:=by have:(f+5*k) % 26<LET.length:=Nat.mod_lt _ (by decide);unfold sgn;rw[bp,gE this];exact aH this
theorem EL:∀f<26,∀n<14,((aT n).map (sgn f)).Nodup:=by decide +kernel
noncomputable def puts(base:Str)(a f n:Nat):List Str:=(aT n).map λk=>put base a (sgn f k)
theorem DG{base:Str}{sz:Nat}(hb:Bs sz base)(hs:sz<=7){a:Nat}(ha:a<=sz)(f n:Nat):∀t∈puts base a f n,Nm t:=λt ht=>by
 obtain⟨k,_,rfl⟩:=av.mp ht;have hl:base.length=sz:=by rw[<-ZN];exact hb.1
 unfold Nm;rw[GC (by omega)];refine⟨by simp;omega,by simp[hb.1];omega,λc hc=>?_⟩;simp only[aN,aU]at hc;rcases hc with(hc|hc)|hc
 ·exact hb.2 c (gk hc)
 ·rw[hc];exact Ds f k
 ·exact hb.2 c (List.mem_of_mem_drop hc)
theorem DH{base:Str}{sz:Nat}(hb:Bs sz base){a:Nat}(ha:a<=sz){f n:Nat}(hf:f<26)(hn:n<14):(puts base a f n).Nodup:=by
 have hl:base.length=sz:=by rw[<-ZN];exact hb.1
 refine nodup_map_on List.nodup_range λx hx y hy e=>?_;have e1:=congrArg codes e;rw[GC (by omega),GC (by omega)]at e1;have e2:sgn f x=sgn f y:=by rw[bO,bO]at e1;have:=List.append_cancel_left e1;simpa using this
 have nd:=EL f hf n hn;rw[cA]at hx hy;have h1:((aT n).map (sgn f))[x]'(by simpa using hx)=((aT n).map (sgn f))[y]'(by simpa using hy):=by simpa using e2
 exact(fO nd).mp h1
end WD
namespace L2
open PySem PySem.Spec PyProof.Rows
section
variable {X:Cx}
theorem Xg{i:Nat}{x:Str}{pos' pos2:Pos}{elt iter tg:Expr}{ifs:List Expr}{scope:Scope}{pos:Pos}{N:List Str}{cp:List (Option Nat)}{wi:TI}{g:TG}{tc:TT}{te:TE}(hNd:X.N.Nodup)(hix:X.N[i]?=some x)(hlx:Loc X.env.scope x)(hc:X.calm=true){sc:Scope}{N0:List Str}(hS0:CompScope scope sc)(hN0:CompNames N0 scope N cp)
  (hi:PI X tg iter wi) (hg:∀C s H ex pn,PG (XO X scope N C s H ex pn) tg g) (ht:∀C s H ex pn,PTs (XO X scope N C s H ex pn) ifs tc) (he:∀C s H ex pn,PE (XO X scope N C s H ex pn) elt te)
  (hsw:fG (.ListComp elt [⟨tg,iter,ifs,0⟩] scope pos) (some (.Name x pos')) pos2.line X.env=pure true:=by with_unfolding_all rfl) (hff:X.fn x=true\/X.env.scope.names.lookup x=some .local:=by first|exact .inl rfl|exact .inr rfl|assumption)
  (hsc:X.env.scope=sc:=by rfl) (hxn:X.N=N0:=by rfl) (hs:∀x,fU iter X.env x=pure x:=by intro _;rfl):PS X (.Assign [.Name x pos'] (.ListComp elt [⟨tg,iter,ifs,0⟩] scope pos) pos2) (tAsg (Kf cp wi g tc te) (YI i)):=by
 subst hsc hxn
 intro pins s σ H D I h
 rw[exec_Assign_Name_used _ _ _ _ hsw]
 refine ae (eU (ae ?_))
 show wpAny _ _ (do let _ <-comprehension (.ListComp elt [⟨tg,iter,ifs,0⟩] scope pos) scope X.env _ (newList []) false (eval iter X.env) (some (assign (.Name x pos') X.env))) _ _ s
 refine ae (cM (NO (R:=λ_ s'=>SP X pins D .next s') (use:=some (assign (.Name x pos') X.env)) hc hS0 hN0 hi hg ht he hs I h λD' C H5 s4 m I5 hn h1 h2 h3 h4 h5 q=>?_) (λ_ s' hq=>ai (ai hq)) λ_ _ e=>e)
 refine wpAny_assign_Name (Np I5 hNd hix hlx (v:=.ref D') rfl (λs' I6 hsb=>?_) hff)
 obtain⟨a,hsb,ha⟩:=hsb
 have haC:C≠a:=by
  rcases ha with rfl|ha
  ·exact h1
  ·exact(h2 _ _ ha).symm
 exact⟨m,hn.sameBut hsb haC,λh'' hs''=>⟨_,_,I6.turned (t':=s'.toks) (it:=C) (λb o hb e=>(hs''.2 b hb).trans e) h3 h1 (.inr h4) h2 h5,q⟩⟩
end
end L2
namespace WD
open PySem L2 PySem.Spec PyProof.Rows TB
def N6:Sp:=λvs H Q _=>∃(b:Addr)(n:Int),vs=[.ref b,.int n]/\Zu H b/\1<=n/\n<=13/\∀H' l(ts:List Str),Zu H' b->Zi b H H'->H' l=some (.lst (ts.map V.str))->l≠b->(ts.length:Int)=n->ts.Nodup->(∀t∈ts,Nm t)->Q (.ref l) H'
theorem modN{x:Int}{k n:Nat}(h:x=k):x % (n:Int)=((k % n:Nat):Int):=by rw[h];rfl
theorem TU{p:Bool}{C B A:Prop}(h1:p=true->B->C)(h2:B):if p=true then C else(if false=true then A else B):=by
 cases p
 ·exact h2
 ·exact h1 rfl h2
theorem L9{r:Int}(h0:0<=r)(h1:r<26):∃c,atI (codes K1.tLET) r=some c/\c∈LET:=by obtain⟨c,h,m⟩:=at_of (xs:=codes K1.tLET) h0 (by rw[show codes K1.tLET=LET from K1.cLET];exact h1);rw[show codes K1.tLET=LET from K1.cLET]at m;exact⟨c,h,m⟩
theorem Su{α:Type}{xs:List α}{i:Int}{j:Nat}{v:α}(e:i=(j:Int))(h:xs[j]?=some v):atI xs i=some v:=by rw[e];exact Zv h
theorem NW{b:Addr}{H H1:Hp}{i:Nat}{ts:List Str}{c:Nat}(e:ts.length=i)(h:∀t∈ts,Bs 1 t)(hc:c∈LET):(ts++[(⟨#[c]⟩:Str)]).length=i+1/\∀t∈ts++[(⟨#[c]⟩:Str)],Bs 1 t:=by
 refine⟨by simp[e],λt ht=>?_⟩;rcases aN.mp ht with ht|ht
 ·exact h t ht
 ·rw[aU]at ht;subst ht;exact⟨rfl,λd hd=>by rw[aU.mp hd];exact hc⟩
theorem Rc:∀(ts:List Str),(∀t∈ts,Bs 1 t)->(ts.map (·.length)).sum=ts.length
|[],_=>rfl
|t::r,h=>by have h1:=(h t az).1;rw[ZN]at h1;rw[aI,fH,h1,Rc r λu hu=>h u (aq _ hu),aP];omega
theorem EG(a i:Nat):(wds.map V.str)[(a+i) % 8]?=some (.str (wds.getD ((a+i) % 8) "")):=by have:(a+i) % 8<wds.length:=Nat.mod_lt _ (by decide);rw[aD,bp,gE this];rfl
theorem EM(f i:Nat):(codes K1.tLET)[(f+5*i) % 26]?=some (sgn f i):=by have:(f+5*i) % 26<LET.length:=Nat.mod_lt _ (by decide);rw[show codes K1.tLET=LET from K1.cLET,sgn,bp,gE this];rfl
section
variable {P:Program}{w:World}{K:af}{mg:Str->Option Value}{base:Heap}
theorem ZU:FnScope [q_b,"_law_many","_law_letters","_law_way_here","_law_words","_law_at","_law_size_here","_law_base","_law_first","_law_signs"] [q_b,"_law_many"] (Ze T.f__law_names):=scO
noncomputable def Vf:Scope:=csx [(".0",.local),("_law_k",.local),("_law_at",.free),("_law_words",.free)]
theorem UQ:CompScope Vf (Ze T.f__law_names):=⟨rfl,by decide +kernel,by decide +kernel,by decide +kernel⟩
theorem US:(["_law_k","_law_at","_law_words"]:List Str).Nodup:=by decide +kernel
theorem UR:CompNames [q_b,"_law_many","_law_letters","_law_way_here","_law_words","_law_at","_law_size_here","_law_base","_law_first","_law_signs"] Vf ["_law_k","_law_at","_law_words"] [none,some 5,some 4]:=.mk' (by decide +kernel)
noncomputable def Ve:Scope:=csx [(".0",.local),("_law_k",.local),("_law_take",.globalImplicit),(q_b,.free),("_law_letters",.free)]
theorem UN:CompScope Ve (Ze T.f__law_names):=⟨rfl,by decide +kernel,by decide +kernel,by decide +kernel⟩
theorem UP:(["_law_k",q_b,"_law_letters"]:List Str).Nodup:=by decide +kernel
theorem UO:CompNames [q_b,"_law_many","_law_letters","_law_way_here","_law_words","_law_at","_law_size_here","_law_base","_law_first","_law_signs"] Ve ["_law_k",q_b,"_law_letters"] [none,some 0,some 2]:=.mk' (by decide +kernel)
noncomputable def Vd:Scope:=csx [(".0",.local),("_law_k",.local),("_law_base",.free),("_law_size_here",.free)]
theorem UK:CompScope Vd (Ze T.f__law_names):=⟨rfl,by decide +kernel,by decide +kernel,by decide +kernel⟩
theorem UM:(["_law_k","_law_base","_law_size_here"]:List Str).Nodup:=by decide +kernel
theorem UL:CompNames [q_b,"_law_many","_law_letters","_law_way_here","_law_words","_law_at","_law_size_here","_law_base","_law_first","_law_signs"] Vd ["_law_k","_law_base","_law_size_here"] [none,some 7,some 6]:=.mk' (by decide +kernel)
noncomputable def Vc:Scope:=csx [(".0",.local),("_law_k",.local),("_law_take",.globalImplicit),(q_b,.free),("_law_letters",.free)]
theorem UH:CompScope Vc (Ze T.f__law_names):=⟨rfl,by decide +kernel,by decide +kernel,by decide +kernel⟩
theorem UJ:(["_law_k",q_b,"_law_letters"]:List Str).Nodup:=by decide +kernel
theorem UI:CompNames [q_b,"_law_many","_law_letters","_law_way_here","_law_words","_law_at","_law_size_here","_law_base","_law_first","_law_signs"] Vc ["_law_k",q_b,"_law_letters"] [none,some 0,some 2]:=.mk' (by decide +kernel)
noncomputable def XX:Scope:=csx [(".0",.local),("_law_k",.local),("_law_first",.free),("_law_letters",.free)]
theorem UD:CompScope XX (Ze T.f__law_names):=⟨rfl,by decide +kernel,by decide +kernel,by decide +kernel⟩
theorem UG:(["_law_k","_law_first","_law_letters"]:List Str).Nodup:=by decide +kernel
theorem UE:CompNames [q_b,"_law_many","_law_letters","_law_way_here","_law_words","_law_at","_law_size_here","_law_base","_law_first","_law_signs"] XX ["_law_k","_law_first","_law_letters"] [none,some 8,some 2]:=.mk' (by decide +kernel)
noncomputable def Vb:Scope:=csx [(".0",.local),("_law_sign",.local),("_law_at",.free),("_law_base",.free)]
theorem UA:CompScope Vb (Ze T.f__law_names):=⟨rfl,by decide +kernel,by decide +kernel,by decide +kernel⟩
theorem UC:(["_law_sign","_law_at","_law_base"]:List Str).Nodup:=by decide +kernel
theorem UB:CompNames [q_b,"_law_many","_law_letters","_law_way_here","_law_words","_law_at","_law_size_here","_law_base","_law_first","_law_signs"] Vb ["_law_sign","_law_at","_law_base"] [none,some 5,some 7]:=.mk' (by decide +kernel)
theorem WU(B:∀x∈Blts,mg x=none)(CT:Can P w K mg base 1 "_law_take" [q_b,"_law_many"] Xr)(D:Df K mg "_law_names" T.f__law_names [q_b,"_law_many"]):Can P w K mg base 2 "_law_names" [q_b,"_law_many"] N6:=by
 refine D.cn ZU λf cdv A outer s H vs Q E hr h=>?_;obtain⟨b,n,rfl,hb,hn1,hn2,k⟩:=h;have hsz:n.toNat<=sizeLine:=Nat.le_trans (by omega:n.toNat<=1000) (by decide);refine⟨_,(Zd (Yx (i:=2) ZU.nd rfl (dX rfl) Zp) (Zd (st 3 ZU.nd (cn CT hr (Za (pv 0) (Za Zc Zh)))) (Zd (ZZ (PW.pt (Pm (ZD Jp (pv 3) Zc (ZC _)) (G3 (ZD Eo (pv 1) Zc (ZC _))))) (Zd (Yx (i:=4) ZU.nd rfl (dX rfl) (ZA (Za Zp (Za Zp (Za Zp (Za Zp (Za Zp (Za Zp (Za Zp (Za Zp Zh)))))))))) (Zd (Yx (i:=5) ZU.nd rfl (dX rfl) (cn CT hr (Za (pv 0) (Za Zc Zh)))) (Zj (Zn (YJ rfl UQ UR (Yg rfl (bm B) (Za (pv 1) Zh)) (λC s H ex pn=>(nmT 0 US)) (λC s H ex pn=>Z9) (λC s H ex pn=>(il K (pv 2) (Zw Jg (Zw ZX (pv 1) (pv 0)) Zc)))))))) Zx) (Zd (Yx (i:=6) ZU.nd rfl (dX rfl) (cn CT hr (Za (pv 0) (Za Zc Zh)))) (Zd (ZZ (PW.pt (Pm (ZD Jp (pv 3) Zc (ZC _)) (G3 (ZD Eo (pv 1) Zc (ZC _))))) (Zd (Yx (i:=7) ZU.nd rfl (dX rfl) (JW PySem.F.plainAttrs_str PySem.F.slot_str_join PySem.F.type_str_join To Zp (Za (YJ rfl UN UO (Yg rfl (bm B) (Za Zc Zh)) (λC s H ex pn=>(nmT 0 UP)) (λC s H ex pn=>Z9) (λC s H ex pn=>(Yj ME (pv 2) (cn CT hr (Za (pv 1) (Za Zc Zh))) (λ_ _=>rfl)))) Zh))) (Zj (Zn (YJ rfl UK UL (Yg rfl (bm B) (Za (pv 1) Zh)) (λC s H ex pn=>(nmT 0 UM)) (λC s H ex pn=>Z9) (λC s H ex pn=>(XM Rl (pv 1) Jz (Jy (Zw ZX Zc (Zw Jg (Zw ZX (pv 0) (pv 2)) Zc))))))))) Zx) (Zd (Yx (i:=5) ZU.nd rfl (dX rfl) (cn CT hr (Za (pv 0) (Za (Zw ZX (pv 6) Zc) Zh)))) (Zd (Yx (i:=7) ZU.nd rfl (dX rfl) (JW PySem.F.plainAttrs_str PySem.F.slot_str_join PySem.F.type_str_join To Zp (Za (YJ rfl UH UI (Yg rfl (bm B) (Za (pv 6) Zh)) (λC s H ex pn=>(nmT 0 UJ)) (λC s H ex pn=>Z9) (λC s H ex pn=>(Yj ME (pv 2) (cn CT hr (Za (pv 1) (Za Zc Zh))) (λ_ _=>rfl)))) Zh))) (Zd (Yx (i:=8) ZU.nd rfl (dX rfl) (cn CT hr (Za (pv 0) (Za Zc Zh)))) (Zd (Xg (i:=9) ZU.nd rfl (bh rfl) (scope:=XX) (N:=["_law_k","_law_first","_law_letters"]) (cp:=[none,some 8,some 2]) rfl UD UE (Yg rfl (bm B) (Za (pv 1) Zh)) (λC s H ex pn=>(nmT 0 UG)) (λC s H ex pn=>Z9) (λC s H ex pn=>(Yj ME (pv 2) (Zw Jg (Zw ZX (pv 1) (Zw Ga Zc (pv 0))) Zc) (λ_ _=>rfl)))) (Zj (Zn (YJ rfl UA UB (Ym (pv 9)) (λC s H ex pn=>(nmT 0 UC)) (λC s H ex pn=>Z9) (λC s H ex pn=>(Zw VT (Zw VT (XM Rl (pv 2) Jz (Jy (pv 1))) (pv 0)) (XM Rl (pv 2) (Jy (pv 1)) Jz))))))))))))))),?_⟩;refine tkC hb (λr H1 h0 h1 B1 S1=>?_);dsimp only[YI];refine tqr λD1 hk1 hr1=>?_;refine⟨_,rfl,rfl,_,rfl,?_⟩;refine TU (λe rest=>⟨_,rfl,_,_,rfl,rfl,_,rfl,ite2 (λe2=>?_) (λe2=>rest)⟩) ?_
 ·have hn9:n<9:=of_decide_eq_true e2;refine⟨zl,λl hl=>?_⟩;have nlb:=B1.ne hl;refine tkC (B1.new hl) (λr2 H2 h02 h12 B2 S2=>?_);have hw:H2 l=some (.lst (wds.map V.str)):=S2 _ _ Zb nlb;refine⟨_,rfl,n,rfl,by omega,by omega,ZY (J:=Itr 0 n.toNat) n.toNat hsz
   (λi ys τ H'=>H'=H2/\ys=(wdsFrom r2.toNat i).map V.str/\∃v,τ=[v,some (.int r2),some (.ref l)]) ⟨rfl,rfl,none,rfl⟩ (λi ys τ H' p=>?_) (λi ys τ H' hi p=>hi) (λys τ H' p=>Nat.le_refl _) (λi ys τ H' x' H3 hi p yl=>?_) (λys τ H' p q hq=>?_)⟩
  ·obtain⟨_,rfl,_⟩:=p;simp[wdsFrom]
  ·obtain⟨rfl,rfl,v,rfl⟩:=p;obtain⟨rfl,rfl⟩:=yl;refine⟨_,rfl,_,rfl,_,rfl,_,_,rfl,rfl,_,_,rfl,rfl,(by show(0:Int)<8;decide),l,_,_,_,rfl,rfl,SqL.of hw,Su (j:=(r2.toNat+i) % 8) (modN (n:=8) (by omega)) (EG _ _),rfl,?_,_,rfl⟩;simp[wdsFrom,eN]
  ·obtain⟨rfl,rfl,v,rfl⟩:=p;exact hr1 _ _ (k _ q _ (B2.new hq) (((S1.new' hl).trans S2).new' hq) Zb (B2.ne hq) (by simp[wdsFrom];omega) (EF _ (by omega) _ (by omega)) (Q6 _ _))
 ·refine hk1 _ _ ?_;refine tkC B1 (λsz H2 h02 h12 B2 S2=>?_);have S02:=S1.trans S2;dsimp only[YI];refine tqr λD2 hk2 hr2=>?_;refine⟨_,rfl,rfl,_,rfl,?_⟩;refine TU (λe rest=>⟨_,rfl,_,_,rfl,rfl,_,rfl,ite2 (λe2=>?_) (λe2=>rest)⟩) ?_
  ·have hn9:n<9:=of_decide_eq_true e2;refine⟨rfl,8,rfl,by decide,by decide,ZY (J:=Itr 0 8) 8 (by decide)
    (λi ys τ H'=>Zu H' b/\Zi b H H'/\(∃ts:List Str,ys=ts.map V.str/\ts.length=i/\∀t∈ts,Bs 1 t)/\∃v,τ=[v,some (.ref b),some (.str K1.tLET)]) ⟨B2,S02,⟨[],rfl,rfl,by simp⟩,none,rfl⟩ (λi ys τ H' p=>?_) (λi ys τ H' hi p=>hi) (λys τ H' p=>Nat.le_refl _) (λi ys τ H' x' H3 hi p yl=>?_) (λys τ H' p q hq=>?_)⟩
   ·obtain⟨_,_,⟨ts,rfl,e,_⟩,_⟩:=p;rw[lm,e];exact Nat.le_refl _
   ·obtain⟨bx,sm,⟨ts,rfl,e,ho⟩,v,rfl⟩:=p;obtain⟨rfl,rfl⟩:=yl;refine⟨_,rfl,tkC bx (λr4 H4 h04 h14 B4 S4=>?_)⟩;obtain⟨c,hat,hc⟩:=L9 h04 h14;obtain⟨g1,g2⟩:=NW (b:=b) (H:=H) (H1:=H) e ho hc;exact⟨_,r4,c,rfl,rfl,by decide +kernel,hat,B4,sm.trans S4,⟨ts++[⟨#[c]⟩],by rw[a8];rfl,g1,g2⟩,_,rfl⟩
   ·obtain⟨bx,sm,⟨ts,rfl,e,ho⟩,v,rfl⟩:=p;refine⟨_,q,ts,rfl,rfl,SqL.of Zb,by rw[Rc _ ho,e];decide,?_⟩;have hbs:=Bs.join ho;rw[e]at hbs;have hl8:(Txt.join Str.empty ts).length=8:=by rw[<-ZN];exact hbs.1
    refine⟨_,rfl,n,rfl,by omega,by omega,ZY (J:=Itr 0 n.toNat) n.toNat hsz
     (λi ys τ H3=>H3=upd H' q (.lst (ts.map V.str))/\ys=(begs (Txt.join Str.empty ts) sz.toNat i).map V.str/\∃v,τ=[v,some (.str (Txt.join Str.empty ts)),some (.int sz)]) ⟨rfl,rfl,none,rfl⟩ (λi ys τ H' p=>?_) (λi ys τ H' hi p=>hi) (λys τ H' p=>Nat.le_refl _) (λi ys τ H' x' H3 hi p yl=>?_) (λys τ H' p q2 hq2=>?_)⟩
    ·obtain⟨_,rfl,_⟩:=p;simp[begs]
    ·obtain⟨rfl,rfl,v,rfl⟩:=p;obtain⟨rfl,rfl⟩:=yl;refine⟨_,rfl,_,rfl,_,rfl,_,_,rfl,rfl,_,_,rfl,rfl,(by show(0:Int)<8;decide),_,_,rfl,rfl,_,rfl,_,rfl,by rw[hl8];decide,rfl,?_,_,rfl⟩;have e5:(1+(0+(i:Int)+sz) % 8)=((1+(i+sz.toNat) % 8:Nat):Int):=congrArg (1+·) (modN (k:=i+sz.toNat) (n:=8) (by omega));rw[e5];simp[begs,eN]
    ·obtain⟨rfl,rfl,v,rfl⟩:=p;exact hr2 _ _ (k _ q2 _ ((bx.new hq).new hq2) ((sm.new' hq).new' hq2) Zb ((bx.new hq).ne hq2) (by simp[begs];omega) (Ef hbs _ (by omega)) (Ee hbs _ _))
  ·refine hk2 _ _ ?_;refine⟨_,rfl,_,rfl,_,_,rfl,rfl,b,sz+1,rfl,B2,by omega,Yv (by omega) (by omega),λat_ H3 h03 h13 B3 S3=>?_⟩;have S03:=S02.trans S3;refine⟨rfl,_,rfl,sz,rfl,by omega,by omega,ZY (J:=Itr 0 sz.toNat) sz.toNat (Nat.le_trans (by omega:sz.toNat<=8) (by decide))
    (λi ys τ H'=>Zu H' b/\Zi b H H'/\(∃ts:List Str,ys=ts.map V.str/\ts.length=i/\∀t∈ts,Bs 1 t)/\∃v,τ=[v,some (.ref b),some (.str K1.tLET)]) ⟨B3,S03,⟨[],rfl,rfl,by simp⟩,none,rfl⟩ (λi ys τ H' p=>?_) (λi ys τ H' hi p=>hi) (λys τ H' p=>Nat.le_refl _) (λi ys τ H' x' H3 hi p yl=>?_) (λys τ H' p q hq=>?_)⟩
   ·obtain⟨_,_,⟨ts,rfl,e,_⟩,_⟩:=p;rw[lm,e];exact Nat.le_refl _
   ·obtain⟨bx,sm,⟨ts,rfl,e,ho⟩,v,rfl⟩:=p;obtain⟨rfl,rfl⟩:=yl;refine⟨_,rfl,tkC bx (λr4 H4 h04 h14 B4 S4=>?_)⟩;obtain⟨c,hat,hc⟩:=L9 h04 h14;obtain⟨g1,g2⟩:=NW (b:=b) (H:=H) (H1:=H) e ho hc;exact⟨_,r4,c,rfl,rfl,by decide +kernel,hat,B4,sm.trans S4,⟨ts++[⟨#[c]⟩],by rw[a8];rfl,g1,g2⟩,_,rfl⟩
   ·obtain⟨bx,sm,⟨ts,rfl,e,ho⟩,v,rfl⟩:=p;refine⟨_,q,ts,rfl,rfl,SqL.of Zb,?_,?_⟩
    ·rw[Rc _ ho,e];show sz.toNat+sz.toNat*0<=16777216;omega
    have hbs:=Bs.join ho;rw[e]at hbs;have hl8:(Txt.join Str.empty ts).length=sz.toNat:=by rw[<-ZN];exact hbs.1
    refine tkC (bx.new hq) (λfi H5 h05 h15 B5 S5=>?_);have S05:=(sm.new' hq).trans S5;refine⟨_,rfl,n,rfl,by omega,by omega,ZY (J:=Itr 0 n.toNat) n.toNat hsz
     (λi ys τ H'=>H'=H5/\ys=((aT i).map λk=>V.str ⟨#[sgn fi.toNat k]⟩)/\∃v,τ=[v,some (.int fi),some (.str K1.tLET)]) ⟨rfl,rfl,none,rfl⟩ (λi ys τ H' p=>?_) (λi ys τ H' hi p=>hi) (λys τ H' p=>Nat.le_refl _) (λi ys τ H' x' H3 hi p yl=>?_) (λys τ H' p q2 hq2=>?_)⟩
    ·obtain⟨_,rfl,_⟩:=p;simp
    ·obtain⟨rfl,rfl,v,rfl⟩:=p;obtain⟨rfl,rfl⟩:=yl;refine⟨_,rfl,_,rfl,_,rfl,_,_,rfl,rfl,.inl ⟨by decide,by decide⟩,_,_,rfl,rfl,_,_,rfl,rfl,(by show(0:Int)<26;decide),_,_,_,rfl,rfl,by decide +kernel,Su (j:=(fi.toNat+5*i) % 26) (modN (n:=26) (by omega)) (EM _ _),rfl,?_,_,rfl⟩;simp[eN]
    ·obtain⟨rfl,rfl,v,rfl⟩:=p;refine⟨_,rfl,q2,rfl,⟨_,SqL.of Zb⟩,?_⟩;generalize eH:upd H' q2 (.lst ((aT n.toNat).map λk=>V.str ⟨#[sgn fi.toNat k]⟩))=H6;have hq6:H6 q2=some (.lst ((aT n.toNat).map λk=>V.str ⟨#[sgn fi.toNat k]⟩)):=by rw[<-eH];exact Zb
     have B6:Zu H6 b:=by rw[<-eH];exact B5.new hq2
     have S06:Zi b H H6:=by rw[<-eH];exact S05.new' hq2
     refine ZY (J:=Itl K q2) n.toNat hsz (λi ys τ H'=>H'=H6/\ys=(puts (Txt.join Str.empty ts) at_.toNat fi.toNat i).map V.str/\∃v,τ=[v,some (.int at_),some (.str (Txt.join Str.empty ts))]) ⟨rfl,rfl,none,rfl⟩ (λi ys τ H' p=>?_) (λi ys τ H' hi p=>?_) (λys τ H' p=>?_) (λi ys τ H' x' H3 hi p yl=>?_) (λys τ H' p q3 hq3=>?_)
     ·obtain⟨_,rfl,_⟩:=p;simp[puts]
     ·obtain⟨rfl,_⟩:=p;exact⟨_,V.str ⟨#[sgn fi.toNat i]⟩,SqL.of hq6,by simp[hi]⟩
     ·obtain⟨rfl,_⟩:=p;exact⟨_,SqL.of hq6,by simp⟩
     ·obtain⟨rfl,rfl,v,rfl⟩:=p;obtain⟨rfl,hy⟩:=yl;have hx:x'=V.str ⟨#[sgn fi.toNat i]⟩:=by have:=hy _ (SqL.of hq6);simp[hi]at this;exact this.symm
      subst hx;have hbl:(Txt.join Str.empty ts).length<=8:=by omega
      have e1:=Txt.slice_le (Txt.join Str.empty ts) none (some at_);have e2:=Txt.slice_le (Txt.join Str.empty ts) (some at_) none;have z:(100:Nat)<=sizeLine:=by decide
      refine⟨_,rfl,_,rfl,_,rfl,_,rfl,by omega,_,rfl,_,_,rfl,rfl,?_,_,rfl,_,rfl,_,rfl,_,rfl,by omega,_,_,rfl,rfl,?_,rfl,?_,_,rfl⟩
      ·show _+1<=_;omega
      ·rw[Str.length_append];show _+1+_<=_;omega
      ·have e5:at_=((at_.toNat:Nat):Int):=by omega
       simp[puts,eN,put,<-e5]
     ·obtain⟨rfl,rfl,v,rfl⟩:=p;exact k _ q3 _ (B6.new hq3) (S06.new' hq3) Zb (B6.ne hq3) (by simp[puts];omega) (DH hbs (by omega) (by omega) (by omega)) (DG hbs (by omega) (by omega) _ _)
noncomputable abbrev Pl:=List (Str×Option Int)
noncomputable def Y0:Option Int->V
|none=>.non
|some i=>.int i
noncomputable def ZG(p:Str×Option Int):List V:=[.str p.1,Y0 p.2]
def RowsAt(b:Addr)(H:Hp)(l:Addr)(rows:List (List V)):Prop:=l≠b/\∃as:List Addr,H l=some (.lst (as.map V.ref))/\as.length=rows.length/\∀(i:Nat)a r,as[i]?=some a->rows[i]?=some r->a≠b/\H a=some (.tup r)
theorem RowsAt.same{b:Addr}{H H':Hp}{l:Addr}{rows:List (List V)}(s:Zi b H H')(h:RowsAt b H l rows):RowsAt b H' l rows:=by obtain⟨n,as,e,hl,r⟩:=h;exact⟨n,as,s _ _ e n,hl,λi a q h1 h2=>let ⟨x,y⟩:=r i a q h1 h2;⟨x,s _ _ y x⟩⟩
theorem RowsAt.at{b:Addr}{H:Hp}{l:Addr}{rows:List (List V)}(h:RowsAt b H l rows){i:Nat}{r:List V}(hr:rows[i]?=some r):∃a,a≠b/\H a=some (.tup r)/\∃as:List Addr,H l=some (.lst (as.map V.ref))/\as[i]?=some a/\as.length=rows.length:=by
 obtain⟨n,as,e,hl,q⟩:=h;have hi:i<as.length:=by rw[hl];exact(aw.mp hr).1
 obtain⟨x,y⟩:=q i as[i] r (gE hi) hr;exact⟨as[i],x,y,as,e,gE hi,hl⟩
theorem Zu.same_ne{H:Hp}{b q:Addr}{o:HO}(h:Zu H b)(n:q≠b):Zu (upd H q o) b:=by obtain⟨x,y,z,e⟩:=h;exact⟨x,y,z,by rw[Zg n.symm];exact e⟩
theorem Wi{b q:Addr}{H H4 H6:Hp}{o:HO}(s:Zi b H H6)(s4:Zi b H H4)(nqb:q≠b)(hq:H4 q=none):Zi b H (upd H6 q o):=λc u h hc=>by
 have:c≠q:=λz=>by rw[z]at h hc;rw[s4 _ _ h hc]at hq;cases hq
 rw[Zg this];exact s c u h hc
structure GoodPl(ps:Pl):Prop where
 lo:3<=ps.length
 hi:ps.length<=6
 nd:(ps.map (·.1)).Nodup
 nm:∀p∈ps,Nm p.1
 room:∀p∈ps,∀i,p.2=some i->0<=i/\i<=1000
 one:∃p∈ps,∃i,p.2=some i
 home:∃p∈ps,p.2=none
theorem zip_rows(ts:List Str)(ρ:List (Option Int)):((ts.map V.str).zip (ρ.map Y0)).map (λq=>[q.1,q.2])=(ts.zip ρ).map ZG:=by rw[List.zip_map,dB];rfl
theorem PQ{α β:Type}:∀(t0:List α)(ρ:List β)(s:α),t0.length=ρ.length->(t0++[s]).zip ρ=t0.zip ρ
|[],[],_,_=>rfl
|[],_::_,_,h=>by cases h
|_::_,[],_,h=>by cases h
|a::t,c::r,s,h=>by rw[hZ,dY,PQ t r s (by simpa using h),dY]
def P2:Sp:=λvs H Q _=>∃(b:Addr),vs=[.ref b]/\Zu H b/\∀H' q l s(ps:Pl),Zu H' b->Zi b H H'->H' q=some (.lst [.ref l,.str s])->q≠b->RowsAt b H' l (ps.map ZG)->GoodPl ps->Nm s->s∉ps.map (·.1)->Q (.ref q) H'
theorem QB{b:Addr}{H H':Hp}{l:Addr}{rows:List (List V)}(h:Dh H H' l rows)(hb:Zu H b):RowsAt b H' l rows:=by obtain⟨s,hl,as,e,len,n,r⟩:=h;exact⟨hb.ne hl,as,e,len,λi a q h1 h2=>⟨hb.ne (n a (aQ h1)),r i a q h1 h2⟩⟩
theorem Xe:FnScope [q_b,"_law_names_here","_law_rooms","_law_k"] [q_b] (Ze T.f__law_places):=scO
theorem RX(B:∀x∈Blts,mg x=none)(CT:Can P w K mg base 1 "_law_take" [q_b,"_law_many"] Xr)(CN:Can P w K mg base 2 "_law_names" [q_b,"_law_many"] N6)(CS:Can P w K mg base 2 "_law_size" [q_b] N5)(D:Df K mg "_law_places" T.f__law_places [q_b]):Can P w K mg base 3 "_law_places" [q_b] P2:=by
 refine D.cn Xe λf cdv A outer s H vs Q E hr h=>?_;obtain⟨b,rfl,hb,k⟩:=h;refine⟨_,(Zd (st 1 Xe.nd (cn CN hr (Za (pv 0) (Za (Zw ZX Zc (cn CT hr (Za (pv 0) (Za Zc Zh)))) Zh)))) (Zd (st 2 Xe.nd (ZA (Za (cn CS hr (Za (pv 0) Zh)) (Za (cn CS hr (Za (pv 0) Zh)) (Za Z4 Zh))))) (Zd (Yr aY rfl (Yg rfl (bm B) (Za (Zw JY (ZO (r:=rLen K) YR rfl (bm B) b6 (Za (pv 1) Zh)) Zc) Zh)) (nmT 3 Xe.nd) (Zj (ZF (JW aR cu cq XE (pv 2) (Za (il K (ZA (Za Z4 (Za (cn CS hr (Za (pv 0) Zh)) Zh))) (cn CT hr (Za (pv 0) (Za Zc Zh)))) Zh))))) (Zj (Zn (ZA (Za (Rv rfl rfl (bm B) rfl (bm B) (Za (pv 1) (Za (pv 2) Zh))) (Za (il K (pv 1) (En W9 Zc)) Zh)))))))),?_⟩;refine⟨_,rfl,tkC hb (λr H1 h0 h1 B1 S1=>?_)⟩;refine⟨_,_,rfl,rfl,b,4+r,rfl,B1,by omega,by omega,λH2 l ts B2 S2 hl nlb hlen hnd hnm=>?_⟩;refine⟨_,rfl,b,rfl,B2,λr3 H3 h03 h13 B3 S3=>?_⟩;refine⟨_,rfl,b,rfl,B3,λr4 H4 h04 h14 B4 S4=>?_⟩;refine⟨zl,λq hq=>?_⟩;have S04:=((S1.trans S2).trans S3).trans S4;have hl4:=S4 _ _ (S3 _ _ hl nlb) nlb;have nql:q≠l:=(Zf hl4 hq).symm;refine⟨_,rfl,l,_,rfl,.inl (SqL.of (by rw[Zg nql.symm];exact hl4)),_,_,rfl,rfl,r,?_,by omega,by omega,?_⟩
 ·have:((List.map V.str ts).length:Int)-4=r:=by rw[lm];omega
  exact congrArg (λx=>[V.int x]) this
 refine Vp (n:=r.toNat) (λi σ' H'=>Zu H' b/\Zi b H H'/\H' l=some (.lst (ts.map V.str))/\q≠b/\(∃ρ:List (Option Int),H' q=some (.lst (ρ.map Y0))/\ρ.length=3+i/\ρ[0]?=some (some r3)/\ρ[2]?=some none/\∀x∈ρ,∀j,x=some j->0<=j/\j<=1000)/\∃v,σ'=[some (.ref b),some (.ref l),some (.ref q),v]) ⟨B4.new hq,S04.new' hq,by rw[Zg nql.symm];exact hl4,B4.ne hq,⟨[some r3,some r4,none],Zb,rfl,rfl,rfl,?_⟩,none,rfl⟩ (λi σ' H' hi p=>?_) (λσ' H' p=>?_)
 ·intro x hx j e;subst e;simp only[au,Option.some.injEq,aG,or_false,reduceCtorEq]at hx;omega
 ·obtain⟨bx,sm,hl',nqb,⟨ρ,hq',len,z0,z2,ok⟩,v,rfl⟩:=p;refine⟨_,rfl,.inl ⟨rfl,_,SqL.of hq'⟩,_,rfl,b,rfl,bx,λr5 H5 h05 h15 B5 S5=>?_⟩;refine⟨zl,λq2 hq2=>?_⟩;have n2:=B5.ne hq2;refine tkC (B5.new hq2) (λr6 H6 h06 h16 B6 S6=>?_);have e6:H6 q2=some (.lst [.non,.int r5]):=S6 _ _ Zb n2;have hq6:H6 q=some (.lst (ρ.map Y0)):=S6 _ _ (by rw[Zg (Zf (S5 _ _ hq' nqb) hq2)];exact S5 _ _ hq' nqb) nqb;have hl6:H6 l=some (.lst (ts.map V.str)):=S6 _ _ (by rw[Zg (Zf (S5 _ _ hl' nlb) hq2)];exact S5 _ _ hl' nlb) nlb;have S06:Zi b H H6:=((sm.trans S5).new' hq2).trans S6;have hz:(ρ.map Y0).length<sizeLine:=by rw[lm,len];exact Nat.lt_of_lt_of_le (by omega:3+i<1000) (by decide)
  have fin:∀x:Option Int,(∀j,x=some j->0<=j/\j<=1000)->_:=λx hx=>(⟨B6.same_ne nqb,Wi S06 S04 nqb hq,by rw[Zg nql.symm];exact hl6,nqb,⟨ρ++[x],by rw[Zb,a8];rfl,by simp[len];omega,by rw[cZ (by omega)];exact z0,by rw[cZ (by omega)];exact z2,λy hy j e=>by
    rcases aN.mp hy with hy|hy
    ·exact ok y hy j e
    ·rw[aU]at hy;subst hy;exact hx j e⟩,_,rfl⟩:Zu (upd H6 q (.lst (ρ.map Y0++[Y0 x]))) b/\Zi b H (upd H6 q (.lst (ρ.map Y0++[Y0 x])))/\(upd H6 q (.lst (ρ.map Y0++[Y0 x]))) l=some (.lst (ts.map V.str))/\q≠b/\(∃ρ':List (Option Int),(upd H6 q (.lst (ρ.map Y0++[Y0 x]))) q=some (.lst (ρ'.map Y0))/\ρ'.length=3+(i+1)/\ρ'[0]?=some (some r3)/\ρ'[2]?=some none/\∀x∈ρ',∀j,x=some j->0<=j/\j<=1000)/\∃v',[some (.ref b),some (.ref l),some (.ref q),some (.int (0+i))]=[some (V.ref b),some (.ref l),some (.ref q),v'])
  have c6:r6=0\/r6=1:=by omega
  rcases c6 with rfl|rfl
  ·exact⟨q2,_,0,.non,rfl,rfl,SqL.of e6,Zv (j:=0) rfl,q,_,_,rfl,rfl,hq6,hz,fin none (λj e=>by cases e)⟩
  ·exact⟨q2,_,1,.int r5,rfl,rfl,SqL.of e6,Zv (j:=1) rfl,q,_,_,rfl,rfl,hq6,hz,fin (some r5) (λj e=>by cases e;exact⟨h05,h15⟩)⟩
 ·obtain⟨bx,sm,hl',nqb,⟨ρ,hq',len,z0,z2,ok⟩,v,rfl⟩:=p;refine⟨_,rfl,_,rfl,l,q,_,_,rfl,hl',hq',λH7 l7 L7=>?_⟩;have S7:Same H' H7:=L7.1;obtain⟨t0,s,rfl⟩:∃t0 s,ts=t0++[s]:=⟨_,_,(List.dropLast_concat_getLast (l:=ts) (by intro z;rw[z]at hlen;simp at hlen;omega)).symm⟩;have len0:t0.length=ρ.length:=by have:((t0++[s]).length:Int)=4+r:=hlen;rw[ax]at this;simp at this;omega
  refine⟨_,rfl,_,rfl,l,_,-1,.str s,rfl,rfl,SqL.of (S7 _ _ hl'),by rw[a8];exact Dd _ _,zl,λq8 hq8=>?_⟩;have B7:Zu H7 b:=bx.same S7;have R7:=QB L7 bx;rw[zip_rows,PQ t0 ρ s len0]at R7;have fst:(t0.zip ρ).map (·.1)=t0:=List.map_fst_zip (by omega);have nd0:=g8.mp hnd;refine k _ q8 l7 s (t0.zip ρ) (B7.new hq8) ((sm.trans (Zi.of S7)).new' hq8) Zb (B7.ne hq8) (R7.same ((Zi.refl b H7).new' hq8)) ?_ (hnm s (by simp)) ?_
  ·refine⟨by rw[bF];omega,by rw[bF];omega,by rw[fst];exact nd0.1,λp hp=>hnm _ (ba _ (dH hp).1),λp hp i e=>ok _ (dH hp).2 i e,?_,?_⟩
   ·have h3:0<t0.length:=by omega
    have h4:0<ρ.length:=by omega
    refine⟨(t0[0],ρ[0]),List.mem_iff_getElem.mpr ⟨0,by rw[bF];omega,by simp⟩,r3,?_⟩;rw[gE h4]at z0;exact ao z0
   ·have h3:2<t0.length:=by omega
    have h4:2<ρ.length:=by omega
    refine⟨(t0[2],ρ[2]),List.mem_iff_getElem.mpr ⟨2,by rw[bF];omega,by simp⟩,?_⟩;rw[gE h4]at z2;exact ao z2
  ·rw[fst];intro z;exact nd0.2.2 s z s (by simp) rfl
end
end WD
namespace L2
open PySem PySem.Spec PyProof.Rows
theorem Ub{X:Cx}{pos:Pos}{K:af}{es:List Expr}{k:Nat}{t:TGs}{n:Nat}(hK:X.K=K)(hc:X.calm=true)(h:PGs X es t)(hn:(c_ es X.env).length=n:=by rfl)(hst:(c_ es X.env).findIdx? (·.1)=none:=by rfl):PG X (.Tuple es k pos) (gTup K n t):=by subst hK;exact XJ hc h hn hst
end L2
namespace WD
open PySem L2 PySem.Spec PyProof.Rows TB
def N8:Sp:=λvs H Q _=>∃(b l:Addr)(ps:Pl),vs=[.ref b,.ref l]/\Zu H b/\RowsAt b H l (ps.map ZG)/\GoodPl ps/\∀H' q s g,Zu H' b->Zi b H H'->H' q=some (.tup [.str s,.str g])->q≠b->(∃i,(s,some i)∈ps)->(∃r,(g,r)∈ps)->s≠g->Q (.ref q) H'
theorem X4{α:Type}(p:α->Bool)(l:List α){i:Nat}{a:α}(h:l[i]?=some a):(l.take (i+1)).filter p=(l.take i).filter p++(if p a=true then[a]else[]):=by rw[bE,h,gS];simp only[Option.toList_some];cases hp:p a<;>simp[hp]
theorem Z5{ts:List Str}{r:Int}(h0:0<=r)(h1:r<(ts.length:Int)):∃t,atI (ts.map V.str) r=some (.str t)/\t∈ts:=by obtain⟨v,hv,hm⟩:=at_of (xs:=ts.map V.str) h0 (by rw[lm];exact h1);obtain⟨t,ht,rfl⟩:=av.mp hm;exact⟨t,hv,ht⟩
theorem Wf(r:Option Int):(!decide (Y0 r=.non))=r.isSome:=by cases r<;>rfl
theorem RowsAt.go{K:af}{b:Addr}{H:Hp}{l:Addr}{rows:List (List V)}(h:RowsAt b H l rows){i:Nat}(hi:i<rows.length):(Itl K l).go i H:=by obtain⟨n,as,e,hl,r⟩:=h;exact⟨_,.ref (as[i]'(by omega)),SqL.of e,by simp[hl,hi]⟩
theorem RowsAt.stop{K:af}{b:Addr}{H:Hp}{l:Addr}{rows:List (List V)}(h:RowsAt b H l rows):(Itl K l).stop rows.length H:=by obtain⟨n,as,e,hl,r⟩:=h;exact⟨_,SqL.of e,by simp[hl]⟩
theorem RowsAt.item{K:af}{b:Addr}{H:Hp}{l:Addr}{rows:List (List V)}(h:RowsAt b H l rows){i:Nat}{r:List V}(hr:rows[i]?=some r){x:V}{H':Hp}(y:(Itl K l).yld i H x H'):H'=H/\∃a,x=.ref a/\a≠b/\H a=some (.tup r):=by obtain⟨a,n,e,as,el,ea,len⟩:=h.at hr;obtain⟨rfl,q⟩:=y;have:=q _ (SqL.of el);rw[aD,ea]at this;exact⟨rfl,a,(ao this).symm,n,e⟩
section
variable {P:Program}{w:World}{K:af}{mg:Str->Option Value}{base:Heap}
theorem X8:FnScope [q_b,q_p,"_law_starts","_law_start","_law_goals"] [q_b,q_p] (Ze T.f__law_ends):=scO
noncomputable def Jj:Scope:=csx [(".0",.local),("_law_place",.local),("_law_room",.local)]
theorem GA:CompScope Jj (Ze T.f__law_ends):=⟨rfl,by decide +kernel,by decide +kernel,by decide +kernel⟩
theorem Jw:(["_law_place","_law_room"]:List Str).Nodup:=by decide +kernel
theorem GB:CompNames [q_b,q_p,"_law_starts","_law_start","_law_goals"] Jj ["_law_place","_law_room"] [none,none]:=.mk' (by decide +kernel)
noncomputable def Ji:Scope:=csx [(".0",.local),("_law_place",.local),("_law_room",.local),("_law_start",.free)]
theorem Gy:CompScope Ji (Ze T.f__law_ends):=⟨rfl,by decide +kernel,by decide +kernel,by decide +kernel⟩
theorem Jv:(["_law_place","_law_room","_law_start"]:List Str).Nodup:=by decide +kernel
theorem Gz:CompNames [q_b,q_p,"_law_starts","_law_start","_law_goals"] Ji ["_law_place","_law_room","_law_start"] [none,none,some 3]:=.mk' (by decide +kernel)
theorem WX(B:∀x∈Blts,mg x=none)(CT:Can P w K mg base 1 "_law_take" [q_b,"_law_many"] Xr)(D:Df K mg "_law_ends" T.f__law_ends [q_b,q_p]):Can P w K mg base 2 "_law_ends" [q_b,q_p] N8:=by
 refine D.cn X8 λf cdv A outer s H vs Q E hr h=>?_;obtain⟨b,l,ps,rfl,hb,hp,gp,k⟩:=h;have hpl:(ps.map ZG).length<=sizeLine:=Nat.le_trans (by rw[lm];have:=gp.hi;omega:(ps.map ZG).length<=1000) (by decide);refine⟨_,(Zd (Xg (i:=2) X8.nd rfl (bh rfl) (scope:=Jj) (N:=["_law_place","_law_room"]) (cp:=[none,none]) rfl GA GB (Ym (pv 1)) (λC s H ex pn=>(Ub (K:=K) (n:=2) rfl rfl (Zo (nmT 0 Jw) (Zo (nmT 1 Jw) Yn)))) (λC s H ex pn=>(G5 (ZD JC (pv 1) Z4 (ZC _)))) (λC s H ex pn=>(pv 0))) (Zd (Yx (i:=3) X8.nd rfl (dX rfl) (il K (pv 2) (cn CT hr (Za (pv 0) (Za (ZO (r:=rLen K) YR rfl (bm B) b6 (Za (pv 2) Zh)) Zh))))) (Zd (Xg (i:=4) X8.nd rfl (bh rfl) (scope:=Ji) (N:=["_law_place","_law_room","_law_start"]) (cp:=[none,none,some 3]) rfl Gy Gz (Ym (pv 1)) (λC s H ex pn=>(Ub (K:=K) (n:=2) rfl rfl (Zo (nmT 0 Jv) (Zo (nmT 1 Jv) Yn)))) (λC s H ex pn=>(G5 (ZD KU (pv 0) (pv 2) (ZC _)))) (λC s H ex pn=>(pv 0))) (Zj (Zn (Zt (Za (pv 3) (Za (il K (pv 4) (cn CT hr (Za (pv 0) (Za (ZO (r:=rLen K) YR rfl (bm B) b6 (Za (pv 4) Zh)) Zh)))) Zh)))))))),?_⟩;refine tq λD1 hk1=>?_;refine⟨_,rfl,l,rfl,⟨_,SqL.of hp.2.choose_spec.1⟩,?_⟩;refine Ma (J:=Itl K l) (ps.map ZG).length hpl (λi ys τ H'=>H'=H/\ys=((ps.take i).filter λp=>p.2.isSome).map (λp=>V.str p.1)/\∃v1 v2,τ=[v1,v2]) ⟨rfl,rfl,none,none,rfl⟩ (λi ys τ H' p=>?_) (λi ys τ H' hi p=>?_) (λys τ H' p=>?_) (λi ys τ H' x H2 hi p yl=>?_) (λys τ H0 p l1 hl1=>?_)
 ·obtain⟨_,rfl,_⟩:=p;rw[lm];exact Nat.le_trans (bQ _ _) (by rw[aB];omega)
 ·obtain⟨rfl,_⟩:=p;exact hp.go hi
 ·obtain⟨rfl,_⟩:=p;exact hp.stop
 ·obtain⟨rfl,rfl,v1,v2,rfl⟩:=p;have hi':i<ps.length:=by simpa using hi
  have e0:ps[i]?=some ps[i]:=gE hi';obtain⟨rfl,a,rfl,na,ha⟩:=hp.item (r:=ZG ps[i]) (by rw[aD,e0];rfl) yl;refine⟨a,_,rfl,SqT.of ha,rfl,_,_,rfl,_,_,rfl,rfl,_,rfl,rfl,_,rfl,?_⟩;rw[Wf];refine J2 (λe=>?_) (λe=>?_)
  ·refine⟨_,rfl,rfl,?_,_,_,rfl⟩;rw[X4 _ _ e0,if_pos e,a8];rfl
  ·refine⟨rfl,?_,_,_,rfl⟩;rw[X4 _ _ e0,if_neg (by rw[e];exact Bool.false_ne_true),bo]
 ·obtain⟨rfl,rfl,v1,v2,rfl⟩:=p;rw[lm,aO];generalize ess:(ps.filter λp=>p.2.isSome).map (·.1)=ss;have e1:(ps.filter λp=>p.2.isSome).map (λp=>V.str p.1)=ss.map V.str:=by rw[<-ess,dB];rfl
  rw[e1];have hss:∀t∈ss,∃i,(t,some i)∈ps:=λt ht=>by rw[<-ess]at ht;obtain⟨p,hp',rfl⟩:=av.mp ht;obtain⟨m1,m2⟩:=b9.mp hp';obtain⟨i,hi⟩:=dU.mp m2;exact⟨i,by rw[<-hi];exact m1⟩
  have hs0:0<ss.length:=by
   obtain⟨p,hp',i,hi⟩:=gp.one;have:p.1∈ss:=by rw[<-ess];exact av.mpr ⟨p,b9.mpr ⟨hp',by rw[hi];rfl⟩,rfl⟩
   exact fV this
  have hs6:ss.length<=6:=by rw[<-ess,lm];exact Nat.le_trans (bQ _ _) gp.hi
  have nl1:=hb.ne hl1;have B1:=hb.new (o:=.lst (ss.map V.str)) hl1;have S1:Zi b H0 (upd H0 l1 (.lst (ss.map V.str))):=(Zi.refl b H0).new' hl1;have el1:upd H0 l1 (.lst (ss.map V.str)) l1=some (.lst (ss.map V.str)):=Zb;generalize upd H0 l1 (.lst (ss.map V.str))=H1 at B1 S1 el1 ⊢;refine hk1 _ _ (tq λD2 hk2=>?_);refine⟨_,rfl,_,rfl,_,rfl,l1,_,rfl,.inl (SqL.of el1),b,_,rfl,B1,by rw[lm];omega,Yv (by omega) (by rw[lm];omega),λr H2 h02 h12 B2 S2=>?_⟩;rw[lm]at h12;obtain⟨st,hat,hst⟩:=Z5 h02 h12;refine⟨l1,_,r,_,rfl,rfl,SqL.of (S2 _ _ el1 nl1),hat,?_⟩;have hp2:=hp.same (S1.trans S2);have S02:=S1.trans S2;refine hk2 _ _ (tq λD3 hk3=>?_);refine⟨_,rfl,l,rfl,⟨_,SqL.of hp2.2.choose_spec.1⟩,?_⟩;refine Ma (J:=Itl K l) (ps.map ZG).length hpl (λi ys τ H'=>H'=H2/\ys=((ps.take i).filter λp=>!decide (p.1=st)).map (λp=>V.str p.1)/\∃v1 v2,τ=[v1,v2,some (.str st)]) ⟨rfl,rfl,none,none,rfl⟩ (λi ys τ H' p=>?_) (λi ys τ H' hi p=>?_) (λys τ H' p=>?_) (λi ys τ H' x H2 hi p yl=>?_) (λys τ H' p l3 hl3=>?_)
  ·obtain⟨_,rfl,_⟩:=p;rw[lm];exact Nat.le_trans (bQ _ _) (by rw[aB];omega)
  ·obtain⟨rfl,_⟩:=p;exact hp2.go hi
  ·obtain⟨rfl,_⟩:=p;exact hp2.stop
  ·obtain⟨rfl,rfl,v1,v2,rfl⟩:=p;have hi':i<ps.length:=by simpa using hi
   have e0:ps[i]?=some ps[i]:=gE hi';obtain⟨rfl,a,rfl,na,ha⟩:=hp2.item (r:=ZG ps[i]) (by rw[aD,e0];rfl) yl;refine⟨a,_,rfl,SqT.of ha,rfl,_,_,rfl,_,_,rfl,rfl,_,rfl,_,rfl,rfl,_,rfl,?_⟩;have ee:(!decide (V.str ps[i].1=V.str st))=!decide (ps[i].1=st):=by
    congr 1;by_cases z:ps[i].1=st
    ·rw[z];simp
    ·rw[decide_eq_false z,decide_eq_false (λq=>z (by cases q;rfl))]
   refine J2 (λe=>?_) (λe=>?_)
   ·have e':=ee.symm.trans e;refine⟨_,rfl,rfl,?_,_,_,rfl⟩;rw[X4 _ _ e0,if_pos e',a8];rfl
   ·have e':=ee.symm.trans e;refine⟨rfl,?_,_,_,rfl⟩;rw[X4 _ _ e0,if_neg (by rw[e'];exact Bool.false_ne_true),bo]
  ·obtain⟨rfl,rfl,v1,v2,rfl⟩:=p;rw[lm,aO];generalize egs:(ps.filter λp=>!decide (p.1=st)).map (·.1)=gs;have e3:(ps.filter λp=>!decide (p.1=st)).map (λp=>V.str p.1)=gs.map V.str:=by rw[<-egs,dB];rfl
   rw[e3];have hgs:∀t∈gs,st≠t/\∃r,(t,r)∈ps:=λt ht=>by rw[<-egs]at ht;obtain⟨p,hp',rfl⟩:=av.mp ht;obtain⟨m1,m2⟩:=b9.mp hp';exact⟨λz=>by simp[z]at m2,p.2,m1⟩
   have hg0:0<gs.length:=by
    have h3:=gp.lo;have nd:=gp.nd;by_cases z:ps[0].1=st
    ·have z1:ps[1].1≠st:=λq=>by
      have:(ps.map (·.1))[0]'(by simp;omega)=(ps.map (·.1))[1]'(by simp;omega):=by simp[z,q]
      exact absurd ((fO nd).mp this) (by decide)
     have:ps[1].1∈gs:=by rw[<-egs];exact av.mpr ⟨ps[1],b9.mpr ⟨aH _,by simp[z1]⟩,rfl⟩
     exact fV this
    ·have:ps[0].1∈gs:=by rw[<-egs];exact av.mpr ⟨ps[0],b9.mpr ⟨aH _,by simp[z]⟩,rfl⟩
     exact fV this
   have hg6:gs.length<=6:=by rw[<-egs,lm];exact Nat.le_trans (bQ _ _) gp.hi
   have nl3:=B2.ne hl3;have B3:=B2.new (o:=.lst (gs.map V.str)) hl3;have S3:Zi b H0 (upd H' l3 (.lst (gs.map V.str))):=S02.new' hl3;have el3:upd H' l3 (.lst (gs.map V.str)) l3=some (.lst (gs.map V.str)):=Zb;generalize upd H' l3 (.lst (gs.map V.str))=H3 at B3 S3 el3 ⊢;refine hk3 _ _ ?_;refine⟨_,rfl,_,rfl,_,rfl,_,rfl,l3,_,rfl,.inl (SqL.of el3),b,_,rfl,B3,by rw[lm];omega,Yv (by omega) (by rw[lm];omega),λr4 H4 h04 h14 B4 S4=>?_⟩;rw[lm]at h14;obtain⟨g,hat4,hg⟩:=Z5 h04 h14;refine⟨l3,_,r4,_,rfl,rfl,SqL.of (S4 _ _ el3 nl3),hat4,zl,λq hq=>?_⟩;exact k _ q st g (B4.new hq) ((S3.trans S4).new' hq) Zb (B4.ne hq) (hss st hst) (hgs g hg).2 (hgs g hg).1
structure Rd where
 nm:Str
 st:Str
 lv:Int
 gl:Str
 cm:Int
 se:Int
noncomputable def X9(r:Rd):List V:=[.str r.nm,.str r.st,.int r.lv,.str r.gl,.int r.cm,.int r.se]
structure Wy where
 nm:Str
 st:Str
 gl:Str
 lo:Int
 wi:Int
noncomputable def VZ(r:Wy):List V:=[.str r.nm,.str r.st,.str r.gl,.int r.lo,.int r.wi]
structure Gr where
 nm:Str
 pl:Str
 tu:Int
 ma:Int
noncomputable def grRow(r:Gr):List V:=[.str r.nm,.str r.pl,.int r.tu,.int r.ma]
structure Ends(ps:Pl)(s g:Str):Prop where
 st:∃i,(s,some i)∈ps
 gl:∃r,(g,r)∈ps
 ne:s≠g
structure GoodRd(n:Int)(ps:Pl)(r:Rd):Prop where
 ends:Ends ps r.st r.gl
 lv0:0<=r.lv
 lv1:r.lv<=n-1
 cm0:r.lv+1<=r.cm
 cm1:r.cm<=n
 se0:0<=r.se
 se1:r.se<=1000
structure GoodWy(ps:Pl)(r:Wy):Prop where
 ends:Ends ps r.st r.gl
 lo0:1<=r.lo
 lo1:r.lo<=50
 wi0:0<=r.wi
 wi1:r.wi<=1000
noncomputable def sufs:List Str:=["",".","..7",".b"]
structure GoodGr(n:Int)(ps:Pl)(base:Str)(r:Gr):Prop where
 nm:∃s∈sufs,r.nm=base++s
 pl:∃x,(r.pl,x)∈ps
 tu0:0<=r.tu
 tu1:r.tu<=n
 ma0:0<=r.ma
 ma1:r.ma<=5
def SO:Sp:=λvs H Q _=>∃(b l:Addr)(nm:Str)(n:Int)(ps:Pl),vs=[.ref b,.str nm,.int n,.ref l]/\Zu H b/\RowsAt b H l (ps.map ZG)/\GoodPl ps/\1<=n/\n<=50/\∀H' q(r:Rd),Zu H' b->Zi b H H'->H' q=some (.tup (X9 r))->q≠b->r.nm=nm->GoodRd n ps r->Q (.ref q) H'
def Km:Sp:=λvs H Q _=>∃(b l:Addr)(nm:Str)(ps:Pl),vs=[.ref b,.str nm,.ref l]/\Zu H b/\RowsAt b H l (ps.map ZG)/\GoodPl ps/\∀H' q(r:Wy),Zu H' b->Zi b H H'->H' q=some (.tup (VZ r))->q≠b->r.nm=nm->GoodWy ps r->Q (.ref q) H'
def P8:Sp:=λvs H Q _=>∃(b l:Addr)(nm:Str)(n:Int)(ps:Pl),vs=[.ref b,.str nm,.int n,.ref l]/\Zu H b/\nm.length<=1000/\RowsAt b H l (ps.map ZG)/\GoodPl ps/\1<=n/\n<=50/\∀H' q(r:Gr),Zu H' b->Zi b H H'->H' q=some (.tup (grRow r))->q≠b->GoodGr n ps nm r->Q (.ref q) H'
theorem Sr{c:Bool}{x y:Int}:atI [V.int x,.int y] (if c=true then 1 else 0)=some (.int (if c=true then y else x)):=by
 cases c
 ·exact Zv (j:=0) rfl
 ·exact Zv (j:=1) rfl
theorem UY{x y m:Int}(h1:x<=m)(h2:y<=m)(c:Bool):(if c=true then y else x)<=m:=by cases c<;>assumption
theorem UZ{x y m:Int}(h1:m<=x)(h2:m<=y)(c:Bool):m<=(if c=true then y else x):=by cases c<;>assumption
theorem X6:FnScope [q_b,"_law_name","_law_turns",q_p,"_law_start","_law_goal","_law_leave"] [q_b,"_law_name","_law_turns",q_p] (Ze T.f__law_ride):=scO
theorem WW(B:∀x∈Blts,mg x=none)(CT:Can P w K mg base 1 "_law_take" [q_b,"_law_many"] Xr)(CS:Can P w K mg base 2 "_law_size" [q_b] N5)(CE:Can P w K mg base 2 "_law_ends" [q_b,q_p] N8)(D:Df K mg "_law_ride" T.f__law_ride [q_b,"_law_name","_law_turns",q_p]):Can P w K mg base 3 "_law_ride" [q_b,"_law_name","_law_turns",q_p] SO:=by refine D.cn X6 λf cdv A outer s H vs Q E hr h=>?_;obtain⟨b,l,nm,n,ps,rfl,hb,hp,gp,hn1,hn2,k⟩:=h;refine⟨_,(Zd (VR (cn CE hr (Za (pv 0) (Za (pv 3) Zh))) (XJ rfl (Zo (nmT 4 X6.nd) (Zo (nmT 5 X6.nd) Yn)))) (Zd (st 6 X6.nd (cn CT hr (Za (pv 0) (Za (pv 2) Zh)))) (Zj (Zn (Zt (Za (pv 1) (Za (pv 4) (Za (pv 6) (Za (pv 5) (Za (Zw ZX (Zw ZX (pv 6) Zc) (cn CT hr (Za (pv 0) (Za (Zw JY (pv 2) (pv 6)) Zh)))) (Za (cn CS hr (Za (pv 0) Zh)) Zh))))))))))),?_⟩;refine⟨_,rfl,_,rfl,b,l,ps,rfl,hb,hp,gp,λH1 q st gl B1 S1 hq nq es eg ne=>?_⟩;refine⟨q,_,rfl,SqT.of hq,rfl,_,_,rfl,_,_,rfl,rfl,?_⟩;refine⟨_,rfl,_,rfl,b,n,rfl,B1,by omega,Yv (by omega) (by omega),λlv H2 h02 h12 B2 S2=>?_⟩;refine⟨_,rfl,_,rfl,_,rfl,_,rfl,_,rfl,_,_,rfl,rfl,_,rfl,_,rfl,_,rfl,_,_,rfl,rfl,b,n-lv,rfl,B2,by omega,Yv (by omega) (by omega),λd H3 h03 h13 B3 S3=>?_⟩;refine⟨_,_,rfl,rfl,_,rfl,b,rfl,B3,λse H4 h04 h14 B4 S4=>?_⟩;refine⟨zl,λq2 hq2=>?_⟩;exact k _ q2 ⟨nm,st,lv,gl,lv+1+d,se⟩ (B4.new hq2) ((((S1.trans S2).trans S3).trans S4).new' hq2) Zb (B4.ne hq2) rfl ⟨⟨es,eg,ne⟩,h02,by show lv<=n-1;omega,by show lv+1<=lv+1+d;omega,by show lv+1+d<=n;omega,h04,h14⟩
theorem VM:FnScope [q_b,"_law_name",q_p,"_law_start","_law_goal"] [q_b,"_law_name",q_p] (Ze T.f__law_way):=scO
theorem LV(B:∀x∈Blts,mg x=none)(CT:Can P w K mg base 1 "_law_take" [q_b,"_law_many"] Xr)(CS:Can P w K mg base 2 "_law_size" [q_b] N5)(CE:Can P w K mg base 2 "_law_ends" [q_b,q_p] N8)(D:Df K mg "_law_way" T.f__law_way [q_b,"_law_name",q_p]):Can P w K mg base 3 "_law_way" [q_b,"_law_name",q_p] Km:=by
 refine D.cn VM λf cdv A outer s H vs Q E hr h=>?_;obtain⟨b,l,nm,ps,rfl,hb,hp,gp,k⟩:=h;refine⟨_,(Zd (VR (cn CE hr (Za (pv 0) (Za (pv 2) Zh))) (XJ rfl (Zo (nmT 3 VM.nd) (Zo (nmT 4 VM.nd) Yn)))) (Zj (Zn (Zt (Za (pv 1) (Za (pv 3) (Za (pv 4) (Za (Zw ZX Zc (cn CT hr (Za (pv 0) (Za (il K (ZA (Za Zc (Za Zc Zh))) (Z7 GF rfl (bm B) MS (Za (YC Jp (cn CT hr (Za (pv 0) (Za Zc Zh))) Zc (ZC _)) Zh))) Zh)))) (Za (cn CS hr (Za (pv 0) Zh)) Zh))))))))),?_⟩;refine⟨_,rfl,_,rfl,b,l,ps,rfl,hb,hp,gp,λH1 q st gl B1 S1 hq nq es eg ne=>?_⟩;refine⟨q,_,rfl,SqT.of hq,rfl,_,_,rfl,_,_,rfl,rfl,?_⟩;refine⟨_,rfl,_,rfl,_,rfl,_,rfl,zl,λl2 hl2=>?_⟩;have n2:=B1.ne hl2;refine tkC (B1.new hl2) (λr2 H2 h02 h12 B2 S2=>?_);have el2:=S2 _ _ Zb n2;have S02:=(S1.new' (o:=.lst [.int 3,.int 50]) hl2).trans S2;refine⟨rfl,.inr ⟨_,rfl,l2,_,_,_,rfl,rfl,SqL.of el2,Sr,b,_,rfl,B2,?_,?_,λlo H3 h03 h13 B3 S3=>?_⟩⟩
 ·exact Int.lt_of_lt_of_le (by decide:(0:Int)<3) (UZ (by decide) (by decide) _)
 ·exact Yv (Int.le_trans (by decide:(0:Int)<=3) (UZ (by decide) (by decide) _)) (UY (by decide) (by decide) _)
 ·have h50:lo<50:=Int.lt_of_lt_of_le h13 (UY (by decide) (by decide) _);refine⟨_,_,rfl,rfl,_,rfl,b,rfl,B3,λwi H4 h04 h14 B4 S4=>?_⟩;refine⟨zl,λq2 hq2=>?_⟩;exact k _ q2 ⟨nm,st,gl,1+lo,wi⟩ (B4.new hq2) (((S02.trans S3).trans S4).new' hq2) Zb (B4.ne hq2) rfl ⟨⟨es,eg,ne⟩,by show 1<=1+lo;omega,by show 1+lo<=50;omega,h04,h14⟩
theorem Jx:FnScope [q_b,"_law_name","_law_turns",q_p,"_law_place"] [q_b,"_law_name","_law_turns",q_p] (Ze T.f__law_group):=scO
theorem R4(B:∀x∈Blts,mg x=none)(CT:Can P w K mg base 1 "_law_take" [q_b,"_law_many"] Xr)(D:Df K mg "_law_group" T.f__law_group [q_b,"_law_name","_law_turns",q_p]):Can P w K mg base 2 "_law_group" [q_b,"_law_name","_law_turns",q_p] P8:=by
 refine D.cn Jx λf cdv A outer s H vs Q E hr h=>?_;obtain⟨b,l,nm,n,ps,rfl,hb,hnl,hp,gp,hn1,hn2,k⟩:=h;refine⟨_,(Zd (st 1 Jx.nd (Zw VT (pv 1) (il K (ZA (Za Zp (Za Zp (Za Zp (Za Zp Zh))))) (cn CT hr (Za (pv 0) (Za Zc Zh)))))) (Zd (st 4 Jx.nd (it K (il K (pv 3) (cn CT hr (Za (pv 0) (Za (ZO (r:=rLen K) YR rfl (bm B) b6 (Za (pv 3) Zh)) Zh)))) Zc)) (Zj (Zn (Zt (Za (pv 1) (Za (pv 4) (Za (cn CT hr (Za (pv 0) (Za (Zw ZX (pv 2) Zc) Zh))) (Za (cn CT hr (Za (pv 0) (Za Zc Zh))) Zh))))))))),?_⟩;refine⟨_,rfl,zl,λl2 hl2=>?_⟩;have n2:=hb.ne hl2;refine tkC (hb.new hl2) (λr2 H2 h02 h12 B2 S2=>?_);have el2:=S2 _ _ Zb n2;have S02:=((Zi.refl b H).new' (o:=.lst (sufs.map V.str)) hl2).trans S2;obtain⟨sf,hat,hsf⟩:=Z5 (ts:=sufs) h02 h12;have hsl:sf.length<=3:=(by decide +kernel:∀t∈sufs,t.length<=3) sf hsf;refine⟨l2,_,r2,_,rfl,rfl,SqL.of el2,hat,_,_,rfl,rfl,Nat.le_trans (by omega:nm.length+sf.length<=2000) (by decide),?_⟩;have hp2:=hp.same S02;have hp2':=hp2;obtain⟨nlb,as,el,len,rws⟩:=hp2';have len':as.length=ps.length:=by rw[len,lm]
 have h36:3<=ps.length/\ps.length<=6:=⟨gp.lo,gp.hi⟩;refine⟨_,rfl,_,rfl,_,rfl,l,_,rfl,.inl (SqL.of el),b,_,rfl,B2,by rw[lm];omega,Yv (by omega) (by rw[lm];omega),λr3 H3 h03 h13 B3 S3=>?_⟩;rw[lm]at h13;have hi:r3.toNat<ps.length:=by omega
 obtain⟨a,na,ha,as',el',ea,len2⟩:=(hp2.same S3).at (i:=r3.toNat) (r:=ZG ps[r3.toNat]) (by rw[aD,gE hi];rfl);refine⟨l,_,r3,.ref a,rfl,rfl,SqL.of el',Su (j:=r3.toNat) (by omega) (by rw[aD,ea];rfl),a,_,0,_,rfl,rfl,SqT.of ha,Zv (j:=0) rfl,?_⟩;refine⟨_,rfl,_,rfl,_,rfl,_,rfl,_,_,rfl,rfl,b,n+1,rfl,B3,by omega,Yv (by omega) (by omega),λtu H4 h04 h14 B4 S4=>?_⟩;refine tkC B4 (λma H5 h05 h15 B5 S5=>?_);refine⟨zl,λq hq=>?_⟩;exact k _ q ⟨nm++sf,ps[r3.toNat].1,tu,ma⟩ (B5.new hq) ((((S02.trans S3).trans S4).trans S5).new' hq) Zb (B5.ne hq) ⟨⟨sf,hsf,rfl⟩,⟨ps[r3.toNat].2,aH hi⟩,h04,by show tu<=n;omega,h05,by show ma<=5;omega⟩
structure Wd where
 n:Int
 ps:Pl
 rs:List Rd
 ws:List Wy
 gs:List Gr
structure Names(ts:List Str)(s:Str):Prop where
 nd:ts.Nodup
 nm:∀t∈ts,Nm t
 len:ts.length<=12
 snm:Nm s
 s:s∉ts
structure GoodW(W:Wd)(bs:List Str):Prop where
 n0:1<=W.n
 n1:W.n<=50
 pl:GoodPl W.ps
 rd:∀r∈W.rs,GoodRd W.n W.ps r
 wy:∀r∈W.ws,GoodWy W.ps r
 len:W.gs.length=bs.length
 gr:∀(i:Nat)b g,bs[i]?=some b->W.gs[i]?=some g->GoodGr W.n W.ps b g
structure Strange(W:Wd)(bs:List Str)(s0 s1 s2 s3:Str):Prop where
 p:Nm s0/\s0∉W.ps.map (·.1)
 r:Names (W.rs.map (·.nm)) s1
 w:Names (W.ws.map (·.nm)) s2
 g:Names bs s3
structure WorldAt(b:Addr)(H:Hp)(p:Addr)(W:Wd)(l1 l2 l3 l4:Addr):Prop where
 ne:p≠b
 at_:H p=some (.lst [.int W.n,.ref l1,.ref l2,.ref l3,.ref l4])
 pl:RowsAt b H l1 (W.ps.map ZG)
 rd:RowsAt b H l2 (W.rs.map X9)
 wy:RowsAt b H l3 (W.ws.map VZ)
 gr:RowsAt b H l4 (W.gs.map grRow)
def SG:Sp:=λvs H Q _=>∃(b:Addr),vs=[.ref b]/\Zu H b/\∀H' q p st l1 l2 l3 l4(W:Wd)(bs:List Str)(s0 s1 s2 s3:Str),Zu H' b->Zi b H H'->q≠b->H' q=some (.lst [.ref p,.ref st])->st≠b->H' st=some (.lst [.str s0,.str s1,.str s2,.str s3])->WorldAt b H' p W l1 l2 l3 l4->GoodW W bs->Strange W bs s0 s1 s2 s3->Q (.ref q) H'
def Me(b:Addr)(H:Hp)(l:Addr)(ts:List Str):Prop:=l≠b/\H l=some (.lst (ts.map V.str))/\1<=ts.length/\ts.length<=13/\ts.Nodup/\∀t∈ts,Nm t
theorem Me.same{b:Addr}{H H':Hp}{l:Addr}{ts:List Str}(s:Zi b H H')(h:Me b H l ts):Me b H' l ts:=⟨h.1,s _ _ h.2.1 h.1,h.2.2⟩
theorem cut1(xs:List V)(h:1<=xs.length):cutV xs (some 1) none=xs.drop 1:=by
 have e:HT.sIx xs.length 0 (some 1)=1:=by simp[HT.sIx];omega
 have e2:HT.sIx xs.length xs.length none=xs.length:=by simp[HT.sIx]
 unfold cutV;rw[e,e2,aV (by rw[hV];exact Nat.le_refl _)]
theorem Names.of{ts:List Str}{s:Str}(h1:(s::ts).length<=13)(h2:(s::ts).Nodup)(h3:∀t∈s::ts,Nm t):Names ts s:=by rw[cF]at h2;exact⟨h2.2,λt ht=>h3 t (aq _ ht),by simp at h1;omega,h3 s az,h2.1⟩
def Made{R:Type}(b:Addr)(H:Hp)(row:R->List V)(G:Str->R->Prop)(tl:List Str)(i:Nat)(ys:List V):Prop:=∃(as:List Addr)(rs:List R),ys=as.map V.ref/\as.length=i/\rs.length=i/\(∀(j:Nat)a r,as[j]?=some a->rs[j]?=some r->a≠b/\H a=some (.tup (row r)))/\∀(j:Nat)r t,rs[j]?=some r->tl[j]?=some t->G t r
theorem Made.nil{R:Type}{b:Addr}{H:Hp}{row:R->List V}{G:Str->R->Prop}{tl:List Str}:Made b H row G tl 0 []:=⟨[],[],rfl,rfl,rfl,λj a r h=>by simp at h,λj r t h=>by simp at h⟩
theorem Made.len{R:Type}{b:Addr}{H:Hp}{row:R->List V}{G:Str->R->Prop}{tl:List Str}{i:Nat}{ys:List V}(m:Made b H row G tl i ys):ys.length<=i:=by obtain⟨as,rs,rfl,l1,_⟩:=m;rw[lm,l1];exact Nat.le_refl _
theorem G1{α:Type}{l:List α}{x y:α}{j i:Nat}(hl:l.length=i)(h:(l++[x])[j]?=some y):l[j]?=some y\/(j=i/\x=y):=by
 rcases Nat.lt_or_ge j l.length with h1|h1
 ·rw[cZ h1]at h;exact .inl h
 ·rw[fo h1]at h;rcases Nat.eq_zero_or_pos (j-l.length)with h2|h2
  ·rw[h2]at h;exact .inr ⟨by omega,by simpa using h⟩
  ·rw[dI (by simp;omega)]at h;cases h
theorem Made.step{R:Type}{b:Addr}{H H2:Hp}{row:R->List V}{G:Str->R->Prop}{tl:List Str}{i:Nat}{ys:List V}{a:Addr}{r:R}{t:Str}(m:Made b H row G tl i ys)(s:Zi b H H2)(na:a≠b)(ha:H2 a=some (.tup (row r)))(ht:tl[i]?=some t)(g:G t r):Made b H2 row G tl (i+1) (ys++[.ref a]):=by
 obtain⟨as,rs,rfl,l1,l2,r1,r2⟩:=m;refine⟨as++[a],rs++[r],by simp,by simp[l1],by simp[l2],λj a' r' h1 h2=>?_,λj r' t' h1 h2=>?_⟩
 ·rcases G1 l1 h1 with h1|⟨e,rfl⟩
  ·have hj:j<i:=by rw[<-l1];exact(aw.mp h1).1
   rcases G1 l2 h2 with h2|⟨e,rfl⟩
   ·obtain⟨n,e⟩:=r1 j a' r' h1 h2;exact⟨n,s _ _ e n⟩
   ·omega
  ·rcases G1 l2 h2 with h2|⟨e,rfl⟩
   ·have hj:j<i:=by rw[<-l2];exact(aw.mp h2).1
    omega
   ·exact⟨na,ha⟩
 ·rcases G1 l2 h1 with h1|⟨e,rfl⟩
  ·exact r2 j r' t' h1 h2
  ·rw[e,ht]at h2;cases h2;exact g
theorem Made.done{R:Type}{b:Addr}{H:Hp}{row:R->List V}{G:Str->R->Prop}{tl:List Str}{ys:List V}(m:Made b H row G tl tl.length ys){l:Addr}(hb:Zu H b)(hl:H l=none):∃rs:List R,RowsAt b (upd H l (.lst ys)) l (rs.map row)/\rs.length=tl.length/\∀(j:Nat)r t,rs[j]?=some r->tl[j]?=some t->G t r:=by obtain⟨as,rs,rfl,l1,l2,r1,r2⟩:=m;refine⟨rs,⟨hb.ne hl,as,Zb,by rw[lm,l1,l2],λi a r h1 h2=>?_⟩,l2,r2⟩;rw[aD]at h2;obtain⟨r',h2',rfl⟩:=a_.mp h2;obtain⟨n,e⟩:=r1 i a r' h1 h2';exact⟨n,by rw[Zg (Zf e hl)];exact e⟩
theorem Rf{K:af}{H:Hp}{l:Addr}{ts:List Str}(h:H l=some (.lst (ts.map V.str))){i:Nat}(hi:i<ts.length):(Itl K l).go i H:=⟨_,.str ts[i],SqL.of h,by simp[hi]⟩
theorem Mj{K:af}{H:Hp}{l:Addr}{ts:List Str}(h:H l=some (.lst (ts.map V.str))):(Itl K l).stop ts.length H:=⟨_,SqL.of h,by simp⟩
theorem Ml{K:af}{H H':Hp}{l:Addr}{ts:List Str}(h:H l=some (.lst (ts.map V.str))){i:Nat}{x:V}(hi:i<ts.length)(y:(Itl K l).yld i H x H'):H'=H/\x=.str ts[i]:=by obtain⟨rfl,q⟩:=y;have:=q _ (SqL.of h);rw[aD,gE hi]at this;exact⟨rfl,(ao this).symm⟩
theorem Yp:FnScope [q_b,"_law_turns",q_p,q_s,"_law_names_here","_law_rides","_law_ways","_law_groups"] [q_b] (Ze T.f__law_world):=scO
noncomputable def XW:Scope:=csx [(".0",.local),("_law_k",.local),("_law_names",.globalImplicit),("_law_take",.globalImplicit),("int",.globalImplicit),(q_b,.free)]
theorem Ux:CompScope XW (Ze T.f__law_world):=⟨rfl,by decide +kernel,by decide +kernel,by decide +kernel⟩
theorem Uz:(["_law_k",q_b]:List Str).Nodup:=by decide +kernel
theorem Uy:CompNames [q_b,"_law_turns",q_p,q_s,"_law_names_here","_law_rides","_law_ways","_law_groups"] XW ["_law_k",q_b] [none,some 0]:=.mk' (by decide +kernel)
noncomputable def XU:Scope:=csx [(".0",.local),("_law_name",.local),("_law_ride",.globalImplicit),(q_b,.free),(q_p,.free),("_law_turns",.free)]
theorem Uu:CompScope XU (Ze T.f__law_world):=⟨rfl,by decide +kernel,by decide +kernel,by decide +kernel⟩
theorem Uw:(["_law_name",q_b,q_p,"_law_turns"]:List Str).Nodup:=by decide +kernel
theorem Uv:CompNames [q_b,"_law_turns",q_p,q_s,"_law_names_here","_law_rides","_law_ways","_law_groups"] XU ["_law_name",q_b,q_p,"_law_turns"] [none,some 0,some 2,some 1]:=.mk' (by decide +kernel)
noncomputable def XS:Scope:=csx [(".0",.local),("_law_name",.local),("_law_way",.globalImplicit),(q_b,.free),(q_p,.free)]
theorem Ur:CompScope XS (Ze T.f__law_world):=⟨rfl,by decide +kernel,by decide +kernel,by decide +kernel⟩
theorem Ut:(["_law_name",q_b,q_p]:List Str).Nodup:=by decide +kernel
theorem Us:CompNames [q_b,"_law_turns",q_p,q_s,"_law_names_here","_law_rides","_law_ways","_law_groups"] XS ["_law_name",q_b,q_p] [none,some 0,some 2]:=.mk' (by decide +kernel)
noncomputable def XQ:Scope:=csx [(".0",.local),("_law_name",.local),("_law_group",.globalImplicit),(q_b,.free),(q_p,.free),("_law_turns",.free)]
theorem Uo:CompScope XQ (Ze T.f__law_world):=⟨rfl,by decide +kernel,by decide +kernel,by decide +kernel⟩
theorem Uq:(["_law_name",q_b,q_p,"_law_turns"]:List Str).Nodup:=by decide +kernel
theorem Up:CompNames [q_b,"_law_turns",q_p,q_s,"_law_names_here","_law_rides","_law_ways","_law_groups"] XQ ["_law_name",q_b,q_p,"_law_turns"] [none,some 0,some 2,some 1]:=.mk' (by decide +kernel)
theorem WK(B:∀x∈Blts,mg x=none)(CT:Can P w K mg base 1 "_law_take" [q_b,"_law_many"] Xr)(CN:Can P w K mg base 2 "_law_names" [q_b,"_law_many"] N6)(CP:Can P w K mg base 3 "_law_places" [q_b] P2)(CR:Can P w K mg base 3 "_law_ride" [q_b,"_law_name","_law_turns",q_p] SO)(CW:Can P w K mg base 3 "_law_way" [q_b,"_law_name",q_p] Km)(CG:Can P w K mg base 2 "_law_group" [q_b,"_law_name","_law_turns",q_p] P8)(D:Df K mg "_law_world" T.f__law_world [q_b]):Can P w K mg base 4 "_law_world" [q_b] SG:=by
 refine D.cn Yp λf cdv A outer s H vs Q E hr h=>?_;obtain⟨b,rfl,hb,k⟩:=h;refine⟨_,(Zd (Yx (i:=1) Yp.nd rfl (dX rfl) (Zw ZX Zc (cn CT hr (Za (pv 0) (Za (il K (ZA (Za Zc (Za Zc Zh))) (Z7 GF rfl (bm B) MS (Za (YC Jp (cn CT hr (Za (pv 0) (Za Zc Zh))) Zc (ZC _)) Zh))) Zh))))) (Zd (VR (cn CP hr (Za (pv 0) Zh)) (Rt rfl (Zo (JA (i:=2) Yp.nd rfl (dX rfl)) (Zo (nmT 3 Yp.nd) Yn)))) (Zd (Xg (i:=4) Yp.nd rfl (bh rfl) (scope:=XW) (N:=["_law_k",q_b]) (cp:=[none,some 0]) rfl Ux Uy (Yg rfl (bm B) (Za Zc Zh)) (λC s H ex pn=>(nmT 0 Uz)) (λC s H ex pn=>Z9) (λC s H ex pn=>(cn CN hr (Za (pv 1) (Za (Zw ZX Zc (cn CT hr (Za (pv 1) (Za (il K (ZA (Za Zc (Za Zc Zh))) (Z7 GF rfl (bm B) MS (Za (YC Jp (cn CT hr (Za (pv 1) (Za Zc Zh))) Zc (ZC _)) Zh))) Zh)))) Zh))))) (Zd (Xg (i:=5) Yp.nd rfl (bh rfl) (scope:=XU) (N:=["_law_name",q_b,q_p,"_law_turns"]) (cp:=[none,some 0,some 2,some 1]) rfl Uu Uv (Ym (XM (r:=rSlL K) G2 (il K (pv 4) Zc) (Jy Zc) Jz)) (λC s H ex pn=>(nmT 0 Uw)) (λC s H ex pn=>Z9) (λC s H ex pn=>(cn CR hr (Za (pv 1) (Za (pv 0) (Za (pv 3) (Za (pv 2) Zh))))))) (Zd (Xg (i:=6) Yp.nd rfl (bh rfl) (scope:=XS) (N:=["_law_name",q_b,q_p]) (cp:=[none,some 0,some 2]) rfl Ur Us (Ym (XM (r:=rSlL K) G2 (il K (pv 4) Zc) (Jy Zc) Jz)) (λC s H ex pn=>(nmT 0 Ut)) (λC s H ex pn=>Z9) (λC s H ex pn=>(cn CW hr (Za (pv 1) (Za (pv 0) (Za (pv 2) Zh)))))) (Zd (Xg (i:=7) Yp.nd rfl (bh rfl) (scope:=XQ) (N:=["_law_name",q_b,q_p,"_law_turns"]) (cp:=[none,some 0,some 2,some 1]) rfl Uo Up (Ym (XM (r:=rSlL K) G2 (il K (pv 4) Zc) (Jy Zc) Jz)) (λC s H ex pn=>(nmT 0 Uq)) (λC s H ex pn=>Z9) (λC s H ex pn=>(cn CG hr (Za (pv 1) (Za (pv 0) (Za (pv 3) (Za (pv 2) Zh))))))) (Zj (Zn (ZA (Za (ZA (Za (pv 1) (Za (pv 2) (Za (pv 5) (Za (pv 6) (Za (pv 7) Zh)))))) (Za (ZA (Za (pv 3) (Za (il K (il K (pv 4) Zc) Zc) (Za (il K (il K (pv 4) Zc) Zc) (Za (il K (il K (pv 4) Zc) Zc) Zh))))) Zh))))))))))),?_⟩;refine tq λD1 hk1=>?_;refine⟨_,rfl,zl,λl2 hl2=>?_⟩;have n2:=hb.ne hl2;refine tkC (hb.new hl2) (λr2 H2 h02 h12 B2 S2=>?_);have el2:=S2 _ _ Zb n2;have S02:=((Zi.refl b H).new' (o:=.lst [.int 6,.int 50]) hl2).trans S2;refine⟨rfl,.inr ⟨_,rfl,l2,_,_,_,rfl,rfl,SqL.of el2,Sr,b,_,rfl,B2,?_,?_,λtu H3 h03 h13 B3 S3=>?_⟩⟩
 ·exact Int.lt_of_lt_of_le (by decide:(0:Int)<6) (UZ (by decide) (by decide) _)
 ·exact Yv (Int.le_trans (by decide:(0:Int)<=6) (UZ (by decide) (by decide) _)) (UY (by decide) (by decide) _)
 have h50:tu<50:=Int.lt_of_lt_of_le h13 (UY (by decide) (by decide) _);clear h13;refine⟨_,_,rfl,rfl,?_⟩;have S03:=S02.trans S3;clear S02 S2 S3 el2 hl2;have hn1:1<=(1+tu):=by omega
 have hn2:(1+tu)<=50:=by omega
 refine hk1 _ _ (tq λD2 hk2=>?_);refine⟨_,rfl,b,rfl,B3,λH4 q l1 s0 ps B4 S4 hq nq hpl gp s0n s0p=>?_⟩;refine⟨q,_,rfl,SqL.of hq,rfl,_,_,rfl,_,_,rfl,rfl,?_⟩;have S04:=S03.trans S4;clear S03 S4 B3;refine hk2 _ _ (tq λD3 hk3=>?_);refine⟨3,rfl,by decide,by decide,ZY (J:=Itr 0 3) 3 (by decide)
  (λi ys τ H'=>Zu H' b/\Zi b H H'/\RowsAt b H' l1 (ps.map ZG)/\(∃ls:List (Addr×List Str),ys=ls.map (λp=>V.ref p.1)/\ls.length=i/\∀p∈ls,Me b H' p.1 p.2)/\∃v,τ=[v,some (.ref b)]) ⟨B4,S04,hpl,⟨[],rfl,rfl,by simp⟩,none,rfl⟩ (λi ys τ H' p=>?_) (λi ys τ H' hi p=>hi) (λys τ H' p=>Nat.le_refl _) (λi ys τ H' x' H3 hi p yl=>?_) (λys τ H5 p ln hln=>?_)⟩
 ·obtain⟨_,_,_,⟨ls,rfl,e,_⟩,_⟩:=p;rw[lm,e];exact Nat.le_refl _
 ·obtain⟨bx,sm,hpl5,⟨ls,rfl,e,ho⟩,v,rfl⟩:=p;obtain⟨rfl,rfl⟩:=yl;refine⟨_,rfl,_,rfl,zl,λl2 hl2=>?_⟩;have n2:=bx.ne hl2;refine tkC (bx.new hl2) (λr2 H2 h02 h12 B2 S2=>?_);have el2:=S2 _ _ Zb n2;have S12:=((Zi.refl b H3).new' (o:=.lst [.int 5,.int 13]) hl2).trans S2;refine⟨rfl,.inr ⟨_,rfl,l2,_,_,_,rfl,rfl,SqL.of el2,Sr,b,_,rfl,B2,?_,?_,λmn H6 h06 h16 B6 S6=>?_⟩⟩
  ·exact Int.lt_of_lt_of_le (by decide:(0:Int)<5) (UZ (by decide) (by decide) _)
  ·exact Yv (Int.le_trans (by decide:(0:Int)<=5) (UZ (by decide) (by decide) _)) (UY (by decide) (by decide) _)
  have h13:mn<13:=Int.lt_of_lt_of_le h16 (UY (by decide) (by decide) _);refine⟨_,_,rfl,rfl,b,1+mn,rfl,B6,by omega,by omega,λH7 l7 ts B7 S7 hl7 nl7 hlen hnd hnm=>?_⟩;have S17:=(S12.trans S6).trans S7;refine⟨B7,sm.trans S17,hpl5.same S17,⟨ls++[(l7,ts)],by rw[a8];rfl,by simp[e],λp hp=>?_⟩,_,rfl⟩;rcases aN.mp hp with hp|hp
  ·exact(ho p hp).same S17
  ·rw[aU]at hp;subst hp;exact⟨nl7,hl7,by show 1<=ts.length;omega,by show ts.length<=13;omega,hnd,hnm⟩
 ·obtain⟨B5,S05,hpl5,⟨ls,rfl,e,ho⟩,v,rfl⟩:=p;match ls,e,ho with
 |[(a1,t1),(a2,t2),(a3,t3)],_,ho=>
  have N1:=ho (a1,t1) (by simp);have N2:=ho (a2,t2) (by simp);have N3:=ho (a3,t3) (by simp);clear ho;dsimp only[List.map]at hln ⊢;have nln:=B5.ne hln;have B6:=B5.new (o:=.lst [.ref a1,.ref a2,.ref a3]) hln;have S56:Zi b H5 (upd H5 ln (.lst [.ref a1,.ref a2,.ref a3])):=(Zi.refl b H5).new' hln;have eln:upd H5 ln (.lst [.ref a1,.ref a2,.ref a3]) ln=some (.lst [.ref a1,.ref a2,.ref a3]):=Zb;generalize upd H5 ln (.lst [.ref a1,.ref a2,.ref a3])=H6 at B6 S56 eln ⊢;have S06:=S05.trans S56;have N1:=N1.same S56;have N2:=N2.same S56;have N3:=N3.same S56;have hpl6:=hpl5.same S56;clear S56 S05 hpl5 B5 hln;refine hk3 _ _ (tq λD4 hk4=>?_);obtain⟨na1,ea1,c1,c1',nd1,nm1⟩:=id N1;obtain⟨h1,u1,rfl⟩:∃h u,t1=h::u:=by
   cases t1 with
  |nil=>simp at c1
  |cons h u=>exact⟨h,u,rfl⟩
  refine ixL 0 eln rfl ⟨_,rfl,a1,_,rfl,SqL.of ea1,λx1 hx1=>?_⟩;rw[cut1 _ (by rw[lm];exact c1)];have nx1:=B6.ne hx1;refine⟨x1,rfl,⟨_,SqL.of Zb⟩,?_⟩;have ex1:upd H6 x1 (.lst ((h1::u1).map V.str |>.drop 1)) x1=some (.lst (u1.map V.str)):=Zb
  have Bx1:=B6.new (o:=.lst ((h1::u1).map V.str |>.drop 1)) hx1
  have Sx1:Zi b H6 (upd H6 x1 (.lst ((h1::u1).map V.str |>.drop 1))):=(Zi.refl b H6).new' hx1
  generalize upd H6 x1 (.lst ((h1::u1).map V.str |>.drop 1))=X1 at ex1 Bx1 Sx1 ⊢
  have len1:u1.length<=12:=by simp at c1';omega
  refine ZY (J:=Itl K x1) u1.length (Nat.le_trans len1 (by decide)) (λi ys τ H'=>Zu H' b/\Zi b X1 H'/\Made b H' X9 (λt(r:Rd)=>r.nm=t/\GoodRd (1+tu) ps r) u1 i ys/\∃v,τ=[v,some (.ref b),some (.ref l1),some (.int (1+tu))]) ⟨Bx1,Zi.refl b _,Made.nil,none,rfl⟩ (λi ys τ H' p=>p.2.2.1.len) (λi ys τ H' hi p=>Rf (p.2.1 _ _ ex1 nx1) hi) (λys τ H' p=>Mj (p.2.1 _ _ ex1 nx1)) (λi ys τ H' x' H3 hi p yl=>?_) (λys τ H70 p lr hlr=>?_)
  ·obtain⟨bx,sm,md,v,rfl⟩:=p;obtain⟨rfl,rfl⟩:=Ml (sm _ _ ex1 nx1) hi yl;exact⟨_,rfl,_,rfl,_,rfl,_,rfl,b,l1,_,(1+tu),ps,rfl,bx,hpl6.same (Sx1.trans sm),gp,hn1,hn2,λH4 q r B4 S4 hq nq e g=>⟨B4,sm.trans S4,md.step S4 nq hq (gE hi) ⟨e,g⟩,_,rfl⟩⟩
  obtain⟨bx1,sm1,md1,v,rfl⟩:=p;obtain⟨rs,R1,lr1,g1⟩:=md1.done bx1 hlr;have B7:=bx1.new (o:=.lst ys) hlr;have S1_:Zi b H6 (upd H70 lr (.lst ys)):=(Sx1.trans sm1).new' hlr;generalize upd H70 lr (.lst ys)=H7 at B7 S1_ R1 ⊢;have S07:=S06.trans S1_;have hpl7:=hpl6.same S1_;have eln:=S1_ _ _ eln nln;have N2:=N2.same S1_;have N3:=N3.same S1_;clear Sx1 sm1 ex1 bx1 Bx1 ea1;refine hk4 _ _ (tq λD5 hk5=>?_);obtain⟨na2,ea2,c2,c2',nd2,nm2⟩:=id N2;obtain⟨h2,u2,rfl⟩:∃h u,t2=h::u:=by
   cases t2 with
  |nil=>simp at c2
  |cons h u=>exact⟨h,u,rfl⟩
  refine ixL 1 eln rfl ⟨_,rfl,a2,_,rfl,SqL.of ea2,λx2 hx2=>?_⟩;rw[cut1 _ (by rw[lm];exact c2)];have nx2:=B7.ne hx2;refine⟨x2,rfl,⟨_,SqL.of Zb⟩,?_⟩;have ex2:upd H7 x2 (.lst ((h2::u2).map V.str |>.drop 1)) x2=some (.lst (u2.map V.str)):=Zb
  have Bx2:=B7.new (o:=.lst ((h2::u2).map V.str |>.drop 1)) hx2
  have Sx2:Zi b H7 (upd H7 x2 (.lst ((h2::u2).map V.str |>.drop 1))):=(Zi.refl b H7).new' hx2
  generalize upd H7 x2 (.lst ((h2::u2).map V.str |>.drop 1))=X2 at ex2 Bx2 Sx2 ⊢
  have len2:u2.length<=12:=by simp at c2';omega
  refine ZY (J:=Itl K x2) u2.length (Nat.le_trans len2 (by decide)) (λi ys τ H'=>Zu H' b/\Zi b X2 H'/\Made b H' VZ (λt(r:Wy)=>r.nm=t/\GoodWy ps r) u2 i ys/\∃v,τ=[v,some (.ref b),some (.ref l1)]) ⟨Bx2,Zi.refl b _,Made.nil,none,rfl⟩ (λi ys τ H' p=>p.2.2.1.len) (λi ys τ H' hi p=>Rf (p.2.1 _ _ ex2 nx2) hi) (λys τ H' p=>Mj (p.2.1 _ _ ex2 nx2)) (λi ys τ H' x' H3 hi p yl=>?_) (λys τ H80 p lw hlw=>?_)
  ·obtain⟨bx,sm,md,v,rfl⟩:=p;obtain⟨rfl,rfl⟩:=Ml (sm _ _ ex2 nx2) hi yl;exact⟨_,rfl,_,rfl,_,rfl,b,l1,_,ps,rfl,bx,hpl7.same (Sx2.trans sm),gp,λH4 q r B4 S4 hq nq e g=>⟨B4,sm.trans S4,md.step S4 nq hq (gE hi) ⟨e,g⟩,_,rfl⟩⟩
  obtain⟨bx2,sm2,md2,v,rfl⟩:=p;obtain⟨ws,R2,lr2,g2⟩:=md2.done bx2 hlw;have B8:=bx2.new (o:=.lst ys) hlw;have S2_:Zi b H7 (upd H80 lw (.lst ys)):=(Sx2.trans sm2).new' hlw;generalize upd H80 lw (.lst ys)=H8 at B8 S2_ R2 ⊢;have S08:=S07.trans S2_;have hpl8:=hpl7.same S2_;have eln:=S2_ _ _ eln nln;have N3:=N3.same S2_;have R1:=R1.same S2_;clear Sx2 sm2 ex2 bx2 Bx2 ea2;refine hk5 _ _ (tq λD6 hk6=>?_);obtain⟨na3,ea3,c3,c3',nd3,nm3⟩:=id N3;obtain⟨h3,u3,rfl⟩:∃h u,t3=h::u:=by
   cases t3 with
  |nil=>simp at c3
  |cons h u=>exact⟨h,u,rfl⟩
  refine ixL 2 eln rfl ⟨_,rfl,a3,_,rfl,SqL.of ea3,λx3 hx3=>?_⟩;rw[cut1 _ (by rw[lm];exact c3)];have nx3:=B8.ne hx3;refine⟨x3,rfl,⟨_,SqL.of Zb⟩,?_⟩;have ex3:upd H8 x3 (.lst ((h3::u3).map V.str |>.drop 1)) x3=some (.lst (u3.map V.str)):=Zb
  have Bx3:=B8.new (o:=.lst ((h3::u3).map V.str |>.drop 1)) hx3
  have Sx3:Zi b H8 (upd H8 x3 (.lst ((h3::u3).map V.str |>.drop 1))):=(Zi.refl b H8).new' hx3
  generalize upd H8 x3 (.lst ((h3::u3).map V.str |>.drop 1))=X3 at ex3 Bx3 Sx3 ⊢
  have len3:u3.length<=12:=by simp at c3';omega
  refine ZY (J:=Itl K x3) u3.length (Nat.le_trans len3 (by decide)) (λi ys τ H'=>Zu H' b/\Zi b X3 H'/\Made b H' grRow (λt(r:Gr)=>GoodGr (1+tu) ps t r) u3 i ys/\∃v,τ=[v,some (.ref b),some (.ref l1),some (.int (1+tu))]) ⟨Bx3,Zi.refl b _,Made.nil,none,rfl⟩ (λi ys τ H' p=>p.2.2.1.len) (λi ys τ H' hi p=>Rf (p.2.1 _ _ ex3 nx3) hi) (λys τ H' p=>Mj (p.2.1 _ _ ex3 nx3)) (λi ys τ H' x' H3 hi p yl=>?_) (λys τ H90 p lg hlg=>?_)
  ·obtain⟨bx,sm,md,v,rfl⟩:=p;obtain⟨rfl,rfl⟩:=Ml (sm _ _ ex3 nx3) hi yl;exact⟨_,rfl,_,rfl,_,rfl,_,rfl,b,l1,_,(1+tu),ps,rfl,bx,Nat.le_trans (by have:=(nm3 u3[i] (aq _ (aH hi))).2.1;rw[ZN]at this;exact this) (by decide),hpl8.same (Sx3.trans sm),gp,hn1,hn2,λH4 q r B4 S4 hq nq g=>⟨B4,sm.trans S4,md.step S4 nq hq (gE hi) g,_,rfl⟩⟩
  obtain⟨bx3,sm3,md3,v,rfl⟩:=p;obtain⟨gs,R3,lr3,g3⟩:=md3.done bx3 hlg;have B9:=bx3.new (o:=.lst ys) hlg;have S3_:Zi b H8 (upd H90 lg (.lst ys)):=(Sx3.trans sm3).new' hlg;generalize upd H90 lg (.lst ys)=H9 at B9 S3_ R3 ⊢;have S09:=S08.trans S3_;have hpl9:=hpl8.same S3_;have eln:=S3_ _ _ eln nln;have R1:=R1.same S3_;have R2:=R2.same S3_;have N1:=N1.same ((S1_.trans S2_).trans S3_);have N2:=N2.same (S2_.trans S3_);have N3:=N3.same S3_;clear Sx3 sm3 ex3 bx3 Bx3 ea3;refine hk6 _ _ ?_;refine⟨_,rfl,_,rfl,_,rfl,_,rfl,_,rfl,zl,λpw hpw=>?_⟩;have npw:=B9.ne hpw;have Bp:=B9.new (o:=.lst [.int (1+tu),.ref l1,.ref lr,.ref lw,.ref lg]) hpw;have Sp:Zi b H9 (upd H9 pw (.lst [.int (1+tu),.ref l1,.ref lr,.ref lw,.ref lg])):=(Zi.refl b H9).new' hpw;have ep:upd H9 pw (.lst [.int (1+tu),.ref l1,.ref lr,.ref lw,.ref lg]) pw=some (.lst [.int (1+tu),.ref l1,.ref lr,.ref lw,.ref lg]):=Zb;generalize upd H9 pw (.lst [.int (1+tu),.ref l1,.ref lr,.ref lw,.ref lg])=Hp at Bp Sp ep ⊢;have elnp:=Sp _ _ eln nln;have at0:∀(x:V)(l:List V),atI (x::l) 0=some x:=λx l=>Zv (xs:=x::l) (j:=0) rfl;refine⟨_,rfl,ixL 0 elnp rfl ⟨a1,_,0,_,rfl,rfl,SqL.of (Sp _ _ N1.2.1 N1.1),at0 _ _,ixL 1 elnp rfl ⟨a2,_,0,_,rfl,rfl,SqL.of (Sp _ _ N2.2.1 N2.1),at0 _ _,ixL 2 elnp rfl ⟨a3,_,0,_,rfl,rfl,SqL.of (Sp _ _ N3.2.1 N3.1),at0 _ _,zl,λps4 hps4=>?_⟩⟩⟩⟩;have nps4:=Bp.ne hps4;refine⟨zl,λqq hqq=>?_⟩;have Bs:=Bp.new (o:=.lst [.str s0,.str h1,.str h2,.str h3]) hps4;have Ss:Zi b Hp (upd Hp ps4 (.lst [.str s0,.str h1,.str h2,.str h3])):=(Zi.refl b Hp).new' hps4;have Sq:=(Sp.trans Ss).new' (o:=.lst [.ref pw,.ref ps4]) hqq;have st4:(upd (upd Hp ps4 (.lst [.str s0,.str h1,.str h2,.str h3])) qq (.lst [.ref pw,.ref ps4])) ps4=some (.lst [.str s0,.str h1,.str h2,.str h3]):=by rw[Zg (Zf Zb hqq)];exact Zb
  have fst:∀{R:Type}{f:R->Str}{rs:List R}{u:List Str},rs.length=u.length->(∀(j:Nat)r t,rs[j]?=some r->u[j]?=some t->f r=t)->rs.map f=u:=λ{R f rs u}hl hf=>by apply List.ext_getElem (by simp[hl]);intro i h1 h2;simp only[List.getElem_map];exact hf i _ _ (gE (by simpa using h1)) (gE h2)
  have f1:rs.map (·.nm)=u1:=fst lr1 λj r t a c=>(g1 j r t a c).1;have f2:ws.map (·.nm)=u2:=fst lr2 λj r t a c=>(g2 j r t a c).1;have all:∀{R:Type}{rs:List R}{u:List Str}{G:R->Prop},rs.length=u.length->(∀(j:Nat)r t,rs[j]?=some r->u[j]?=some t->G r)->∀r∈rs,G r:=λ{R rs u G}hl hf r hr=>by
   obtain⟨j,hj⟩:=bj.mp hr;have:j<u.length:=by rw[<-hl];exact(aw.mp hj).1
   exact hf j r _ hj (gE this)
  refine k _ qq pw ps4 l1 lr lw lg ⟨(1+tu),ps,rs,ws,gs⟩ u3 s0 h1 h2 h3 (Bs.new hqq) (S09.trans Sq) (Bs.ne hqq) Zb nps4 st4 ⟨npw,?_,hpl9.same Sq,R1.same Sq,R2.same Sq,R3.same Sq⟩ ?_ ?_
  ·exact((Zi.refl b Hp).new' hps4).new' hqq _ _ ep npw
  ·exact⟨hn1,hn2,gp,all lr1 λj r t a c=>(g1 j r t a c).2,all lr2 λj r t a c=>(g2 j r t a c).2,lr3,λi c g h1 h2=>g3 i g c h2 h1⟩
  ·refine⟨⟨s0n,s0p⟩,?_,?_,Names.of c3' nd3 nm3⟩
   ·show Names (rs.map (·.nm)) h1;rw[f1];exact Names.of c1' nd1 nm1
   ·show Names (ws.map (·.nm)) h2;rw[f2];exact Names.of c2' nd2 nm2
end
theorem Tf{t:Str}(h:Nm t):∃c r,codes t=c::r/\c∈LET:=by
 obtain⟨h1,h2,h3⟩:=h;cases e:codes t with
|nil=>rw[e]at h1;simp at h1
|cons c r=>exact⟨c,r,rfl,h3 c (by rw[e];exact az)⟩
theorem Le{t:Str}(h:Nm t):Z0 false (.str t)=true:=by
 obtain⟨c,r,e,hc⟩:=Tf h;obtain⟨h1,h2,h3⟩:=h;show K1.Jr 8 (K1.codes K1.tNAME) (codes t)=true;unfold K1.Jr K1.YK K1.lenB;rw[K1.Aa];simp only[Bool.and_eq_true,decide_eq_true_eq,bV];refine⟨⟨⟨by omega,by omega⟩,λd hd=>?_⟩,?_⟩
 ·exact ba _ (ba _ (h3 d hd))
 ·rw[e];exact hc
theorem Ki:∀s∈sufs,(codes s).length<=3/\(∀c∈codes s,c∈LET++K1.FIG++[46])/\((codes s).head?.map λc=>decide (c∈LET))≠some true:=by decide +kernel
theorem FO{t s:Str}(h:Nm t)(hs:s∈sufs):Z0 true (.str (t++s))=true:=by
 obtain⟨c,r,e,hc⟩:=Tf h;obtain⟨h1,h2,h3⟩:=h;obtain⟨s1,s2,_⟩:=Ki s hs;show K1.Jr 12 (K1.codes K1.tGROUP) (codes (t++s))=true;unfold K1.Jr K1.YK K1.lenB;rw[K1.FX,XG];simp only[Bool.and_eq_true,decide_eq_true_eq,bV,ax];refine⟨⟨⟨by omega,by omega⟩,λd hd=>?_⟩,?_⟩
 ·rcases aN.mp hd with hd|hd
  ·exact ba _ (ba _ (h3 d hd))
  ·exact s2 d hd
 ·rw[e];exact hc
theorem T9{t s:Str}(h:Nm t)(hs:s∈sufs):(codes (t++s)).takeWhile (λc=>decide (c∈LET))=codes t:=by
 obtain⟨_,_,h3⟩:=h;obtain⟨_,_,s3⟩:=Ki s hs;rw[XG,List.takeWhile_append_of_pos (λc hc=>decide_eq_true (h3 c hc))];cases e:codes s with
|nil=>simp
|cons c r=>
  rw[e]at s3;have:decide (c∈LET)=false:=by simpa using s3
  rw[List.takeWhile_cons_of_neg (by rw[this];exact Bool.false_ne_true),bo]
theorem Y2{i lo hi:Int}(h1:lo<=i)(h2:i<=hi):K1.Zr (.int i) lo hi=true:=by show(decide (lo<=i)&&decide (i<=hi))=true;simp[h1,h2]
end WD
namespace L2
open PySem PySem.W PySem.Spec PyProof.Rows
section
variable {X:Cx}
def rNil(neg:Bool)(K:af):R2:=λx y H Q=>∃a b xs,x=.ref a/\y=.ref b/\SqL K H a xs/\H b=some (.lst [])/\Q (.bl (if neg then !decide (xs=[])else decide (xs=[]))) H
theorem K0(hu:X.A.units+64<cLine):OpR X (bU .Eq) (rNil false X.K):=by
 intro pins s σ H x y v u Q I rx ry h;obtain⟨a,b,xs,rfl,rfl,ha,hb,q⟩:=h;cases rx;cases ry;obtain⟨its,rv,p1,_⟩:=I.list ha;obtain⟨_,its2,n2,rv2,_,e2⟩:=I.lstM hb;have h2:=rv2.zero;subst h2;have l2:s.heap.IsList b #[]:=⟨_,e2,rfl,_,rfl⟩;have hl:=rv.length;by_cases hx:xs=[]
 ·subst hx;have h1:=rv.zero;subst h1;refine SeqAt.RcAt.lists (A:=X.A) (s:=s) (e:=λ_=>true) p1.isList l2 rfl (by omega) (λj h1 h2=>by simp at h2) X.prog X.w X.xe (EP X pins σ Q) ⟨.bl true,H,I,rfl,?_⟩;simpa using q
 ·refine SeqAt.RcAt.lists_lengths (A:=X.A) (s:=s) p1.isList l2 ?_ (by omega) X.prog X.w X.xe (EP X pins σ Q) ⟨.bl false,H,I,rfl,?_⟩
  ·have:its.length≠0:=by rw[<-hl];intro z;exact hx (List.length_eq_zero_iff.mp z)
   simpa using λz=>hx (by subst z;simpa using hl)
  ·simpa[hx]using q
end
end L2
namespace L2
open PySem PySem.Spec PyProof.Rows
section
variable {X:Cx}
def rEqD:R2:=λx y H Q=>∃d e,Is H x d/\Is H y e/\bG d=true/\bG e=true/\Q (.bl (PyData.eqv d e)) H
theorem K2(hu:X.A.units+64<cLine):OpR X (bU .Eq) rEqD:=by intro pins s σ H x y v u Q I rx ry h;obtain⟨d,e,h1,h2,s1,s2,q⟩:=h;obtain⟨as,r1⟩:=h1.reads I.hok rx;obtain⟨bs,r2⟩:=h2.reads I.hok ry;exact SeqAt.compareEq_shaped r1 r2 s1 s2 hu ⟨.bl _,H,I,rfl,q⟩
def rNeD:R2:=λx y H Q=>∃d e,Is H x d/\Is H y e/\bG d=true/\bG e=true/\Q (.bl (!PyData.eqv d e)) H
theorem U9(hu:X.A.units+64<cLine):OpR X (bU .NotEq) rNeD:=by intro pins s σ H x y v u Q I rx ry h;obtain⟨d,e,h1,h2,s1,s2,q⟩:=h;obtain⟨as,r1⟩:=h1.reads I.hok rx;obtain⟨bs,r2⟩:=h2.reads I.hok ry;exact SeqAt.compareNe_shaped r1 r2 s1 s2 hu ⟨.bl _,H,I,rfl,q⟩
noncomputable def EU:List V->Hp->VK->Prop:=λxs H Q=>∃x d,xs=[x]/\Is H x d/\d.showable=true/\d.depth<=64/\d.shown.length<=sizeLine/\Q (.str d.shown) H
theorem R6{k:Nat}(hr:Room k X.A):Y1 X (.builtin "repr") EU:=by
 intro pins s σ H xs us Q I r h;obtain⟨x,d,rfl,hd,hs,hdp,hz,q⟩:=h;have q0:=q;cases hd with
|non=>obtain⟨u,rfl,rx⟩:=vals1 r;cases rx;refine PySem.P.repr_of_none ⟨.str (PyData.none).shown,H,I.tok _,⟨s.toks,?_⟩,q⟩;simp only[PyData.shown]
|bl b=>obtain⟨u,rfl,rx⟩:=vals1 r;cases rx;refine PySem.P.repr_of_bool ⟨.str (PyData.bool b).shown,H,I.tok _,⟨s.toks,?_⟩,q⟩;simp only[PyData.shown]
|int i=>obtain⟨u,rfl,t,rfl⟩:=vals1 r;refine PySem.P.repr_of_int (by simpa[PyData.showable]using hs) ⟨.str (PyData.int i).shown,H,I.tok _,⟨s.toks,?_⟩,q⟩;simp only[PyData.shown]
|str z=>obtain⟨u,rfl,t,rfl⟩:=vals1 r;refine PySem.P.repr_of_str ⟨.str (PyData.str z).shown,H,I.tok _,⟨s.toks,?_⟩,q⟩ (by simpa only[PyData.shown]using hz);simp only[PyData.shown]
|lst e ra=>exact MP hr pins s σ H _ us Q I r ⟨_,_,rfl,.lst e ra,hs,hdp,hz,q⟩
|tup e ra=>exact MP hr pins s σ H _ us Q I r ⟨_,_,rfl,.tup e ra,hs,hdp,hz,q⟩
end
end L2
namespace WD
open PySem L2 PySem.Spec PyProof.Rows TB
noncomputable def szJ:Nat->Nat
|1=>2|2=>6|3=>5|_=>4
noncomputable def Ep:Nat->Nat
|1=>14|2=>80|3=>40|_=>300
noncomputable def gJ(j:Nat):Bool:=decide (j=4)
noncomputable abbrev Kv:=List (Key×V)
noncomputable def whyJ(j:Nat)(k1:Kv)(n pp:Int)(ys:List V):V:=match j with
|1=>Yh (at_ ys 1)
|2=>JU k1 n ys
|3=>wayW k1 ys
|_=>JE k1 n pp ys
noncomputable def dueJ(j:Nat)(k1:Kv)(n pp:Int)(kvs:Kv)(r:Option (List V)):V:=if begR (gJ j) (szJ j) kvs r≠.non then begR (gJ j) (szJ j) kvs r else match r with
 |some ys=>whyJ j k1 n pp ys
 |none=>.str "form"
noncomputable def JK(j:Nat)(k1:Kv)(n:Int):Nat->Int->Kv->List (V×Option (List V))->Sum (Nat×V) Kv
|_,_,kvs,[]=>.inr kvs
|i,pp,kvs,(x,r)::rs=>if dueJ j k1 n pp kvs r≠.non then .inl (i,dueJ j k1 n pp kvs r)else match r with
 |some ys=>JK j k1 n (i+1) (pp+Yu ys) (putK kvs (.inr (nameOf ys)) (if j=1 then at_ ys 1 else x)) rs
 |none=>.inl (i,.str "form")
theorem Vq{j:Nat}{k1:Kv}{n pp:Int}{kvs:Kv}{r:Option (List V)}(h:begR (gJ j) (szJ j) kvs r≠.non):dueJ j k1 n pp kvs r=begR (gJ j) (szJ j) kvs r:=by unfold dueJ;rw[if_pos h]
theorem Xj{j:Nat}{k1:Kv}{n pp:Int}{kvs:Kv}{ys:List V}(h:begR (gJ j) (szJ j) kvs (some ys)=.non):dueJ j k1 n pp kvs (some ys)=whyJ j k1 n pp ys:=by unfold dueJ;rw[if_neg (λz=>z h)]
theorem Vo{j:Nat}{k1:Kv}{n:Int}{i:Nat}{pp:Int}{kvs:Kv}{x:V}{r:Option (List V)}{rs:List (V×Option (List V))}(h:dueJ j k1 n pp kvs r≠.non):JK j k1 n i pp kvs ((x,r)::rs)=.inl (i,dueJ j k1 n pp kvs r):=by unfold JK;rw[if_pos h]
theorem Ui{j:Nat}{k1:Kv}{n:Int}{i:Nat}{pp:Int}{kvs:Kv}{x:V}{ys:List V}{rs:List (V×Option (List V))}(h:dueJ j k1 n pp kvs (some ys)=.non):JK j k1 n i pp kvs ((x,some ys)::rs)=JK j k1 n (i+1) (pp+Yu ys) (putK kvs (.inr (nameOf ys)) (if j=1 then at_ ys 1 else x)) rs:=by
 conv=>lhs;unfold JK
 rw[if_neg (λz=>z h)]
theorem MI{g:Bool}{m:Nat}{why:List V->V}{j:Nat}{k1:Kv}{n:Int}(hg:gJ j=g)(hm:szJ j=m)(hj:j≠1)(hw:∀pp ys,whyJ j k1 n pp ys=why ys):∀(rs:List (V×Option (List V)))(i:Nat)(pp:Int)(kvs:Kv),Yq g m why i kvs rs=JK j k1 n i pp kvs rs
|[],_,_,_=>rfl
|(x,r)::rs,i,pp,kvs=>by
  subst hg hm;by_cases b:begR (gJ j) (szJ j) kvs r=.non
  ·cases r with
  |none=>cases b
  |some ys=>
    rw[U7 b];by_cases h:why ys=.non
    ·rw[if_neg (λz=>z h),Ui (by rw[Xj b,hw];exact h),if_neg hj];exact MI rfl rfl hj hw rs _ _ _
    ·rw[if_pos h,Vo (by rw[Xj b,hw];exact h),Xj b,hw]
  ·rw[Ms b,Vo (by rw[Vq b];exact b),Vq b]
theorem ML{k1:Kv}{n:Int}:∀(rs:List (V×Option (List V)))(i:Nat)(pp:Int)(kvs:Kv),Yl k1 n i pp kvs rs=JK 4 k1 n i pp kvs rs
|[],_,_,_=>rfl
|(x,r)::rs,i,pp,kvs=>by
  by_cases b:begR true 4 kvs r=.non
  ·cases r with
  |none=>cases b
  |some ys=>
    have b':begR (gJ 4) (szJ 4) kvs (some ys)=.non:=b;rw[GR b];by_cases h:JE k1 n pp ys=.non
    ·rw[if_neg (λz=>z h),Ui (by rw[Xj b'];exact h),if_neg (by decide)];exact ML rs _ _ _
    ·rw[if_pos h,Vo (by rw[Xj b'];exact h),Xj b'];rfl
  ·have b':begR (gJ 4) (szJ 4) kvs r≠.non:=b;rw[Vo (by rw[Vq b'];exact b),Vq b'];unfold Yl;rw[if_pos b];rfl
theorem MJ{k1:Kv}{n:Int}:∀(xs:List V)(rs:List (Option (List V)))(i:Nat)(pp:Int)(kvs:Kv),xs.length=rs.length->Yi i kvs rs=JK 1 k1 n i pp kvs (xs.zip rs)
|[],[],_,_,_,_=>rfl
|[],_::_,_,_,_,h=>by cases h
|_::_,[],_,_,_,h=>by cases h
|x::xs,r::rs,i,pp,kvs,hl=>by
  rw[dY];by_cases b:begR false 2 kvs r=.non
  ·obtain⟨ys,y,rfl,h2,h0⟩:=Vg b;have b':begR (gJ 1) (szJ 1) kvs (some ys)=.non:=b;obtain⟨x0,room,rfl⟩:=len2 h2;have hx0:x0=.str y:=h0;subst hx0;conv=>lhs;unfold Yi
   rw[if_neg (λz=>z b)];dsimp only;by_cases h:Yh room=.non
   ·rw[if_neg (λz=>z h),Ui (by rw[Xj b'];exact h),if_pos rfl];exact MJ xs rs _ _ _ (by simpa using hl)
   ·rw[if_pos h,Vo (by rw[Xj b'];exact h),Xj b'];rfl
  ·have b':begR (gJ 1) (szJ 1) kvs r≠.non:=b;rw[Mu b,Vo (by rw[Vq b'];exact b),Vq b'];rfl
noncomputable def goJ(j:Nat)(k1:Kv)(n:Int):List V->List (Option (List V))->Sum (Nat×V) Kv:=match j with
|1=>goP
|2=>goR k1 n
|3=>goW k1
|_=>goG k1 n
theorem FN{j:Nat}(hj:j=1\/j=2\/j=3\/j=4){k1:Kv}{n:Int}{xs:List V}{rs:List (Option (List V))}(h:xs.length=rs.length):goJ j k1 n xs rs=JK j k1 n 0 0 [] (xs.zip rs):=by
 rcases hj with rfl|rfl|rfl|rfl
 ·exact MJ xs rs _ _ _ h
 ·exact MI (j:=2) (k1:=k1) (n:=n) rfl rfl (by decide) (λ_ _=>rfl) _ _ _ _
 ·exact MI (j:=3) (k1:=k1) (n:=n) rfl rfl (by decide) (λ_ _=>rfl) _ _ _ _
 ·exact ML _ _ _ _
def MV(k1:Kv)(t1:List (List V)):Prop:=∀p∈t1,valV k1 (.inr (nameOf p))=some (at_ p 1)
structure PlDict(k1:Kv)(t1:List (List V)):Prop where
 has:MV k1 t1
 no:∀z,z∉t1.map nameOf->valV k1 (.inr z)=none
def Flat(y:V):Prop:=y=.non\/(∃i,y=.int i)\/∃z,y=.str z/\z.length<=1000
structure RowOk(j:Nat)(n:Int)(t1:List (List V))(ys:List V):Prop where
 len:ys.length=szJ j
 nm:Z0 (gJ j) (at_ ys 0)=true
 why:∀k1,(j≠1->MV k1 t1)->∀pp,(j=4->pp+Yu ys<=300)->whyJ j k1 n pp ys=.non
 ma:j=4->0<=Yu ys
 flat:∀y∈ys,Flat y
structure RowsOk(j:Nat)(n:Int)(t1 t:List (List V)):Prop where
 nd:(t.map nameOf).Nodup
 row:∀ys∈t,RowOk j n t1 ys
 sum:j=4->(t.map Yu).sum<=300
theorem E6{g:Bool}{v:V}(h:Z0 g v=true):∃z,v=.str z:=by unfold Z0 at h;split at h<;>(unfold K1.Ue at h;cases v<;>first|exact⟨_,rfl⟩|(exfalso;simp at h))
theorem RowOk.name{j:Nat}{n:Int}{t1:List (List V)}{ys:List V}(h:RowOk j n t1 ys):ys.getD 0 .non=.str (nameOf ys):=by obtain⟨z,e⟩:=E6 h.nm;have e':ys.getD 0 .non=.str z:=e;unfold nameOf;rw[e']
theorem Kh:∀{l:List Int},(∀x∈l,0<=x)->0<=l.sum
|[],_=>by simp
|x::l,h=>by rw[fH];have:=h x az;have:=Kh (l:=l) λy hy=>h y (aq _ hy);omega
theorem TF{j:Nat}{k1:Kv}{n:Int}{t1:List (List V)}(hk:j≠1->MV k1 t1){rest:List (V×Option (List V))}:∀(t:List (List V))(xs:List V)(i:Nat)(pp:Int)(kvs:Kv),xs.length=t.length->(t.map nameOf).Nodup->(∀ys∈t,RowOk j n t1 ys)->(j=4->pp+(t.map Yu).sum<=300)->(∀ys∈t,valV kvs (.inr (nameOf ys))=none) ->∃kvs',JK j k1 n i pp kvs (xs.zip (t.map some)++rest)=JK j k1 n (i+t.length) (pp+(t.map Yu).sum) kvs' rest/\(∀z,z∉t.map nameOf->valV kvs' (.inr z)=valV kvs (.inr z))/\(j=1->MV kvs' t)/\(∀ys∈t,valV kvs' (.inr (nameOf ys))≠none)/\(j≠1->∀(m:Nat)y x,t[m]?=some y->xs[m]?=some x->valV kvs' (.inr (nameOf y))=some x)
|[],[],i,pp,kvs,_,_,_,_,_=>⟨kvs,by simp,λ_ _=>rfl,λ_ p hp=>(by cases hp),λp hp=>(by cases hp),λ_ m y x h=>by simp at h⟩
|[],_::_,_,_,_,h,_,_,_,_=>by cases h
|_::_,[],_,_,_,h,_,_,_,_=>by cases h
|y::t,x::xs,i,pp,kvs,hl,nd,hr,hs,hn=>by
  have ry:=hr y az;have ny:=hn y az;have b:begR (gJ j) (szJ j) kvs (some y)=.non:=by show begV _ _ _ _=_;unfold begV;rw[if_neg (λz=>z ry.len),show Z0 (gJ j) (y.getD 0 .non)=true from ry.nm,if_neg (by decide),ry.name];rw[show ZP (.str (nameOf y)) kvs=false from by show(valV kvs _).isSome=false;rw[ny];rfl,if_neg (by decide)]
  rw[aI,cF]at nd;have ht:∀ys∈t,RowOk j n t1 ys:=λq hq=>hr q (aq _ hq);have hs':j=4->pp+Yu y+(t.map Yu).sum<=300:=λe=>by have:=hs e;rw[aI,fH]at this;omega
  have hy:j=4->pp+Yu y<=300:=λe=>by
   have:=hs' e;have:=Kh (l:=t.map Yu) λx hx=>by obtain⟨q,hq,rfl⟩:=av.mp hx;exact(ht q hq).ma e
   omega
  have hw:whyJ j k1 n pp y=.non:=ry.why k1 hk pp hy;have yn:∀q∈t,nameOf q≠nameOf y:=λq hq e=>nd.1 (e▸av.mpr ⟨q,hq,rfl⟩);obtain⟨kvs',e1,e2,e3,e4,e5⟩:=TF hk (rest:=rest) t xs (i+1) (pp+Yu y) (putK kvs (.inr (nameOf y)) (if j=1 then at_ y 1 else x)) (by simpa using hl) nd.2 ht hs' (λq hq=>by rw[V2,if_neg (λe=>yn q hq (by injection e))];exact hn q (aq _ hq));have eY:valV kvs' (.inr (nameOf y))=some (if j=1 then at_ y 1 else x):=by rw[e2 _ nd.1,V2,if_pos rfl]
  refine⟨kvs',?_,λz hz=>?_,λe p hp=>?_,λp hp=>?_,λnj m y' x' h1 h2=>?_⟩
  ·rw[aI,dY,hZ,Ui (by rw[Xj b];exact hw),e1,aI,fH,aP];congr 1<;>omega
  ·rw[aI,au,not_or]at hz;rw[e2 z hz.2,V2,if_neg (λe=>hz.1 (by injection e))]
  ·rcases au.mp hp with rfl|hp
   ·rw[eY,if_pos e]
   ·exact e3 e p hp
  ·rcases au.mp hp with rfl|hp
   ·rw[eY];exact λz=>by cases z
   ·exact e4 p hp
  ·cases m with
  |zero=>simp at h1 h2;subst h1 h2;rw[eY,if_neg nj]
  |succ m=>exact e5 nj m y' x' (by simpa using h1) (by simpa using h2)
def PM(j:Nat)(n:Int)(t1 t:List (List V)):Prop:=t.length<=Ep j/\RowsOk j n t1 t
section
variable {j:Nat}{k1:Kv}{n:Int}{t1:List (List V)}
theorem Jo(hj:j=1\/j=2\/j=3\/j=4)(hk:j≠1->MV k1 t1){t:List (List V)}(h:PM j n t1 t){xs:List V}(hx:xs.length=t.length):∃kvs,YL (Ep j) (goJ j k1 n) (some (xs,t.map some))=.inr kvs/\(j=1->PlDict kvs t)/\(∀z,z∉t.map nameOf->valV kvs (.inr z)=none)/\(j≠1->∀(m:Nat)y x,t[m]?=some y->xs[m]?=some x->valV kvs (.inr (nameOf y))=some x):=by obtain⟨hl,nd,row,sum⟩:=h;obtain⟨kvs,e,e2,e3,_,e5⟩:=TF (k1:=k1) (n:=n) hk (rest:=[]) t xs 0 0 [] hx nd row (λe=>by have:=sum e;omega) (λ_ _=>rfl);refine⟨kvs,?_,λe=>⟨e3 e,λz hz=>e2 z hz⟩,λz hz=>e2 z hz,e5⟩;unfold YL;simp only;rw[if_neg (by omega),FN hj (by rw[hx,lm])];rw[bo]at e;rw[e];rfl
end
structure Tb where
 n:Int
 t1:List (List V)
 t2:List (List V)
 t3:List (List V)
 t4:List (List V)
noncomputable def Tb.part(T:Tb):Nat->List (List V)
|1=>T.t1|2=>T.t2|3=>T.t3|_=>T.t4
structure OkTb(T:Tb):Prop where
 n0:1<=T.n
 n1:T.n<=50
 part:∀j,j=1\/j=2\/j=3\/j=4->PM j T.n T.t1 (T.part j)
noncomputable def prs(xs:List V)(t:List (List V)):PR:=some (xs,t.map some)
structure RwDict(k:Kv)(t:List (List V))(xs:List V):Prop where
 at_:∀(m:Nat)y x,t[m]?=some y->xs[m]?=some x->valV k (.inr (nameOf y))=some x
 no:∀z,z∉t.map nameOf->valV k (.inr z)=none
structure TbDict(T:Tb)(x2 x3 x4:List V)(k:Ks):Prop where
 p:PlDict k.1 T.t1
 r:RwDict k.2.1 T.t2 x2
 w:RwDict k.2.2.1 T.t3 x3
 g:RwDict k.2.2.2 T.t4 x4
theorem Kd{T:Tb}(o:OkTb T){x1 x2 x3 x4:List V}(l1:x1.length=T.t1.length)(l2:x2.length=T.t2.length)(l3:x3.length=T.t3.length)(l4:x4.length=T.t4.length):∃k,GK (.int T.n) (prs x1 T.t1) (prs x2 T.t2) (prs x3 T.t3) (prs x4 T.t4)=.inr k/\TbDict T x2 x3 x4 k:=by obtain⟨k1,e1,d,_⟩:=Jo (j:=1) (k1:=[]) (n:=T.n) (t1:=T.t1) (.inl rfl) (λh=>absurd rfl h) (o.part 1 (.inl rfl)) l1;have hd:=d rfl;obtain⟨k2,e2,_,n2,d2⟩:=Jo (j:=2) (k1:=k1) (n:=T.n) (t1:=T.t1) (.inr (.inl rfl)) (λ_=>hd.has) (o.part 2 (.inr (.inl rfl))) l2;obtain⟨k3,e3,_,n3,d3⟩:=Jo (j:=3) (k1:=k1) (n:=T.n) (t1:=T.t1) (.inr (.inr (.inl rfl))) (λ_=>hd.has) (o.part 3 (.inr (.inr (.inl rfl)))) l3;obtain⟨k4,e4,_,n4,d4⟩:=Jo (j:=4) (k1:=k1) (n:=T.n) (t1:=T.t1) (.inr (.inr (.inr rfl))) (λ_=>hd.has) (o.part 4 (.inr (.inr (.inr rfl)))) l4;refine⟨(k1,k2,k3,k4),?_,hd,⟨d2 (by decide),n2⟩,⟨d3 (by decide),n3⟩,⟨d4 (by decide),n4⟩⟩;unfold GK;simp only[show(decide (1<=T.n)&&decide (T.n<=50))=true from by simp[o.n0,o.n1],if_true];rw[show YL 14 goP (prs x1 T.t1)=.inr k1 from e1];simp only[named];rw[show YL 80 (goR k1 T.n) (prs x2 T.t2)=.inr k2 from e2];simp only[named];rw[show YL 40 (goW k1) (prs x3 T.t3)=.inr k3 from e3];simp only[named];rw[show YL 300 (goG k1 T.n) (prs x4 T.t4)=.inr k4 from e4]
noncomputable def dF:V->PyData
|.int i=>.int i
|.str z=>.str z
|.bl c=>.bool c
|_=>.none
end WD
namespace L2
open PySem PySem.Spec PyProof.Rows
theorem QQ{P:Program}{w:World}{H:Hp}{h:Heap}{a:Addr}(ok:HOk P w H h)(e:H a=some (.dK [])):Reads h (.ref a) (.dict []) [a]/\a≠sysModules:=by obtain⟨_,ns,vs,kv,o,es,ep,ho,ex,hd,hk,hp,_⟩:=Ez ok e;refine⟨?_,λq=>by simp[q]at ns⟩;cases kv;generalize hl:es.toList=l at hp;cases hp;have:=Reads.dict (h:=h) (a:=a) (o:=o) (es:=es) (n:=ep) (kvs:=[]) (as:=[]) (bs:=[]) ho ex.1 hd (by rw[hl];exact .nil) (by rw[hl];exact .nil);exact this
inductive IsX(H:Hp):V->PyData->Prop
|of {x:V}{d:PyData} (h:Is H x d):IsX H x d
|dk {a:Addr} (e:H a=some (.dK [])):IsX H (.ref a) (.dict [])
end L2
namespace WD
open PySem L2 PySem.Spec PyProof.Rows TB
def GS(z:Str):Prop:=z.length<=12/\∀c∈z.cps.toList,c<0x110000
noncomputable instance (z:Str):Decidable (GS z):=by unfold GS;infer_instance
inductive Atm:V->Prop
|non:Atm .non
|int {i:Int} (h:i.natAbs<=1000):Atm (.int i)
|str {z:Str} (h:GS z):Atm (.str z)
theorem Atm.is{H:Hp}{v:V}(h:Atm v):Is H v (dF v):=by
 cases h with
|non=>exact .non
|int h=>exact .int _
|str h=>exact .str _
theorem NG{H:Hp}:∀{ys:List V},(∀y∈ys,Atm y)->IsAll H ys (ys.map dF)
|[],_=>.nil
|y::ys,h=>.cons (h y az).is (NG λz hz=>h z (aq _ hz))
def RowG(ys:List V):Prop:=ys.length<=6/\∀y∈ys,Atm y
noncomputable def rowD(ys:List V):PyData:=.tuple (ys.map dF)
structure Sm(d:PyData)(k m:Nat):Prop where
 sh:d.showable=true
 lv:d.leavesShort 13=true
 dp:d.depth<=k
 wt:d.weight<=m
theorem lgk{i:Nat}(h:i<=1000):i.log2<=11:=by
 by_cases e:i=0
 ·subst e;decide
 ·exact Nat.lt_succ_iff.mp ((Nat.log2_lt e).mpr (by omega))
theorem shown_int{i:Int}(h:i.natAbs<=1000):((PyData.int i).shown).length<=13:=by
 have key:∀n:Nat,n<=1000->((PyData.int n).shown).length<=13/\((PyData.int (-(n:Int))).shown).length<=13:=by intro n hn;have:=(by decide +kernel:∀k∈aT 1001,((PyData.int (k:Nat)).shown).length<=13/\((PyData.int (-((k:Nat):Int))).shown).length<=13);exact this n (cA.mpr (by omega))
 rcases Int.natAbs_eq i with e|e
 ·rw[e];exact(key _ h).1
 ·rw[e];exact(key _ h).2
theorem Atm.sm{v:V}(h:Atm v):Sm (dF v) 0 12:=by
 cases h with
|non=>exact⟨rfl,rfl,Nat.le_refl _,Nat.zero_le _⟩
|int h=>
  have:=lgk h;refine⟨?_,?_,Nat.le_refl _,?_⟩
  ·simp only[dF,PyData.showable,decide_eq_true_eq];omega
  ·simp only[dF,PyData.leavesShort,decide_eq_true_eq];exact shown_int h
  ·simp only[dF,PyData.weight];split<;>omega
|str h=>refine⟨by simp only[dF,PyData.showable],?_,Nat.le_refl _,h.1⟩;simp only[dF,PyData.leavesShort,bV,decide_eq_true_eq];exact λc hc=>Nat.lt_of_lt_of_le (h.2 c hc) (by decide)
structure SmAll(ds:List PyData)(k m:Nat):Prop where
 sh:PyData.showableAll ds=true
 lv:PyData.leavesShortAll 13 ds=true
 dp:PyData.depthAll ds<=k
 wt:PyData.weightAll ds<=ds.length*(m+1)
theorem SmAll.of{k m:Nat}:∀{ds:List PyData},(∀d∈ds,Sm d k m)->SmAll ds k m
|[],_=>⟨rfl,rfl,Nat.zero_le _,Nat.zero_le _⟩
|d::ds,h=>by
  have h1:=h d az;have h2:=SmAll.of (ds:=ds) λx hx=>h x (aq _ hx);refine⟨?_,?_,?_,?_⟩
  ·simp only[PyData.showableAll,h1.sh,h2.sh,Bool.and_self]
  ·simp only[PyData.leavesShortAll,h1.lv,h2.lv,Bool.and_self]
  ·simp only[PyData.depthAll];have:=h1.dp;have:=h2.dp;omega
  ·simp only[PyData.weightAll,aP,Nat.succ_mul];have:=h1.wt;have:=h2.wt;omega
theorem SmAll.tup{ds:List PyData}{k m n:Nat}(h:SmAll ds k m)(hl:ds.length<=n):Sm (.tuple ds) (k+1) (n*(m+1)):=by
 refine⟨?_,?_,?_,?_⟩
 ·simp only[PyData.showable,h.sh]
 ·simp only[PyData.leavesShort,h.lv]
 ·simp only[PyData.depth];have:=h.dp;omega
 ·simp only[PyData.weight];exact Nat.le_trans h.wt (Nat.mul_le_mul_right _ hl)
theorem Sm.mono{d:PyData}{k m k' m':Nat}(h:Sm d k m)(hk:k<=k')(hm:m<=m'):Sm d k' m':=⟨h.sh,h.lv,Nat.le_trans h.dp hk,Nat.le_trans h.wt hm⟩
theorem ES{ys:List V}(h:RowG ys):Sm (rowD ys) 1 78:=(SmAll.of (ds:=ys.map dF) (k:=0) (m:=12) λd hd=>by obtain⟨y,hy,rfl⟩:=av.mp hd;exact(h.2 y hy).sm).tup (n:=6) (by rw[lm];exact h.1)
theorem WA:∀c∈K1.LET++K1.FIG++[46],c<0x110000:=by decide +kernel
theorem Nm.gs{t:Str}(h:Nm t):GS t:=by obtain⟨h1,h2,h3⟩:=h;refine⟨by rw[<-ZN];omega,λc hc=>WA c (ba _ (ba _ (h3 c hc)))⟩
theorem Atm.lay{v:V}(h:Atm v):(dF v).canLay0=true:=by
 cases h with
|non=>rfl
|int h=>rfl
|str h=>show(Array.all _ _)=true;rw[Array.all_eq_true'];intro c hc;exact decide_eq_true (h.2 c (eF.mpr hc))
theorem G7:∀{ds:List PyData},(∀d∈ds,d.canLay0=true)->PyData.canLayAll0 ds=true
|[],_=>rfl
|d::ds,h=>by show(d.canLay0&&PyData.canLayAll0 ds)=true;rw[h d az,G7 λe he=>h e (aq _ he)];rfl
theorem DC{ys:List V}(h:RowG ys):(rowD ys).canLay0=true:=G7 (ds:=ys.map dF) λd hd=>by obtain⟨y,hy,rfl⟩:=av.mp hd;exact(h.2 y hy).lay
structure Shw(d:PyData):Prop where
 sh:d.showable=true
 dp:d.depth<=64
 len:d.shown.length<=sizeLine
end WD
namespace TB
open PySem L2 PySem.Spec PyProof.Rows WD
theorem YE.same{H H':Hp}(sm:Same H H'){v:V}{r:PR}(h:YE H v r):YE H' v r:=by
 cases r with
|none=>obtain⟨T,th,a⟩:=h;exact⟨T,th.same sm,a⟩
|some q=>
  obtain⟨xs,rs⟩:=q;obtain⟨⟨p,rfl,hp⟩,h1,h2⟩:=h;refine⟨⟨p,rfl,?_⟩,h1,λi y r e1 e2=>?_⟩
  ·rcases hp with hp|hp
   ·exact .inl (sm _ _ hp)
   ·exact .inr (sm _ _ hp)
  ·have:=h2 i y r e1 e2;cases r with
  |none=>obtain⟨T,th,a⟩:=this;exact⟨T,th.same sm,a⟩
  |some ys=>obtain⟨p,rfl,a,b⟩:=this;exact⟨p,rfl,sm _ _ a,λy hy=>let ⟨T,th⟩:=b y hy;⟨T,th.same sm⟩⟩
def TY(C Cb:Addr)(vT:V)(r1 r2 r3 r4:PR)(H:Hp)(Q:VK)(E:XK):Prop:=match GK vT r1 r2 r3 r4 with
|.inl (z,a,y)=>∀H1,Same H H1->Bad Cb z a y H1 E
|.inr k=>∀H' x fs n,Same H H'->H x=none->vT=.int n->TabOf H' C x fs n r1 r2 r3 r4 k->Q (.ref x) H'
theorem Qv{C Cb:Addr}{H:Hp}{Q:VK}{E:XK}{vT v1 v2 v3 v4:V}{T:String}{r1 r2 r3 r4:PR}(thT:Th H vT T)(p1:YE H v1 r1)(p2:YE H v2 r2)(p3:YE H v3 r3)(p4:YE H v4 r4)(k:TY C Cb vT r1 r2 r3 r4 H Q E):∀x dx,H x=none->H dx=none->dx≠x->G0 C Cb [.ref x,vT,v1,v2,v3,v4] (upd (upd H dx (.own x)) x (.ins C dx [])) (λv H'=>v=.non/\Q (.ref x) H') E:=λx dx hx hdx hne=>by
 have sm:Same H (upd (upd H dx (.own x)) x (.ins C dx [])):=λc u e=>by rw[Zg (λz=>by rw[z,hx]at e;cases e),Zg (λz=>by rw[z,hdx]at e;cases e)];exact e
 refine⟨x,dx,vT,T,v1,v2,v3,v4,r1,r2,r3,r4,rfl,Zb,thT.same sm,p1.same sm,p2.same sm,p3.same sm,p4.same sm,?_⟩;unfold TY at k;generalize GK vT r1 r2 r3 r4=res at k ⊢;cases res with
|inl q=>exact λH1 s1=>k H1 (GN hx hdx s1)
|inr q=>exact λH' fs n s1 e t=>⟨rfl,k H' x fs n (GN hx hdx s1) hx e t⟩
structure TabP(H:Hp)(C t:Addr)(fs:List (Str×V))(n:Int)(r1 r2 r3 r4:PR)(k:Ks):Prop where
 tab:TabOf H C t fs n r1 r2 r3 r4 k
 rows:∀r,r=r1\/r=r2\/r=r3\/r=r4->∀xs rs,r=some (xs,rs)->Ye H xs rs
theorem Row.same{H H':Hp}(s:Same H H'){v:V}{r:Option (List V)}(h:Row H v r):Row H' v r:=by
 cases r with
|none=>obtain⟨T,t,n⟩:=h;exact⟨T,t.same s,n⟩
|some ys=>obtain⟨p,e,a,t⟩:=h;exact⟨p,e,s _ _ a,λy hy=>let ⟨T,u⟩:=t y hy;⟨T,u.same s⟩⟩
theorem Ye.same{H H':Hp}(s:Same H H'){xs:List V}{rs:List (Option (List V))}(h:Ye H xs rs):Ye H' xs rs:=⟨h.1,λi x r e1 e2=>(h.2 i x r e1 e2).same s⟩
theorem Z6.same{H H':Hp}(s:Same H H'){fs:List (Str×V)}{f g:Str}{r:PR}{k:List (Key×V)}(h:Z6 H fs f g r k):Z6 H' fs f g r k:=by obtain⟨l,d,xs,rs,a1,a2,a3,a4,a5⟩:=h;exact⟨l,d,xs,rs,a1,a2,a3,s _ _ a4,s _ _ a5⟩
theorem TabP.same{H H':Hp}{C t:Addr}{fs:List (Str×V)}{n:Int}{r1 r2 r3 r4:PR}{k:Ks}(s:Same H H')(h:TabP H C t fs n r1 r2 r3 r4 k):TabP H' C t fs n r1 r2 r3 r4 k:=⟨⟨⟨let ⟨dx,e⟩:=h.tab.tab.at_;⟨dx,s _ _ e⟩,h.tab.tab.only⟩,h.tab.turns,h.tab.p.same s,h.tab.r.same s,h.tab.w.same s,h.tab.g.same s⟩,λr hr xs rs e=>(h.rows r hr xs rs e).same s⟩
end TB
namespace L2
open PySem PySem.Spec PyProof.Rows
theorem U8{P:Program}{w:World}{X:Cx}:Passes (CX1 P w) X E0:=λ_ _ _ _ _ _ _ h=>by obtain⟨x,c,dd,B,H',_,_,_,_,_,_,_,hE⟩:=h;exact hE.elim
end L2
namespace WD
open PySem L2 PySem.Spec PyProof.Rows TB
def isJ(j:Nat):Prop:=j=1\/j=2\/j=3\/j=4
theorem RN{H:Hp}{y:V}(h:Flat y):∃T,Th H y T:=by
 rcases h with rfl|⟨i,rfl⟩|⟨z,rfl,hz⟩
 ·exact⟨_,.non⟩
 ·exact⟨_,.int i⟩
 ·exact⟨_,.str z hz⟩
structure TbAt(b:Addr)(H:Hp)(p:Addr)(T:Tb)(l1 l2 l3 l4:Addr):Prop where
 ne:p≠b
 at_:H p=some (.lst [.int T.n,.ref l1,.ref l2,.ref l3,.ref l4])
 pl:RowsAt b H l1 T.t1
 rd:RowsAt b H l2 T.t2
 wy:RowsAt b H l3 T.t3
 gr:RowsAt b H l4 T.t4
theorem TbAt.same{b:Addr}{H H':Hp}{p:Addr}{T:Tb}{l1 l2 l3 l4:Addr}(s:Zi b H H')(h:TbAt b H p T l1 l2 l3 l4):TbAt b H' p T l1 l2 l3 l4:=⟨h.ne,s _ _ h.at_ h.ne,h.pl.same s,h.rd.same s,h.wy.same s,h.gr.same s⟩
theorem RowsAt.part{b:Addr}{H:Hp}{l:Addr}{rows:List (List V)}(h:RowsAt b H l rows)(hf:∀ys∈rows,∀y∈ys,Flat y):∃xs:List V,xs.length=rows.length/\H l=some (.lst xs)/\(∀x∈xs,∃a,x=.ref a/\a≠b)/\Ye H xs (rows.map some):=by
 obtain⟨n,as,e,hl,r⟩:=h;refine⟨as.map V.ref,by rw[lm,hl],e,λx hx=>?_,by simp[hl],λi x r' e1 e2=>?_⟩
 ·obtain⟨a,ha,rfl⟩:=av.mp hx;obtain⟨i,hi⟩:=bj.mp ha;have h1:i<rows.length:=by rw[<-hl];exact(aw.mp hi).1
  exact⟨a,rfl,(r i a _ hi (gE h1)).1⟩
 ·rw[aD]at e1 e2;obtain⟨a,ha,rfl⟩:=a_.mp e1;obtain⟨q,hq,rfl⟩:=a_.mp e2;exact⟨a,rfl,(r i a q ha hq).2,λy hy=>RN (hf q (aQ hq) y hy)⟩
theorem OkTb.flat{T:Tb}(o:OkTb T){j:Nat}(hj:isJ j):∀ys∈T.part j,∀y∈ys,Flat y:=λys h=>((o.part j hj).2.row ys h).flat
def Tel(H:Hp)(C t:Addr)(T:Tb):Prop:=∃fs x1 x2 x3 x4 k,TabP H C t fs T.n (prs x1 T.t1) (prs x2 T.t2) (prs x3 T.t3) (prs x4 T.t4) k/\TbDict T x2 x3 x4 k
theorem Tel.same{H H':Hp}{C t:Addr}{T:Tb}(s:Same H H')(h:Tel H C t T):Tel H' C t T:=by obtain⟨fs,x1,x2,x3,x4,k,tp,d⟩:=h;exact⟨fs,x1,x2,x3,x4,k,tp.same s,d⟩
theorem Qx{C Cb:Addr}{H:Hp}{Q:VK}{E:XK}{T:Tb}(o:OkTb T){x1 x2 x3 x4:List V}(r1:Ye H x1 (T.t1.map some))(r2:Ye H x2 (T.t2.map some))(r3:Ye H x3 (T.t3.map some))(r4:Ye H x4 (T.t4.map some))(k:∀H' x,Same H H'->H x=none->Tel H' C x T->Q (.ref x) H'):TY C Cb (.int T.n) (prs x1 T.t1) (prs x2 T.t2) (prs x3 T.t3) (prs x4 T.t4) H Q E:=by
 obtain⟨kk,e,d⟩:=Kd o (by rw[r1.1,lm]) (by rw[r2.1,lm]) (by rw[r3.1,lm]) (by rw[r4.1,lm]);unfold TY;rw[e];refine λH' x fs n s hx en tb=>k H' x s hx ⟨fs,x1,x2,x3,x4,kk,⟨?_,λr hr xs rs er=>?_⟩,d⟩
 ·injection en with en;rw[en];exact tb
 ·rcases hr with rfl|rfl|rfl|rfl
  ·cases er;exact r1.same s
  ·cases er;exact r2.same s
  ·cases er;exact r3.same s
  ·cases er;exact r4.same s
theorem KC{k1:Kv}{n:Int}{s l g a m:V}(h:GO k1 n s l g a m=.non):YQ k1 s g=.non/\∃i,l=.int i/\K1.Zr (.int i) 0 (n-1)=true/\K1.Zr a (i+1) n=true/\K1.Zr m 0 1000=true:=by
 unfold GO at h;by_cases e:YQ k1 s g=.non
 ·rw[if_neg (λz=>z e)]at h;refine⟨e,?_⟩;cases l with
 |int i=>dsimp only at h;refine⟨i,rfl,?_⟩;cases h1:K1.Zr (.int i) 0 (n-1)<;>cases h2:K1.Zr a (i+1) n<;>cases h3:K1.Zr m 0 1000<;>simp_all
 |_=>cases h
 ·rw[if_pos e]at h;exact absurd h e
theorem Di{k1:Kv}{s g l m:V}(h:wayV k1 s g l m=.non):YQ k1 s g=.non/\K1.Zr l 1 50=true/\K1.Zr m 0 1000=true:=by
 unfold wayV at h;by_cases e:YQ k1 s g=.non
 ·rw[if_neg (λz=>z e)]at h;refine⟨e,?_⟩;cases h1:K1.Zr l 1 50<;>cases h2:K1.Zr m 0 1000<;>simp_all
 ·rw[if_pos e]at h;exact absurd h e
theorem Ww{k1:Kv}{n pp:Int}{p t m:V}(h:Xu k1 n pp p t m=.non):ZP p k1=true/\K1.Zr t 0 n=true:=by unfold Xu at h;cases h1:ZP p k1<;>cases h2:K1.Zr t 0 n<;>simp_all
theorem Um{k1:Kv}{s g:V}(h:YQ k1 s g=.non):ZP s k1=true/\ZP g k1=true/\MH s k1=false:=by unfold YQ at h;cases h1:ZP s k1<;>cases h2:ZP g k1<;>cases h3:MH s k1<;>simp_all
theorem Pw{g:Bool}{z:Str}(h:Z0 g (.str z)=true):z.length<=1000:=by
 have h12:K1.lenB 12 (codes z)=true\/K1.lenB 8 (codes z)=true:=by
  cases g
  ·right;have h':K1.Jr 8 (K1.codes K1.tNAME) (codes z)=true:=h;unfold K1.Jr K1.YK at h';exact(Bool.and_eq_true_iff.mp (Bool.and_eq_true_iff.mp h').1).1
  ·left;have h':K1.Jr 12 (K1.codes K1.tGROUP) (codes z)=true:=h;unfold K1.Jr K1.YK at h';exact(Bool.and_eq_true_iff.mp (Bool.and_eq_true_iff.mp h').1).1
 unfold K1.lenB at h12;rw[ZN]at h12;simp only[Bool.and_eq_true,decide_eq_true_eq]at h12;omega
theorem QM{ps:Pl}{s g:Str}(h:Ends ps s g){k1:Kv}(hk:MV k1 (ps.map ZG)):YQ k1 (.str s) (.str g)=.non:=by obtain⟨⟨i,hi⟩,⟨r,hr⟩,ne⟩:=h;have e1:valV k1 (.inr s)=some (.int i):=hk _ (av.mpr ⟨_,hi,rfl⟩);have e2:valV k1 (.inr g)=some (Y0 r):=hk _ (av.mpr ⟨_,hr,rfl⟩);unfold YQ ZP MH;simp only[e1,e2,Option.isSome_some,Bool.not_true,Bool.or_false,Bool.false_eq_true,if_false];rw[if_neg (by simp),if_neg (by intro z;injection z with z;exact ne z.symm)]
theorem Xp(i:Int):Flat (.int i):=.inr (.inl ⟨i,rfl⟩)
theorem YW{z:Str}(h:z.length<=1000):Flat (.str z):=.inr (.inr ⟨z,rfl,h⟩)
section
variable {n:Int}{ps:Pl}
theorem KL{p:Str×Option Int}{t1:List (List V)}(hn:Z0 false (.str p.1)=true)(hr:∀i,p.2=some i->0<=i/\i<=1000):RowOk 1 n t1 (ZG p):=by
 refine⟨rfl,hn,λk1 _ pp _=>?_,λz=>(by cases z),λy hy=>?_⟩
 ·show Yh (Y0 p.2)=.non;unfold Yh;rw[if_pos];cases e:p.2 with
 |none=>rfl
 |some i=>have:=hr i e;simp[Y0,K1.Zr,this.1,this.2]
 ·simp only[ZG,au,aG,or_false]at hy;rcases hy with rfl|rfl
  ·exact YW (Pw hn)
  ·cases p.2 with
  |none=>exact .inl rfl
  |some i=>exact Xp i
theorem El(gp:∀p∈ps,p.1.length<=1000){r:Rd}(g:GoodRd n ps r)(hn:Z0 false (.str r.nm)=true):RowOk 2 n (ps.map ZG) (X9 r):=by
 refine⟨rfl,hn,λk1 hk pp _=>?_,λz=>(by cases z),λy hy=>?_⟩
 ·show GO k1 n (.str r.st) (.int r.lv) (.str r.gl) (.int r.cm) (.int r.se)=.non;unfold GO;rw[QM g.ends (hk (by decide)),if_neg (λz=>z rfl)];dsimp only;rw[Y2 g.lv0 g.lv1,Y2 g.cm0 g.cm1,Y2 g.se0 g.se1];rfl
 ·obtain⟨⟨i,hi⟩,⟨x,hx⟩,_⟩:=g.ends;simp only[X9,au,aG,or_false]at hy;rcases hy with rfl|rfl|rfl|rfl|rfl|rfl
  ·exact YW (Pw hn)
  ·exact YW (gp _ hi)
  ·exact Xp _
  ·exact YW (gp _ hx)
  ·exact Xp _
  ·exact Xp _
theorem F5(gp:∀p∈ps,p.1.length<=1000){r:Wy}(g:GoodWy ps r)(hn:Z0 false (.str r.nm)=true):RowOk 3 n (ps.map ZG) (VZ r):=by
 refine⟨rfl,hn,λk1 hk pp _=>?_,λz=>(by cases z),λy hy=>?_⟩
 ·show wayV k1 (.str r.st) (.str r.gl) (.int r.lo) (.int r.wi)=.non;unfold wayV;rw[QM g.ends (hk (by decide)),if_neg (λz=>z rfl),Y2 g.lo0 g.lo1,Y2 g.wi0 g.wi1];rfl
 ·obtain⟨⟨i,hi⟩,⟨x,hx⟩,_⟩:=g.ends;simp only[VZ,au,aG,or_false]at hy;rcases hy with rfl|rfl|rfl|rfl|rfl
  ·exact YW (Pw hn)
  ·exact YW (gp _ hi)
  ·exact YW (gp _ hx)
  ·exact Xp _
  ·exact Xp _
theorem Ex{t1:List (List V)}{r:Gr}{v:V}(hp:∃p∈t1,nameOf p=r.pl)(pl:r.pl.length<=1000)(t0:0<=r.tu)(t1':r.tu<=n)(m0:0<=r.ma)(m1:r.ma<=300)(hn:Z0 true (.str r.nm)=true):RowOk 4 n t1 (grRow r):=by
 refine⟨rfl,hn,λk1 hk pp hpp=>?_,λ_=>m0,λy hy=>?_⟩
 ·show Xu k1 n pp (.str r.pl) (.int r.tu) (.int r.ma)=.non;obtain⟨p,hp,e⟩:=hp;have e1:=hk (by decide) p hp;rw[e]at e1;unfold Xu;rw[show ZP (.str r.pl) k1=true from by show(valV k1 (.inr r.pl)).isSome=true;rw[e1];rfl,Y2 t0 t1'];dsimp only;rw[Y2 m0 m1];have:=hpp rfl;have em:Yu (grRow r)=r.ma:=rfl;rw[em]at this;simp only[Bool.not_true,Bool.false_eq_true,if_false];rw[if_neg (by omega)]
 ·simp only[grRow,au,aG,or_false]at hy;rcases hy with rfl|rfl|rfl|rfl
  ·exact YW (Pw hn)
  ·exact YW pl
  ·exact Xp _
  ·exact Xp _
end
theorem Wv{n:Int}{ps:Pl}{gs:List Gr}{bs:List Str}(sh:∀p∈ps,p.1.length<=1000)(nd:bs.Nodup)(nm:∀t∈bs,Nm t)(lb:bs.length<=12)(len:gs.length=bs.length)(g:∀(i:Nat)b r,bs[i]?=some b->gs[i]?=some r->GoodGr n ps b r):PM 4 n (ps.map ZG) (gs.map grRow)/\((gs.map grRow).map Yu).sum<=60/\∀z∈(gs.map grRow).map nameOf,∃b∈bs,∃s∈sufs,z=b++s:=by
 have grAt:∀r∈gs,∃b,b∈bs/\GoodGr n ps b r:=λr hr=>by
  obtain⟨i,hi⟩:=bj.mp hr;have:i<bs.length:=by rw[<-len];exact(aw.mp hi).1
  exact⟨bs[i],aH this,g i _ r (gE this) hi⟩
 have e4:(gs.map grRow).map nameOf=gs.map (·.nm):=by rw[dB];rfl
 have sle:∀rs:List Gr,(∀r∈rs,r.ma<=5)->((rs.map grRow).map Yu).sum<=5*rs.length:=λrs h=>by
  induction rs with
 |nil=>simp
 |cons r rs ih=>have h1:=h r az;have h2:=ih λq hq=>h q (aq _ hq);have em:Yu (grRow r)=r.ma:=rfl;rw[aI,aI,fH,em,aP];omega
 have sm:((gs.map grRow).map Yu).sum<=60:=by
  have:=sle gs λr hr=>let ⟨b,_,q⟩:=grAt r hr;q.ma1
  omega
 refine⟨⟨by rw[lm];show gs.length<=300;omega,?_,λys hy=>?_,λ_=>by omega⟩,sm,λz hz=>?_⟩
 ·rw[e4];have:∀(i:Nat)r b,gs[i]?=some r->bs[i]?=some b->(codes r.nm).takeWhile (λc=>decide (c∈LET))=codes b:=λi r b h1 h2=>by obtain⟨s,hs,e⟩:=(g i b r h2 h1).nm;rw[e];exact T9 (nm b (aQ h2)) hs
  rw[List.nodup_iff_pairwise_ne,List.pairwise_iff_getElem];intro i j hi hj hij e;simp only[bu]at hi hj;simp only[List.getElem_map]at e;have b1:=this i _ _ (gE hi) (gE (by rw[<-len];exact hi));have b2:=this j _ _ (gE hj) (gE (by rw[<-len];exact hj));rw[e]at b1;have:=WH (b1.symm.trans b2);exact absurd ((fO nd).mp this) (Nat.ne_of_lt hij)
 ·obtain⟨r,hr,rfl⟩:=av.mp hy;obtain⟨b,hb,q⟩:=grAt r hr;obtain⟨s,hs,e⟩:=q.nm;obtain⟨x,hx⟩:=q.pl;exact Ex (v:=.non) ⟨_,av.mpr ⟨_,hx,rfl⟩,rfl⟩ (sh _ hx) q.tu0 q.tu1 q.ma0 (by have:=q.ma1;omega) (by rw[e];exact FO (nm b hb) hs)
 ·rw[e4]at hz;obtain⟨r,hr,rfl⟩:=av.mp hz;obtain⟨b,hb,q⟩:=grAt r hr;obtain⟨s,hs,e⟩:=q.nm;exact⟨b,hb,s,hs,e⟩
structure LInv(T:Tb)(ps:Pl)(s:Str):Prop where
 ok:OkTb T
 t1:T.t1=ps.map ZG
 pl:GoodPl ps
 len:T.t2.length<=79
 nm:Nm s
 s:s∉T.t2.map nameOf
noncomputable def tbOf(W:Wd):Tb:=⟨W.n,W.ps.map ZG,W.rs.map X9,W.ws.map VZ,W.gs.map grRow⟩
theorem WorldAt.tb{b:Addr}{H:Hp}{p:Addr}{W:Wd}{l1 l2 l3 l4:Addr}(h:WorldAt b H p W l1 l2 l3 l4):TbAt b H p (tbOf W) l1 l2 l3 l4:=⟨h.ne,h.at_,h.pl,h.rd,h.wy,h.gr⟩
theorem Nm.short{t:Str}(h:Nm t):t.length<=1000:=by have:=h.2.1;rw[ZN]at this;omega
theorem drawn{W:Wd}{bs:List Str}{s0 s1 s2 s3:Str}(g:GoodW W bs)(st:Strange W bs s0 s1 s2 s3):LInv (tbOf W) W.ps s1:=by
 have sh:∀p∈W.ps,p.1.length<=1000:=λp hp=>(g.pl.nm p hp).short;have c1:=g.pl.hi;have c2:=st.r.len;have c3:=st.w.len;rw[lm]at c2 c3;have e2:(W.rs.map X9).map nameOf=W.rs.map (·.nm):=by rw[dB];rfl
 have e3:(W.ws.map VZ).map nameOf=W.ws.map (·.nm):=by rw[dB];rfl
 have e1:(W.ps.map ZG).map nameOf=W.ps.map (·.1):=by rw[dB];rfl
 refine⟨⟨g.n0,g.n1,λj hj=>?_⟩,rfl,g.pl,by show(W.rs.map X9).length<=79;rw[lm];omega,st.r.snm,by show _∉(W.rs.map X9).map nameOf;rw[e2];exact st.r.s⟩;rcases hj with rfl|rfl|rfl|rfl
 ·refine⟨by show(W.ps.map ZG).length<=14;rw[lm];omega,by show((W.ps.map ZG).map nameOf).Nodup;rw[e1];exact g.pl.nd,λys hy=>?_,λz=>by cases z⟩;obtain⟨p,hp,rfl⟩:=av.mp hy;exact KL (Le (g.pl.nm p hp)) (g.pl.room p hp)
 ·refine⟨by show(W.rs.map X9).length<=80;rw[lm];omega,by show((W.rs.map X9).map nameOf).Nodup;rw[e2];exact st.r.nd,λys hy=>?_,λz=>by cases z⟩;obtain⟨r,hr,rfl⟩:=av.mp hy;exact El sh (g.rd r hr) (Le (st.r.nm _ (av.mpr ⟨r,hr,rfl⟩)))
 ·refine⟨by show(W.ws.map VZ).length<=40;rw[lm];omega,by show((W.ws.map VZ).map nameOf).Nodup;rw[e3];exact st.w.nd,λys hy=>?_,λz=>by cases z⟩;obtain⟨r,hr,rfl⟩:=av.mp hy;exact F5 sh (g.wy r hr) (Le (st.w.nm _ (av.mpr ⟨r,hr,rfl⟩)))
 ·exact(Wv sh st.g.nd st.g.nm st.g.len g.len g.gr).1
theorem Pu{T:Tb}(o:OkTb T):∃k1,PlDict k1 T.t1:=by obtain⟨k1,_,d,_⟩:=Jo (j:=1) (k1:=[]) (n:=T.n) (t1:=T.t1) (.inl rfl) (λh=>absurd rfl h) (o.part 1 (.inl rfl)) (xs:=T.t1.map λ_=>V.non) (by rw[lm];rfl);exact⟨k1,d rfl⟩
theorem Mq:(∀c∈K1.codes K1.tNAME,c<0x110000)/\∀c∈K1.codes K1.tGROUP,c<0x110000:=by decide +kernel
theorem DT{g:Bool}{z:Str}(h:Z0 g (.str z)=true):GS z:=by
 cases g
 ·have h':K1.Jr 8 (K1.codes K1.tNAME) (codes z)=true:=h;unfold K1.Jr K1.YK K1.lenB at h';simp only[Bool.and_eq_true,decide_eq_true_eq,bV]at h';exact⟨by rw[<-ZN];omega,λc hc=>Mq.1 c (h'.1.2 c hc)⟩
 ·have h':K1.Jr 12 (K1.codes K1.tGROUP) (codes z)=true:=h;unfold K1.Jr K1.YK K1.lenB at h';simp only[Bool.and_eq_true,decide_eq_true_eq,bV]at h';exact⟨by rw[<-ZN];omega,λc hc=>Mq.2 c (h'.1.2 c hc)⟩
theorem within_int{v:V}{lo hi:Int}(h:K1.Zr v lo hi=true):∃i,v=.int i/\lo<=i/\i<=hi:=by
 cases v with
|int i=>have h':(decide (lo<=i)&&decide (i<=hi))=true:=h;simp only[Bool.and_eq_true,decide_eq_true_eq]at h';exact⟨i,rfl,h'.1,h'.2⟩
|_=>cases h
theorem QJ{k1:Kv}{n pp:Int}{p t m:V}(h:Xu k1 n pp p t m=.non):ZP p k1=true/\K1.Zr t 0 n=true/\∃i,m=.int i/\0<=i/\i<=300:=by
 obtain⟨h1,h2⟩:=Ww h;refine⟨h1,h2,?_⟩;unfold Xu at h;rw[h1,h2]at h;cases m with
|int i=>
  cases hw:K1.Zr (.int i) 0 300 with
 |true=>exact within_int hw
 |false=>dsimp only at h;rw[hw]at h;cases h
|_=>cases h
theorem RD{k1:Kv}{t1:List (List V)}(hk:PlDict k1 t1){x:V}(h:ZP x k1=true):∃p∈t1,x=.str (nameOf p):=by
 obtain⟨z,v,rfl,hv⟩:=Yw h;by_cases hz:z∈t1.map nameOf
 ·obtain⟨p,hp,e⟩:=av.mp hz;exact⟨p,hp,by rw[e]⟩
 ·rw[hk.no z hz]at hv;cases hv
section
variable {T:Tb}(o:OkTb T)
include o
theorem Mt{j:Nat}(hj:isJ j){ys:List V}(h:ys∈T.part j):RowOk j T.n T.t1 ys:=(o.part j hj).2.row ys h
theorem JZ{j:Nat}(hj:isJ j){ys:List V}(h:ys∈T.part j):at_ ys 0=.str (nameOf ys)/\GS (nameOf ys):=by have r:=Mt o hj h;refine⟨r.name,?_⟩;have:=r.nm;rw[show at_ ys 0=.str (nameOf ys)from r.name]at this;exact DT this
theorem Gf{k1:Kv}(hk:PlDict k1 T.t1){x:V}(h:ZP x k1=true):Atm x:=by obtain⟨p,hp,rfl⟩:=RD hk h;exact .str (JZ o (j:=1) (.inl rfl) hp).2
theorem Xh{ys:List V}(h:ys∈T.t1):∃p:Str×Option Int,ys=ZG p/\GS p.1/\∀i,p.2=some i->0<=i/\i<=1000:=by
 have r:=Mt o (j:=1) (.inl rfl) h;obtain⟨e0,g⟩:=JZ o (j:=1) (.inl rfl) h;have hw:Yh (at_ ys 1)=.non:=r.why [] (λz=>absurd rfl z) 0 (λz=>by cases z);obtain⟨a,c,rfl⟩:=len2 r.len;have ea:a=.str (nameOf [a,c]):=e0;have hw:Yh c=.non:=hw;unfold Yh at hw;by_cases e:c=.non
 ·exact⟨(nameOf [a,c],none),by rw[e];rw[e]at ea;rw[<-ea.symm];rfl,g,λi q=>by cases q⟩
 ·have hb:K1.Zr c 0 1000=true:=by
   cases hb:K1.Zr c 0 1000 with
  |true=>rfl
  |false=>rw[hb,decide_eq_false e,Bool.or_false,if_neg (by decide)]at hw;cases hw
  obtain⟨i,rfl,h0,h1⟩:=within_int hb;exact⟨(nameOf [a,.int i],some i),by rw[<-ea.symm];rfl,g,λj q=>by cases q;exact⟨h0,h1⟩⟩
theorem Wg{ys:List V}(h:ys∈T.t2){k1:Kv}(hk:MV k1 T.t1):∃z s lv g cm se,ys=[.str z,s,.int lv,g,.int cm,.int se]/\nameOf ys=z/\YQ k1 s g=.non/\0<=lv/\lv<=T.n-1/\lv+1<=cm/\cm<=T.n/\0<=se/\se<=1000:=by have r:=Mt o (j:=2) (.inr (.inl rfl)) h;have hw:JU k1 T.n ys=.non:=r.why k1 (λ_=>hk) 0 (λz=>by cases z);obtain⟨a,b,c,d,e,f,rfl⟩:=len6 r.len;have ea:a=.str (nameOf [a,b,c,d,e,f]):=r.name;have hw:GO k1 T.n b c d e f=.non:=hw;obtain⟨he,i,rfl,h1,h2,h3⟩:=KC hw;obtain⟨i',q,a1,a2⟩:=within_int h1;cases q;obtain⟨cm,rfl,b1,b2⟩:=within_int h2;obtain⟨se,rfl,c1,c2⟩:=within_int h3;exact⟨_,b,i,d,cm,se,congrArg (λq=>q::[b,.int i,d,.int cm,.int se]) ea,rfl,he,a1,a2,b1,b2,c1,c2⟩
theorem QN{k1:Kv}(hk:PlDict k1 T.t1){s g:V}(h:YQ k1 s g=.non):Atm s/\Atm g:=⟨Gf o hk (Um h).1,Gf o hk (Um h).2.1⟩
end
end WD
namespace TB
open PySem L2 PySem.Spec PyProof.Rows WD
section
variable {P:Program}{w:World}{K:af}{mg:Str->Option Value}{base:Heap}{C Cn:Addr}
theorem Qd:FnScope ["self","thing"] ["self","thing"] (Ze T.m_Table_is_group):=scO
theorem PD(Z:TCl K C)(D:DfM K C "is_group" "Table.is_group" T.m_Table_is_group ["self","thing"])(CK:Can P w K mg base 1 "is_known" ["thing","names"] N9):CanM P w K mg base CX0 2 C "is_group" ["self","thing"] (Mp C "group_by_name"):=by refine D.cn Qd λf cdv A outer s H vs Q E hr h=>?_;obtain⟨t,x,T',fs,d,kvs,rfl,⟨⟨dx,ht⟩,_⟩,hl,hd,th,k⟩:=h;refine⟨_,Zj (Zn (Z3 CK hr rfl (Zk (pv 1) (Zk (ZI (pv 0) rfl) Zh)))),?_⟩;exact⟨_,rfl,_,rfl,t,C,dx,fs,_,rfl,ht,Z.cl,Z.na _ (by simp[fields]),hl,x,T',d,kvs,rfl,th,hd,k⟩
end
end TB
namespace L2
open PySem PySem.Spec PyProof.Rows
structure BaseM(K:af)(C:Addr)(m:Str)(f:Addr):Prop where
 ga:fj K (.ref C) "__getattribute__"=some (some (.builtin "type.__getattribute__"))
 rd:∃mc,PySem.W.readsIn K C mc=true/\PySem.W.findCls K (.ref C) mc m=some (.val (.ref f))
 kp:aJ K (.ref f)=true
theorem G6{X:Cx}{CX:CXT}{k:Nat}{f C:Addr}{fd:bH}{ps:List Str}{ds:List Value}{dvs:List V}{sp:Sp}{E:XK}{m:Str}{pos apos:Pos}{e o:Expr}{es:List Expr}{t:TA}{pl:Sem Bool}(he:PE X o (tC (.ref C)))(hm:BaseM X.K C m f)(F:FnOk X.prog X.w X.K X.mg X.base CX k f fd ps sp)(hr:Room k X.A)(hb:Binds X.K fd ps ds)(hd:Vals dvs ds)(hx:Passes CX X E)(ha:PA X (e::es) t)
  (hst:aA (e::es) X.env=(false,eval e X.env)::aA es X.env:=by rfl) (hpl:(b8 pos (aA es X.env)).any (·.1)=false:=by rfl)
  (ht:eval (.Call (.Attribute o m apos) (e::es) [] pos) X.env=(do
   let ov <-eval o X.env
   gu apos.atName
   let (f,first) <-eS [ov] (eQ ov m pl)
   f_ pos f first (b8 pos (aA (e::es) X.env)) (d6 pos (cU [] X.env))):=by rfl):
  PE X (.Call (.Attribute o m apos) (e::es) [] pos) (Nn sp dvs E t):=by
 intro pins s σ H Q I h
 obtain⟨mc,h1,h2⟩:=hm.rd
 refine dE (pl:=pl) (he pins s σ H (λv H1=>v=.ref C/\H1=H) I ⟨rfl,rfl⟩ |> λq=>thn q λu s1 hZ=>?_) ht;obtain⟨x,H1,I1,rx,ex,eH⟩:=hZ
 subst ex
 subst eH
 obtain rfl:u=Value.ref C:=rx
 refine PySem.W.method_cls I1.kIn hm.ga (PySem.W.cls_value I1.kIn h1 h2 rfl ?_)
 refine du (first:=[]) (h₀:=X.base) I.ok.mod.kin hm.kp (thn (ha pos pins _ σ H1 _ (I1.tok _) h) λus s2⟨vs,H2,I2,r,q2⟩=>⟨I2.kIn,?_⟩) hst hpl
 exact Pj F hr hb hd hx I2 r q2
section
variable {X:Cx}
def tCut(t:TS):TS:=λD σ H=>∃M:L2.St->Hp->Prop,t {D with nx:=M} σ H/\∀σ' H',M σ' H'->D.nx σ' H'
theorem KH{st:Stmt}{t:TS}(h:PS X st t):PS X st (tCut t):=by
 intro pins s σ H D I ⟨M,q,k⟩;refine thn (h pins s σ H _ I q) λfl s' z=>?_;cases fl with
|next=>obtain⟨σ',H',I',m⟩:=z;exact⟨σ',H',I',k _ _ m⟩
|brk=>exact z
|cont=>exact z
|ret u=>exact z
end
end L2
namespace SX
open PySem L2 PySem.Spec PyProof.Rows TB WD
noncomputable def sA(ys:List V)(j:Nat):Str:=match at_ ys j with|.str z=>z|_=>""
noncomputable def iA(ys:List V)(j:Nat):Int:=match at_ ys j with|.int i=>i|_=>0
structure Sx where
 key:List Key
 tail:PyData
 head:PyData
 room:V
 price:Int
noncomputable def outS(y:List V)(i:Int):Sx:=⟨[.inr "out",.inr (nameOf y),.inl i],.str (nameOf y),.tuple [.str (sA y 1),.int i],.non,0⟩
noncomputable def Xw(y:List V):Sx:=⟨[.inr "ride",.inr (nameOf y)],.tuple [.str (sA y 1),.int (iA y 2)],.tuple [.str (sA y 3),.int (iA y 4)],.int (iA y 5),iA y 4-iA y 2⟩
noncomputable def V1(y:List V)(i:Int):Sx:=⟨[.inr "walk",.inr (nameOf y),.inl i],.tuple [.str (sA y 1),.int i],.tuple [.str (sA y 2),.int (i+iA y 3)],.int (iA y 4),iA y 3⟩
noncomputable def VC(y:List V)(i:Int):Sx:=⟨[.inr "wait",.inr (nameOf y),.inl i],.tuple [.str (nameOf y),.int i],.tuple [.str (nameOf y),.int (i+1)],at_ y 1,1⟩
def Xv(T:Tb)(vs:List V)(j:Nat)(S:Sx):Prop:=(∃y∈T.t4,∃i,vs=[.str "out",.str (nameOf y),.int i]/\iA y 2<=i/\i<=T.n/\j=0/\S=outS y i) \/(∃y∈T.t2,vs=[.str "ride",.str (nameOf y)]/\j=1/\S=Xw y) \/(∃y∈T.t3,∃i,vs=[.str "walk",.str (nameOf y),.int i]/\0<=i/\i<=T.n-iA y 3/\j=2/\S=V1 y i) \/∃y∈T.t1,∃i,vs=[.str "wait",.str (nameOf y),.int i]/\at_ y 1≠.non/\0<=i/\i<=T.n-1/\j=3/\S=VC y i
theorem Xv.key{T:Tb}{vs:List V}{j:Nat}{S:Sx}(h:Xv T vs j S):vs=S.key.map kV/\j<4:=by rcases h with⟨y,_,i,e,_,_,rfl,rfl⟩|⟨y,_,e,rfl,rfl⟩|⟨y,_,i,e,_,_,rfl,rfl⟩|⟨y,_,i,e,_,_,_,rfl,rfl⟩<;>exact⟨e,by decide⟩
theorem HL{T:Tb}(o:OkTb T){j:Nat}(hj:isJ j):((T.part j).map nameOf).Nodup:=(o.part j hj).2.nd
theorem W6:("out":Str)≠"walk"/\("out":Str)≠"wait"/\("walk":Str)≠"wait"/\("out":Str)≠"ride"/\("walk":Str)≠"ride"/\("wait":Str)≠"ride":=by decide +kernel
noncomputable def flds(vk vt vh vr vp:V):List (Str×V):=[("its_key",vk),("its_tail",vt),("its_head",vh),("its_room",vr),("its_price",vp)]
def XZ(H:Hp)(Cs:Nat->Addr)(x:Addr)(j:Nat)(S:Sx):Prop:=∃dx k vt vh,H x=some (.ins (Cs j) dx (flds (.ref k) vt vh S.room (.int S.price)))/\H k=some (.tup (S.key.map kV))/\Is H vt S.tail/\Is H vh S.head
theorem XZ.same{H H':Hp}{Cs:Nat->Addr}{x:Addr}{j:Nat}{S:Sx}(s:Same H H')(h:XZ H Cs x j S):XZ H' Cs x j S:=by obtain⟨dx,k,vt,vh,h1,h2,h3,h4⟩:=h;exact⟨dx,k,vt,vh,s _ _ h1,s _ _ h2,h3.same s,h4.same s⟩
noncomputable def fnames:List Str:=["its_key","its_tail","its_head","its_room","its_price"]
structure SCl(K:af)(C:Addr):Prop where
 cl:Cls K C
 na:∀f∈fnames,Z1 K C f
def SN(K:af):Sp:=λvs H Q _=>∃(x C dx:Addr)(vk vt vh vr vp:V),vs=[.ref x,vk,vt,vh,vr,vp]/\SCl K C/\H x=some (.ins C dx [])/\Q .non (upd H x (.ins C dx (flds vk vt vh vr vp)))
structure CanB(P:Program)(w:World)(K:af)(mg:Str->Option Value)(base:Heap)(Cb:Addr):Prop where
 at_:∃f fd,FnOk P w K mg base CX0 1 f fd ["self","key","tail","head","room","price"] (SN K)/\BaseM K Cb "__init__" f/\Binds K fd ["self","key","tail","head","room","price"] []
 mg:mg "Step"=some (.ref Cb)
structure SMk(P:Program)(w:World)(K:af)(mg:Str->Option Value)(base:Heap)(x:Str)(C:Addr)(ps:List Str)(sp:Sp):Prop where
 made:∃f fd,Mk K C f/\FnOk P w K mg base CX0 2 f fd ps sp/\Binds K fd ps []
 mg:mg x=some (.ref C)
def spMk(K:af)(Cs:Nat->Addr)(j:Nat)(rd:List V->List V->Sx->Prop):Sp:=λvs H Q _=>∃(x dx r:Addr)(y:List V)(us:List V)(S:Sx),vs=.ref x::.ref r::us/\SCl K (Cs j)/\H x=some (.ins (Cs j) dx [])/\H r=some (.tup y)/\rd y us S /\∀H',Zi x H H'->XZ H' Cs x j S->Q .non H'
def KD(y us:List V)(S:Sx):Prop:=∃a b c d i,y=[.str a,.str b,c,d]/\us=[.int i]/\S=outS y i
def Rq(y us:List V)(S:Sx):Prop:=∃a b c d e f,y=[.str a,.str b,.int c,.str d,.int e,.int f]/\us=[]/\S=Xw y
def Ro(y us:List V)(S:Sx):Prop:=∃a b c d e i,y=[.str a,.str b,.str c,.int d,.int e]/\us=[.int i]/\S=V1 y i
def Rp(y us:List V)(S:Sx):Prop:=∃a b i,y=[.str a,b]/\us=[.int i]/\S=VC y i
theorem nof{K:af}{C:Addr}(Z:SCl K C){f:Str}(h:f∈fnames):Z1 K C f:=Z.na f h
mutual
theorem J3{H:Hp}{x:Addr}{o:HO}(hx:∀xs,H x≠some (.lst xs)/\H x≠some (.tup xs)):∀{v:V}{d:PyData},Is H v d->Is (upd H x o) v d
|_,_,.non=>.non
|_,_,.bl b=>.bl b
|_,_,.int i=>.int i
|_,_,.str z=>.str z
|_,_,.lst e r=>.lst (by rw[Zg (λz=>(hx _).1 (z▸e))];exact e) (Gh hx r)
|_,_,.tup e r=>.tup (by rw[Zg (λz=>(hx _).2 (z▸e))];exact e) (Gh hx r)
theorem Gh{H:Hp}{x:Addr}{o:HO}(hx:∀xs,H x≠some (.lst xs)/\H x≠some (.tup xs)):∀{v:List V}{d:List PyData},IsAll H v d->IsAll (upd H x o) v d
|_,_,.nil=>.nil
|_,_,.cons h r=>.cons (J3 hx h) (Gh hx r)
end
theorem GZ{H:Hp}{Cs:Nat->Addr}{x dx k:Addr}{j:Nat}{S:Sx}{vt vh:V}{fs:List (Str×V)}(hx:H x=some (.ins (Cs j) dx fs))(hk:H k=some (.tup (S.key.map kV)))(ht:Is H vt S.tail)(hh:Is H vh S.head):XZ (upd H x (.ins (Cs j) dx (flds (.ref k) vt vh S.room (.int S.price)))) Cs x j S:=by have kp:∀{v:V}{d:PyData},Is H v d->Is (upd H x (.ins (Cs j) dx (flds (.ref k) vt vh S.room (.int S.price)))) v d:=λh=>J3 (λxs=>⟨(λz=>by rw[hx]at z;cases z),(λz=>by rw[hx]at z;cases z)⟩) h;exact⟨dx,k,vt,vh,Zb,by rw[Zg (ne_of hk hx (by intro z;cases z))];exact hk,kp ht,kp hh⟩
theorem pfl{f:Str}{v:V}{fs:List (Str×V)}{n:Nat}(h:fs.length<n):(putF f v fs).length<n+1:=by have:=Yd f v fs;omega
theorem small{n:Nat}(h:n<10):n<1000:=by omega
section
variable {P:Program}{w:World}{K:af}{mg:Str->Option Value}{base:Heap}{Cb:Addr}{Cs:Nat->Addr}
theorem U6:FnScope ["self","key","tail","head","room","price"] ["self","key","tail","head","room","price"] (Ze T.m_Step___init__):=scO
theorem Lb{f:Addr}{fd:bH}(F:Fun K "__init__" "Step.__init__" T.m_Step___init__ f fd):FnOk P w K mg base CX0 1 f fd ["self","key","tail","head","room","price"] (SN K):=by
 refine F.ok U6 (λvs H Q E h=>?_) (λcdv A outer s H vs Q E hr h=>?_)
 ·obtain⟨x,C,dx,vk,vt,vh,vr,vp,rfl,_⟩:=h;rfl
 ·obtain⟨x,C,dx,vk,vt,vh,vr,vp,rfl,Z,hx,k⟩:=h;refine⟨_,(Zd (YA (pv 0) (pv 1) rfl) (Zd (YA (pv 0) (pv 2) rfl) (Zd (YA (pv 0) (pv 3) rfl) (Zd (YA (pv 0) (pv 4) rfl) (Zj (YA (pv 0) (pv 5) rfl)))))),?_⟩;refine⟨_,rfl,_,rfl,x,C,dx,_,rfl,hx,Z.cl,nof Z (by decide +kernel),by decide,?_⟩;refine⟨_,rfl,_,rfl,x,C,dx,_,rfl,Zb,Z.cl,nof Z (by decide +kernel),small (n:=_) (pfl (Nat.zero_lt_succ 8)),?_⟩;refine⟨_,rfl,_,rfl,x,C,dx,_,rfl,Zb,Z.cl,nof Z (by decide +kernel),small (n:=_) (pfl (pfl (Nat.zero_lt_succ 7))),?_⟩;refine⟨_,rfl,_,rfl,x,C,dx,_,rfl,Zb,Z.cl,nof Z (by decide +kernel),small (n:=_) (pfl (pfl (pfl (Nat.zero_lt_succ 6)))),?_⟩;refine⟨_,rfl,_,rfl,x,C,dx,_,rfl,Zb,Z.cl,nof Z (by decide +kernel),small (n:=_) (pfl (pfl (pfl (pfl (Nat.zero_lt_succ 5))))),?_⟩;simp only[Dl];exact k
theorem VO:FnScope ["self","row","turn"] ["self","row","turn"] (Ze T.m_SetOut___init__):=scO
theorem E4{f:Addr}{fd:bH}(CB:CanB P w K mg base Cb)(F:Fun K "__init__" "SetOut.__init__" T.m_SetOut___init__ f fd):FnOk P w K mg base CX0 2 f fd ["self","row","turn"] (spMk K Cs 0 KD):=by
 obtain⟨f1,fd1,F1,b1,bd1⟩:=CB.at_;refine F.ok VO (λvs H Q E h=>?_) (λcdv A outer s H vs Q E hr h=>?_)
 ·obtain⟨x,dx,r,y,us,S,rfl,_,_,_,⟨a,b,c,d,i,_,rfl,_⟩,_⟩:=h;rfl
 ·obtain⟨x,dx,r,y,us,S,rfl,Z,hx,hy,⟨a,b,c,d,i,rfl,rfl,rfl⟩,k⟩:=h;refine' ⟨_,(@Zj _ _ _ ?h6),?rd⟩;case' h6=>refine' (ZF (G6 (ZQ (v:=.ref Cb) rfl CB.mg rfl) b1 F1 hr.m bd1 .nil Yk (@Za _ _ _ _ _ (pv 0) (@Za _ _ _ _ _ ?h5 (@Za _ _ _ _ _ ?h3 (@pa3 _ _ _ _ _ _ _ ?h2 Z4 Zc (by rfl)) (by rfl)) (by rfl)) (by rfl))))
  case' h5=>refine' (@Zt _ _ _ _ _ (@pa3 _ _ _ _ _ _ _ Zp ?h4 (pv 2) (by rfl)))
  case' h4=>refine' (@it _ _ _ _ _ _ K (pv 1) Zc (by rfl) (by exact λ_ _=>rfl))
  case' h3=>refine' (@it _ _ _ _ _ _ K (pv 1) Zc (by rfl) (by exact λ_ _=>rfl))
  case' h2=>refine' (@Zt _ _ _ _ _ (@pa2 _ _ _ _ _ ?h1 (pv 2) (by rfl)))
  case' h1=>refine' (@it _ _ _ _ _ _ K (pv 1) Zc (by rfl) (by exact λ_ _=>rfl))
  have at0:atI [V.str a,.str b,c,d] 0=some (.str a):=Zv (j:=0) rfl;have at1:atI [V.str a,.str b,c,d] 1=some (.str b):=Zv (j:=1) rfl;refine⟨_,rfl,_,rfl,r,_,0,_,rfl,rfl,SqT.of hy,at0,_,rfl,zl,λq1 h1=>?_⟩;dsimp only[tNil];refine nl2 h1 λH1 S1 e1=>?_;refine⟨_,rfl,r,_,0,_,rfl,rfl,SqT.of (S1 _ _ hy),at0,iaT (S1 _ _ hy) at1 ⟨_,rfl,zl,λq2 h2=>?_⟩⟩;dsimp only[tNil];refine nl2 h2 λH2 S2 e2=>?_;have S12:=S1.trans S2;refine⟨x,Cs 0,dx,_,_,_,_,_,rfl,Z,S12 _ _ hx,k _ ?_ ?_⟩
  ·exact λc o e hc=>by rw[Zg hc];exact S12 _ _ e
  ·exact GZ (S:=outS [.str a,.str b,c,d] i) (S12 _ _ hx) (S2 _ _ e1) (.str _) (.tup e2 (.cons (.str _) (.cons (.int _) .nil)))
theorem Y5:FnScope ["self","row","leave","come"] ["self","row"] (Ze T.m_Ride___init__):=scO
theorem DQ{f:Addr}{fd:bH}(CB:CanB P w K mg base Cb)(F:Fun K "__init__" "Ride.__init__" T.m_Ride___init__ f fd):FnOk P w K mg base CX0 2 f fd ["self","row"] (spMk K Cs 1 Rq):=by
 obtain⟨f1,fd1,F1,b1,bd1⟩:=CB.at_;refine F.ok Y5 (λvs H Q E h=>?_) (λcdv A outer s H vs Q E hr h=>?_)
 ·obtain⟨x,dx,r,y,us,S,rfl,_,_,_,⟨_,_,_,_,_,_,_,rfl,_⟩,_⟩:=h;rfl
 ·obtain⟨x,dx,r,y,us,S,rfl,Z,hx,hy,⟨a,b,c,d,e,g,rfl,rfl,rfl⟩,k⟩:=h;refine' ⟨_,(@Zd _ _ _ _ _ ?h10 (@Zd _ _ _ _ _ ?h11 (@Zj _ _ _ ?h12))),?rd⟩;case' h12=>refine' (ZF (G6 (ZQ (v:=.ref Cb) rfl CB.mg rfl) b1 F1 hr.m bd1 .nil Yk (@Za _ _ _ _ _ (pv 0) (@Za _ _ _ _ _ ?h9 (@Za _ _ _ _ _ ?h7 (@pa3 _ _ _ _ _ _ _ ?h5 ?h3 (Zw JY (pv 3) (pv 2)) (by rfl)) (by rfl)) (by rfl)) (by rfl))))
  case' h11=>refine' (@st _ _ _ _ 3 _ _ Y5.nd ?h2 (by rfl) (by exact bh rfl) (by rfl) (by exact .inl rfl))
  case' h10=>refine' (@st _ _ _ _ 2 _ _ Y5.nd ?h1 (by rfl) (by exact bh rfl) (by rfl) (by exact .inl rfl))
  case' h9=>refine' (@Zt _ _ _ _ _ (@pa2 _ _ _ _ _ Zp ?h8 (by rfl)))
  case' h8=>refine' (@it _ _ _ _ _ _ K (pv 1) Zc (by rfl) (by exact λ_ _=>rfl))
  case' h7=>refine' (@Zt _ _ _ _ _ (@pa2 _ _ _ _ _ ?h6 (pv 2) (by rfl)))
  case' h6=>refine' (@it _ _ _ _ _ _ K (pv 1) Zc (by rfl) (by exact λ_ _=>rfl))
  case' h5=>refine' (@Zt _ _ _ _ _ (@pa2 _ _ _ _ _ ?h4 (pv 3) (by rfl)))
  case' h4=>refine' (@it _ _ _ _ _ _ K (pv 1) Zc (by rfl) (by exact λ_ _=>rfl))
  case' h3=>refine' (@it _ _ _ _ _ _ K (pv 1) Zc (by rfl) (by exact λ_ _=>rfl))
  case' h2=>refine' (@it _ _ _ _ _ _ K (pv 1) Zc (by rfl) (by exact λ_ _=>rfl))
  case' h1=>refine' (@it _ _ _ _ _ _ K (pv 1) Zc (by rfl) (by exact λ_ _=>rfl))
  have at0:atI [V.str a,.str b,.int c,.str d,.int e,.int g] 0=some (.str a):=Zv (j:=0) rfl;have at1:atI [V.str a,.str b,.int c,.str d,.int e,.int g] 1=some (.str b):=Zv (j:=1) rfl;have at2:atI [V.str a,.str b,.int c,.str d,.int e,.int g] 2=some (.int c):=Zv (j:=2) rfl;have at3:atI [V.str a,.str b,.int c,.str d,.int e,.int g] 3=some (.str d):=Zv (j:=3) rfl;have at4:atI [V.str a,.str b,.int c,.str d,.int e,.int g] 4=some (.int e):=Zv (j:=4) rfl;have at5:atI [V.str a,.str b,.int c,.str d,.int e,.int g] 5=some (.int g):=Zv (j:=5) rfl;refine iaT hy at2 ?_;refine iaT hy at4 ?_;refine⟨_,rfl,_,rfl,r,_,0,_,rfl,rfl,SqT.of hy,at0,zl,λq1 h1=>?_⟩;dsimp only[tNil];refine nl2 h1 λH1 S1 e1=>?_;refine iaT (S1 _ _ hy) at1 ⟨_,rfl,zl,λq2 h2=>?_⟩;dsimp only[tNil];refine nl2 h2 λH2 S2 e2=>?_;have S12:=S1.trans S2;refine iaT (S12 _ _ hy) at3 ⟨_,rfl,zl,λq3 h3=>?_⟩;dsimp only[tNil];refine nl2 h3 λH3 S3 e3=>?_;have S13:=S12.trans S3;refine iaT (S13 _ _ hy) at5 ⟨_,rfl,_,rfl,_,_,rfl,rfl,?_⟩;refine⟨x,Cs 1,dx,_,_,_,_,_,rfl,Z,S13 _ _ hx,k _ ?_ ?_⟩
  ·exact λc o e hc=>by rw[Zg hc];exact S13 _ _ e
  ·exact GZ (S:=Xw [.str a,.str b,.int c,.str d,.int e,.int g]) (S13 _ _ hx) (S3 _ _ (S2 _ _ e1)) (.tup (S3 _ _ e2) (.cons (.str _) (.cons (.int _) .nil))) (.tup e3 (.cons (.str _) (.cons (.int _) .nil)))
theorem Jm:FnScope ["self","row","turn","long"] ["self","row","turn"] (Ze T.m_Walk___init__):=scO
theorem DO{f:Addr}{fd:bH}(CB:CanB P w K mg base Cb)(F:Fun K "__init__" "Walk.__init__" T.m_Walk___init__ f fd):FnOk P w K mg base CX0 2 f fd ["self","row","turn"] (spMk K Cs 2 Ro):=by
 obtain⟨f1,fd1,F1,b1,bd1⟩:=CB.at_;refine F.ok Jm (λvs H Q E h=>?_) (λcdv A outer s H vs Q E hr h=>?_)
 ·obtain⟨x,dx,r,y,us,S,rfl,_,_,_,⟨_,_,_,_,_,_,_,rfl,_⟩,_⟩:=h;rfl
 ·obtain⟨x,dx,r,y,us,S,rfl,Z,hx,hy,⟨a,b,c,d,e,i,rfl,rfl,rfl⟩,k⟩:=h;refine' ⟨_,(@Zd _ _ _ _ _ ?h9 (@Zj _ _ _ ?h10)),?rd⟩;case' h10=>refine' (ZF (G6 (ZQ (v:=.ref Cb) rfl CB.mg rfl) b1 F1 hr.m bd1 .nil Yk (@Za _ _ _ _ _ (pv 0) (@Za _ _ _ _ _ ?h8 (@Za _ _ _ _ _ ?h6 (@pa3 _ _ _ _ _ _ _ ?h4 ?h2 (pv 3) (by rfl)) (by rfl)) (by rfl)) (by rfl))))
  case' h9=>refine' (@st _ _ _ _ 3 _ _ Jm.nd ?h1 (by rfl) (by exact bh rfl) (by rfl) (by exact .inl rfl))
  case' h8=>refine' (@Zt _ _ _ _ _ (@pa3 _ _ _ _ _ _ _ Zp ?h7 (pv 2) (by rfl)))
  case' h7=>refine' (@it _ _ _ _ _ _ K (pv 1) Zc (by rfl) (by exact λ_ _=>rfl))
  case' h6=>refine' (@Zt _ _ _ _ _ (@pa2 _ _ _ _ _ ?h5 (pv 2) (by rfl)))
  case' h5=>refine' (@it _ _ _ _ _ _ K (pv 1) Zc (by rfl) (by exact λ_ _=>rfl))
  case' h4=>refine' (@Zt _ _ _ _ _ (@pa2 _ _ _ _ _ ?h3 (Zw ZX (pv 2) (pv 3)) (by rfl)))
  case' h3=>refine' (@it _ _ _ _ _ _ K (pv 1) Zc (by rfl) (by exact λ_ _=>rfl))
  case' h2=>refine' (@it _ _ _ _ _ _ K (pv 1) Zc (by rfl) (by exact λ_ _=>rfl))
  case' h1=>refine' (@it _ _ _ _ _ _ K (pv 1) Zc (by rfl) (by exact λ_ _=>rfl))
  have at0:atI [V.str a,.str b,.str c,.int d,.int e] 0=some (.str a):=Zv (j:=0) rfl;have at1:atI [V.str a,.str b,.str c,.int d,.int e] 1=some (.str b):=Zv (j:=1) rfl;have at2:atI [V.str a,.str b,.str c,.int d,.int e] 2=some (.str c):=Zv (j:=2) rfl;have at3:atI [V.str a,.str b,.str c,.int d,.int e] 3=some (.int d):=Zv (j:=3) rfl;have at4:atI [V.str a,.str b,.str c,.int d,.int e] 4=some (.int e):=Zv (j:=4) rfl;refine iaT hy at3 ?_;refine⟨_,rfl,_,rfl,r,_,0,_,rfl,rfl,SqT.of hy,at0,_,rfl,zl,λq1 h1=>?_⟩;dsimp only[tNil];refine nl2 h1 λH1 S1 e1=>?_;refine iaT (S1 _ _ hy) at1 ⟨_,rfl,zl,λq2 h2=>?_⟩;dsimp only[tNil];refine nl2 h2 λH2 S2 e2=>?_;have S12:=S1.trans S2;refine iaT (S12 _ _ hy) at2 ⟨_,rfl,_,rfl,_,_,rfl,rfl,zl,λq3 h3=>?_⟩;dsimp only[tNil];refine nl2 h3 λH3 S3 e3=>?_;have S13:=S12.trans S3;refine iaT (S13 _ _ hy) at4 ⟨_,rfl,?_⟩;refine⟨x,Cs 2,dx,_,_,_,_,_,rfl,Z,S13 _ _ hx,k _ ?_ ?_⟩
  ·exact λc o e hc=>by rw[Zg hc];exact S13 _ _ e
  ·exact GZ (S:=V1 [.str a,.str b,.str c,.int d,.int e] i) (S13 _ _ hx) (S3 _ _ (S2 _ _ e1)) (.tup (S3 _ _ e2) (.cons (.str _) (.cons (.int _) .nil))) (.tup e3 (.cons (.str _) (.cons (.int _) .nil)))
theorem U5:FnScope ["self","row","turn"] ["self","row","turn"] (Ze T.m_Wait___init__):=scO
theorem DP{f:Addr}{fd:bH}(CB:CanB P w K mg base Cb)(F:Fun K "__init__" "Wait.__init__" T.m_Wait___init__ f fd):FnOk P w K mg base CX0 2 f fd ["self","row","turn"] (spMk K Cs 3 Rp):=by
 obtain⟨f1,fd1,F1,b1,bd1⟩:=CB.at_;refine F.ok U5 (λvs H Q E h=>?_) (λcdv A outer s H vs Q E hr h=>?_)
 ·obtain⟨x,dx,r,y,us,S,rfl,_,_,_,⟨_,_,_,_,rfl,_⟩,_⟩:=h;rfl
 ·obtain⟨x,dx,r,y,us,S,rfl,Z,hx,hy,⟨a,b,i,rfl,rfl,rfl⟩,k⟩:=h;refine' ⟨_,(@Zj _ _ _ ?h8),?rd⟩;case' h8=>refine' (ZF (G6 (ZQ (v:=.ref Cb) rfl CB.mg rfl) b1 F1 hr.m bd1 .nil Yk (@Za _ _ _ _ _ (pv 0) (@Za _ _ _ _ _ ?h7 (@Za _ _ _ _ _ ?h5 (@pa3 _ _ _ _ _ _ _ ?h3 ?h1 Zc (by rfl)) (by rfl)) (by rfl)) (by rfl))))
  case' h7=>refine' (@Zt _ _ _ _ _ (@pa3 _ _ _ _ _ _ _ Zp ?h6 (pv 2) (by rfl)))
  case' h6=>refine' (@it _ _ _ _ _ _ K (pv 1) Zc (by rfl) (by exact λ_ _=>rfl))
  case' h5=>refine' (@Zt _ _ _ _ _ (@pa2 _ _ _ _ _ ?h4 (pv 2) (by rfl)))
  case' h4=>refine' (@it _ _ _ _ _ _ K (pv 1) Zc (by rfl) (by exact λ_ _=>rfl))
  case' h3=>refine' (@Zt _ _ _ _ _ (@pa2 _ _ _ _ _ ?h2 (Zw ZX (pv 2) Zc) (by rfl)))
  case' h2=>refine' (@it _ _ _ _ _ _ K (pv 1) Zc (by rfl) (by exact λ_ _=>rfl))
  case' h1=>refine' (@it _ _ _ _ _ _ K (pv 1) Zc (by rfl) (by exact λ_ _=>rfl))
  have at0:atI [V.str a,b] 0=some (.str a):=Zv (j:=0) rfl;have at1:atI [V.str a,b] 1=some b:=Zv (j:=1) rfl;refine⟨_,rfl,_,rfl,r,_,0,_,rfl,rfl,SqT.of hy,at0,_,rfl,zl,λq1 h1=>?_⟩;dsimp only[tNil];refine nl2 h1 λH1 S1 e1=>?_;refine⟨_,rfl,r,_,0,_,rfl,rfl,SqT.of (S1 _ _ hy),at0,_,rfl,zl,λq2 h2=>?_⟩;dsimp only[tNil];refine nl2 h2 λH2 S2 e2=>?_;have S12:=S1.trans S2;refine⟨_,rfl,r,_,0,_,rfl,rfl,SqT.of (S12 _ _ hy),at0,_,rfl,_,_,rfl,rfl,zl,λq3 h3=>?_⟩;dsimp only[tNil];refine nl2 h3 λH3 S3 e3=>?_;have S13:=S12.trans S3;refine iaT (S13 _ _ hy) at1 ?_;refine⟨x,Cs 3,dx,_,_,_,_,_,rfl,Z,S13 _ _ hx,k _ ?_ ?_⟩
  ·exact λc o e hc=>by rw[Zg hc];exact S13 _ _ e
  ·exact GZ (S:=VC [.str a,b] i) (S13 _ _ hx) (S3 _ _ (S2 _ _ e1)) (.tup (S3 _ _ e2) (.cons (.str _) (.cons (.int _) .nil))) (.tup e3 (.cons (.str _) (.cons (.int _) .nil)))
end
def Prt(H:Hp)(fs:List (Str×V))(f:Str)(t:List (List V))(l:Addr)(xs:List V):Prop:=fs.lookup f=some (.ref l)/\H l=some (.tup xs)/\xs.length=t.length/\∀(i:Nat)(y:List V),t[i]?=some y->∃a:Addr,xs[i]?=some (V.ref a)/\H a=some (.tup y)
theorem Pn{H:Hp}{fs:List (Str×V)}{f g:Str}{t:List (List V)}{xs:List V}{k:List (Key×V)}(h:Z6 H fs f g (prs xs t) k)(r:Ye H xs (t.map some)):∃l,Prt H fs f t l xs:=by
 obtain⟨l,d,ys,rs,a1,a2,a3,a4,a5⟩:=h;cases a3;have hl:xs.length=t.length:=by rw[r.1,lm]
 refine⟨l,a1,a4,hl,λi y hi=>?_⟩;have hlt:i<t.length:=(aw.mp hi).1;have e1:xs[i]?=some xs[i]:=gE (by omega);obtain⟨a,ea,ha,_⟩:=r.2 i _ _ e1 (show(t.map some)[i]?=some (some y) by rw[aD,hi];rfl);exact⟨a,by rw[e1,ea],ha⟩
structure Prts(H:Hp)(C t:Addr)(T:Tb)(fs:List (Str×V)):Prop where
 tab:Tab H C t fs
 turns:fs.lookup ("turns":Str)=some (.int T.n)
 p:∃l xs,Prt H fs "places" T.t1 l xs
 r:∃l xs,Prt H fs "rides" T.t2 l xs
 w:∃l xs,Prt H fs "ways" T.t3 l xs
 g:∃l xs,Prt H fs "groups" T.t4 l xs
theorem V4{H:Hp}{C t:Addr}{T:Tb}(h:Tel H C t T):∃fs,Prts H C t T fs:=by
 obtain⟨fs,x1,x2,x3,x4,k,tp,d⟩:=h;refine⟨fs,tp.tab.tab,tp.tab.turns,?_,?_,?_,?_⟩
 ·obtain⟨l,a⟩:=Pn tp.tab.p (tp.rows _ (.inl rfl) _ _ rfl);exact⟨l,_,a⟩
 ·obtain⟨l,a⟩:=Pn tp.tab.r (tp.rows _ (.inr (.inl rfl)) _ _ rfl);exact⟨l,_,a⟩
 ·obtain⟨l,a⟩:=Pn tp.tab.w (tp.rows _ (.inr (.inr (.inl rfl))) _ _ rfl);exact⟨l,_,a⟩
 ·obtain⟨l,a⟩:=Pn tp.tab.g (tp.rows _ (.inr (.inr (.inr rfl))) _ _ rfl);exact⟨l,_,a⟩
noncomputable def StL(H:Hp)(Cs:Nat->Addr)(T:Tb):List V->List Sx->Prop:=cz λv S=>∃x j,v=.ref x/\XZ H Cs x j S/\Xv T (S.key.map kV) j S
theorem StL.same{H H':Hp}{Cs:Nat->Addr}{T:Tb}{vs:List V}{L:List Sx}(s:Same H H')(h:StL H Cs T vs L):StL H' Cs T vs L:=Paired.mapP h λ_ _⟨x,j,e,q,i⟩=>⟨x,j,e,q.same s,i⟩
def Xd(C:Addr)(Cs:Nat->Addr)(f:Tb->List Sx):Sp:=λvs H Q _=>∃(t:Addr)(T:Tb),vs=[.ref t]/\Tel H C t T/\OkTb T /\∀H' p xs,Same H H'->H p=none->H' p=some (.lst xs)->StL H' Cs T xs (f T)->Q (.ref p) H'
theorem MT{z:Str}(h:Atm (.str z)):GS z:=by cases h with|str h=>exact h
section
variable {T:Tb}(o:OkTb T)
include o
theorem Pk{y:List V}(h:y∈T.t2):∃(a b d:Str)(c e f:Int),y=[.str a,.str b,.int c,.str d,.int e,.int f]/\GS a/\GS b/\GS d/\0<=c/\c+1<=e/\e<=T.n/\0<=f/\f<=1000:=by obtain⟨k1,hk⟩:=Pu o;obtain⟨e0,gs⟩:=JZ o (j:=2) (.inr (.inl rfl)) h;obtain⟨z,s,lv,g',cm,se,rfl,en,he,a1,a2,b1,b2,c1,c2⟩:=Wg o h hk.has;obtain⟨q1,q2⟩:=QN o hk he;obtain⟨k1',k2',_⟩:=Um he;obtain⟨x,v,rfl,_⟩:=Yw k1';obtain⟨x',v',rfl,_⟩:=Yw k2';rw[en]at gs;exact⟨z,x,x',lv,cm,se,rfl,gs,MT q1,MT q2,a1,b1,b2,c1,c2⟩
theorem Qi{y:List V}(h:y∈T.t3):∃(a b c:Str)(d e:Int),y=[.str a,.str b,.str c,.int d,.int e]/\GS a/\GS b/\GS c/\1<=d/\d<=50/\0<=e/\e<=1000:=by obtain⟨k1,hk⟩:=Pu o;obtain⟨e0,gs⟩:=JZ o (j:=3) (.inr (.inr (.inl rfl))) h;have r:=Mt o (j:=3) (.inr (.inr (.inl rfl))) h;have hw:=r.why k1 (λ_=>hk.has);obtain⟨a,b,c,d,e,rfl⟩:=len5 r.len;obtain⟨he,h1,h2⟩:=Di (hw 0 (λz=>by cases z):wayV k1 b c d e=.non);obtain⟨q1,q2⟩:=QN o hk he;obtain⟨k1',k2',_⟩:=Um he;obtain⟨x,v,rfl,_⟩:=Yw k1';obtain⟨x',v',rfl,_⟩:=Yw k2';obtain⟨i,rfl,i0,i1⟩:=within_int h1;obtain⟨j,rfl,j0,j1⟩:=within_int h2;have ea:a=.str (nameOf [a,.str x,.str x',.int i,.int j]):=e0;exact⟨_,x,x',i,j,congrArg (λq=>[q,.str x,.str x',.int i,.int j]) ea,gs,MT q1,MT q2,i0,i1,j0,j1⟩
theorem Xf{y:List V}(h:y∈T.t4):∃(a b:Str)(c d:Int),y=[.str a,.str b,.int c,.int d]/\GS a/\GS b/\0<=c/\c<=T.n/\0<=d/\d<=300:=by obtain⟨k1,hk⟩:=Pu o;obtain⟨e0,gs⟩:=JZ o (j:=4) (.inr (.inr (.inr rfl))) h;have r:=Mt o (j:=4) (.inr (.inr (.inr rfl))) h;have hw:=r.why k1 (λ_=>hk.has);obtain⟨a,b,c,d,rfl⟩:=len4 r.len;obtain⟨h1,h2,i,rfl,i0,i1⟩:=QJ (hw (300-Yu [a,b,c,d]) (λ_=>by omega):Xu k1 T.n _ b c d=.non);have q1:=Gf o hk h1;obtain⟨x,v,rfl,_⟩:=Yw h1;obtain⟨t,rfl,t0,t1⟩:=within_int h2;have ea:a=.str (nameOf [a,.str x,.int t,.int i]):=e0;exact⟨_,x,t,i,congrArg (λq=>[q,.str x,.int t,.int i]) ea,gs,MT q1,t0,t1,i0,i1⟩
end
theorem Vk{H H':Hp}{x dx C:Addr}(hx:H x=none)(hd:H dx=none)(s:Zi x (upd (upd H dx (.own x)) x (.ins C dx [])) H'):Same H H':=λc o e=>by have n1:c≠x:=Zf e hx;have n2:c≠dx:=Zf e hd;exact s c o (by rw[Zg n1,Zg n2];exact e) n1
theorem V3{H:Hp}{x dx C a:Addr}{ys:List V}(hx:H x=none)(hd:H dx=none)(e:H a=some (.tup ys)):upd (upd H dx (.own x)) x (.ins C dx []) a=some (.tup ys):=by rw[Zg (Zf e hx),Zg (Zf e hd)];exact e
noncomputable def ZV(T:Tb)(y:List V):List Sx:=(aT (T.n+1-iA y 2).toNat).map λ(m:Nat)=>outS y (iA y 2+m)
noncomputable def ZK(T:Tb)(y:List V):List Sx:=(aT (T.n+1-iA y 3).toNat).map λ(m:Nat)=>V1 y (0+m)
noncomputable def ZH(T:Tb)(y:List V):List Sx:=if at_ y 1=.non then[]else(aT T.n.toNat).map λ(m:Nat)=>VC y (0+m)
noncomputable def allS(T:Tb):List Sx:=T.t4.flatMap (ZV T)++T.t2.map Xw++T.t3.flatMap (ZK T)++T.t1.flatMap (ZH T)
noncomputable def Xk(S:Sx):PyData:=.tuple [S.tail,S.head,dF S.room,.int S.price]
noncomputable def puts(l:List (Sx×V))(acc:List (List Key×V)):List (List Key×V):=l.foldl (λkvs p=>putK kvs p.1.key p.2) acc
def Dc(H:Hp)(p:Addr)(L:List Sx):Prop:=∃kvs:List (List Key×V),H p=some (.dT kvs)/\kvs.length<=L.length/\(∃vs,cz (λv S=>Is H v (Xk S)) vs L/\kvs=puts (L.zip vs) [])/\True
theorem Dc.same{H H':Hp}{p:Addr}{L:List Sx}(s:Same H H')(h:Dc H p L):Dc H' p L:=by obtain⟨kvs,e,l,⟨vs,a,b⟩,_⟩:=h;exact⟨kvs,s _ _ e,l,⟨vs,Paired.mapP a λ_ _ i=>i.same s,b⟩,trivial⟩
theorem Dc.put{H:Hp}{p a:Addr}{kvs:List (List Key×V)}{L:List Sx}{S:Sx}(e:H p=some (.dT kvs))(l:kvs.length<=L.length)(h1:∃vs,cz (λv S=>Is H v (Xk S)) vs L/\kvs=puts (L.zip vs) [])(h2:True)(hv:Is H (.ref a) (Xk S)):Dc (upd H p (.dT (putK kvs S.key (.ref a)))) p (L++[S]):=by
 have hn:∀xs,H p≠some (.lst xs)/\H p≠some (.tup xs):=λxs=>⟨(λz=>by rw[e]at z;cases z),(λz=>by rw[e]at z;cases z)⟩;obtain⟨vs,r,ek⟩:=h1;refine⟨_,Zb,?_,⟨vs++[.ref a],ft (Paired.mapP r λ_ _ i=>J3 hn i) (J3 hn hv),?_⟩,trivial⟩
 ·have:=YH kvs S.key (.ref a);rw[ax];show _<=L.length+1;omega
 ·rw[List.zip_append (by rw[bq r])];unfold puts;rw[List.foldl_append,ek];rfl
theorem _root_.WD.RowsAt.keepB{b:Addr}{H H':Hp}{l p:Addr}{rows:List (List V)}(h:RowsAt b H l rows)(hp:H p=none)(s:Zi p H H'):RowsAt b H' l rows:=by obtain⟨n,as,e,hl,r⟩:=h;exact⟨n,as,s _ _ e (Zf e hp),hl,λi a q h1 h2=>⟨(r i a q h1 h2).1,s _ _ (r i a q h1 h2).2 (Zf (r i a q h1 h2).2 hp)⟩⟩
theorem XF{f:List V->List Sx}{t:List (List V)}{i:Nat}(hi:i<t.length):(t.take (i+1)).flatMap f=(t.take i).flatMap f++f t[i]:=by rw[bE,gE hi,List.flatMap_append];simp
theorem map_take{f:List V->Sx}{t:List (List V)}{i:Nat}(hi:i<t.length):(t.take (i+1)).map f=(t.take i).map f++[f t[i]]:=by rw[bE,gE hi,a8];rfl
theorem Y6{f:Nat->Sx}{n i:Nat}(hi:i<n):(((aT n).map f).take (i+1))=((aT n).map f).take i++[f i]:=by rw[bE,aD,List.getElem?_range hi];rfl
theorem Uk{f:List V->List Sx}{m:Nat}:∀{t:List (List V)},(∀y∈t,(f y).length<=m)->(t.flatMap f).length<=t.length*m
|[],_=>by simp
|y::t,h=>by
  rw[List.flatMap_cons,ax,aP];have h1:=h y (by simp);have h2:=Uk (f:=f) (m:=m) (t:=t) λz hz=>h z (by simp[hz]);have:(t.length+1)*m=t.length*m+m:=by rw[Nat.add_mul,Nat.one_mul]
  omega
theorem MU{T:Tb}(o:OkTb T){S:Sx}(h:S∈allS T):∃j,Xv T (S.key.map kV) j S:=by
 unfold allS at h;simp only[aN,dh,av]at h;rcases h with((⟨y,hy,h⟩|⟨y,hy,rfl⟩)|⟨y,hy,h⟩)|⟨y,hy,h⟩
 ·unfold ZV at h;obtain⟨m,hm,rfl⟩:=av.mp h;rw[cA]at hm;exact⟨0,.inl ⟨y,hy,_,rfl,by omega,by omega,rfl,rfl⟩⟩
 ·exact⟨1,.inr (.inl ⟨y,hy,rfl,rfl,rfl⟩)⟩
 ·unfold ZK at h;obtain⟨m,hm,rfl⟩:=av.mp h;rw[cA]at hm;exact⟨2,.inr (.inr (.inl ⟨y,hy,_,rfl,by omega,by omega,rfl,rfl⟩))⟩
 ·unfold ZH at h;split at h
  ·cases h
  rename_i hne;obtain⟨m,hm,rfl⟩:=av.mp h;rw[cA]at hm;exact⟨3,.inr (.inr (.inr ⟨y,hy,_,rfl,hne,by omega,by omega,rfl,rfl⟩))⟩
theorem Qn{T:Tb}(o:OkTb T){y:List V}(h:y∈T.t4):(ZV T y).length<=51:=by obtain⟨a,b,c,d,rfl,_,_,h0,_⟩:=Xf o h;have:=o.n1;unfold ZV;rw[lm,b7];show(T.n+1-c).toNat<=51;omega
theorem Nf{T:Tb}(o:OkTb T){y:List V}(h:y∈T.t3):(ZK T y).length<=51:=by obtain⟨a,b,c,d,e,rfl,_,_,_,h0,_⟩:=Qi o h;have:=o.n1;unfold ZK;rw[lm,b7];show(T.n+1-d).toNat<=51;omega
theorem Ng{T:Tb}(o:OkTb T){y:List V}:(ZH T y).length<=51:=by
 have:=o.n1;unfold ZH;split
 ·exact Nat.zero_le _
 rw[lm,b7];omega
theorem Xo{T:Tb}(o:OkTb T):T.t1.length<=14/\T.t2.length<=80/\T.t3.length<=40/\T.t4.length<=300:=⟨(o.part 1 (.inl rfl)).1,(o.part 2 (.inr (.inl rfl))).1,(o.part 3 (.inr (.inr (.inl rfl)))).1,(o.part 4 (.inr (.inr (.inr rfl)))).1⟩
theorem Jb{T:Tb}(o:OkTb T):(T.t4.flatMap (ZV T)).length<=15300/\(T.t2.map Xw).length<=80/\(T.t3.flatMap (ZK T)).length<=2040/\(T.t1.flatMap (ZH T)).length<=714:=by obtain⟨h1,h2,h3,h4⟩:=Xo o;have a:=Uk (f:=ZV T) (m:=51) (t:=T.t4) λy hy=>Qn o hy;have b:=Uk (f:=ZK T) (m:=51) (t:=T.t3) λy hy=>Nf o hy;have c:=Uk (f:=ZH T) (m:=51) (t:=T.t1) λy hy=>Ng o;refine⟨by omega,by rw[lm];exact h2,by omega,by omega⟩
theorem Jl{f:List V->List Sx}{t:List (List V)}(i:Nat):((t.take i).flatMap f).length<=(t.flatMap f).length:=by
 conv=>rhs;rw[<-List.take_append_drop i t,List.flatMap_append,ax]
 exact Nat.le_add_right _ _
def NL(d:PyData):Prop:=(∃a,d=.str a)\/∃a i,d=.tuple [.str a,.int i]
theorem Jq{T:Tb}{ks:List V}{j:Nat}{S:Sx}(h:Xv T ks j S):NL S.tail/\NL S.head:=by
 rcases h with⟨y,_,i,e,_,_,rfl,rfl⟩|⟨y,_,e,rfl,rfl⟩|⟨y,_,i,e,_,_,rfl,rfl⟩|⟨y,_,i,e,_,_,_,rfl,rfl⟩
 ·exact⟨.inl ⟨_,rfl⟩,.inr ⟨_,_,rfl⟩⟩
 ·exact⟨.inr ⟨_,_,rfl⟩,.inr ⟨_,_,rfl⟩⟩
 ·exact⟨.inr ⟨_,_,rfl⟩,.inr ⟨_,_,rfl⟩⟩
 ·exact⟨.inr ⟨_,_,rfl⟩,.inr ⟨_,_,rfl⟩⟩
theorem VD{H H':Hp}{v:V}{d:PyData}(n:NL d)(ht:∀c xs,H c=some (.tup xs)->H' c=some (.tup xs))(h:Is H v d):Is H' v d:=by
 rcases n with⟨a,rfl⟩|⟨a,i,rfl⟩
 ·cases h with
 |str=>exact .str _
 ·cases h with
 |tup e r=>
   cases r with
  |cons h1 r=>
   cases r with
  |cons h2 r=>
   cases r;cases h1;cases h2;exact .tup (ht _ _ e) (.cons (.str _) (.cons (.int _) .nil))
theorem XZ.keepL{H H':Hp}{Cs:Nat->Addr}{T:Tb}{x p:Addr}{j:Nat}{S:Sx}{ys:List V}(hp:H p=some (.lst ys))(s:Zi p H H')(i:Xv T (S.key.map kV) j S)(h:XZ H Cs x j S):XZ H' Cs x j S:=by obtain⟨dx,k,vt,vh,h1,h2,h3,h4⟩:=h;have ht:∀c xs,H c=some (.tup xs)->H' c=some (.tup xs):=λc xs e=>s _ _ e (ne_of e hp (λz=>nomatch z));exact⟨dx,k,vt,vh,s _ _ h1 (ne_of h1 hp (λz=>nomatch z)),ht _ _ h2,VD (Jq i).1 ht h3,VD (Jq i).2 ht h4⟩
theorem StL.keepL{H H':Hp}{Cs:Nat->Addr}{T:Tb}{p:Addr}{vs:List V}{L:List Sx}{ys:List V}(hp:H p=some (.lst ys))(s:Zi p H H')(h:StL H Cs T vs L):StL H' Cs T vs L:=Paired.mapP h λ_ _⟨x,j,e,q,i⟩=>⟨x,j,e,q.keepL hp s i,i⟩
theorem StL.app{H:Hp}{Cs:Nat->Addr}{T:Tb}:∀{vs us:List V}{L M:List Sx},StL H Cs T vs L->StL H Cs T us M->StL H Cs T (vs++us) (L++M)
|_,_,_,_,.nil,b=>b
|_,_,_,_,.cons h t,b=>.cons h (StL.app t b)
theorem StL.snoc{H:Hp}{Cs:Nat->Addr}{T:Tb}{vs:List V}{L:List Sx}{x:Addr}{j:Nat}{S:Sx}(h:StL H Cs T vs L)(q:XZ H Cs x j S)(i:Xv T (S.key.map kV) j S):StL H Cs T (vs++[.ref x]) (L++[S]):=h.app (.cons ⟨x,j,rfl,q,i⟩ .nil)
theorem StL.len{H:Hp}{Cs:Nat->Addr}{T:Tb}{vs:List V}{L:List Sx}(h:StL H Cs T vs L):vs.length=L.length:=bq h
section
variable {P:Program}{w:World}{K:af}{mg:Str->Option Value}{base:Heap}{C:Addr}{Cs:Nat->Addr}
theorem XI:FnScope ["table","steps","row"] ["table"] (Ze T.f_set_outs_of):=scO
noncomputable def Ju:Scope:=csx [(".0",.local),("turn",.local),("SetOut",.globalImplicit),("row",.free)]
theorem Vv:CompScope Ju (Ze T.f_set_outs_of):=⟨rfl,by decide +kernel,by decide +kernel,by decide +kernel⟩
theorem Vx:(["turn","row"]:List Str).Nodup:=by decide +kernel
theorem Vw:CompNames ["table","steps","row"] Ju ["turn","row"] [none,some 2]:=.mk' (by decide +kernel)
theorem LS(B:∀x∈Blts,mg x=none)(Z:TCl K C)(ZS:∀j,j<4->SCl K (Cs j))(M:SMk P w K mg base "SetOut" (Cs 0) ["self","row","turn"] (spMk K Cs 0 KD))(D:Df K mg "set_outs_of" T.f_set_outs_of ["table"]):Can P w K mg base 4 "set_outs_of" ["table"] (Xd C Cs λT=>T.t4.flatMap (ZV T)):=by
 obtain⟨fm,fdm,hM,FM,bM⟩:=M.made;refine D.cn XI λf cdv A outer s H vs Q E hr h=>?_;obtain⟨t,T,rfl,tel,ok,k⟩:=h;obtain⟨fs,pr⟩:=V4 tel;obtain⟨l,xs,f1,f2,f3,f4⟩:=pr.g;obtain⟨dx,ht⟩:=pr.tab.at_;refine⟨_,(Zd (st 1 XI.nd (ZA Zh)) (Zd (Yr aY rfl (Po (ZI (pv 0) rfl)) (JA (i:=2) XI.nd rfl (dX rfl)) (Zj (ZF (JW aR fA fz Gd (pv 1) (Za (YJ rfl Vv Vw (Nu rfl (bm B) (Za (it K (pv 2) Zc) (Za (Zw ZX (ZI (pv 0) rfl) Zc) Zh))) (λC s H ex pn=>(nmT 0 Vx)) (λC s H ex pn=>Z9) (λC s H ex pn=>(Xi hM FM hr.m rfl M.mg bM .nil Yk (Za (pv 1) (Za (pv 0) Zh))))) Zh))))) (Zj (Zn (pv 1))))),?_⟩;refine⟨zl,λp hp=>?_⟩;have e0:upd H p (.lst []) p=some (.lst []):=Zb;have S0:Zi p H (upd H p (.lst [])):=(Zi.refl p H).new' hp;generalize upd H p (.lst [])=H0 at e0 S0 ⊢;have ht':∀{H':Hp},Zi p H H'->H' t=some (.ins C dx fs):=λs=>s _ _ ht (Zf ht hp);have hl':∀{H':Hp},Zi p H H'->H' l=some (.tup xs):=λs=>s _ _ f2 (Zf f2 hp);refine⟨_,rfl,t,C,dx,fs,_,rfl,ht' S0,Z.cl,Z.na _ (by simp[fields]),f1,l,rfl,⟨_,SqT.of (hl' S0)⟩,?_⟩;refine Y8 (J:=Itt K l) T.t4.length (λi σ H'=>Zi p H H'/\∃ys o,H' p=some (.lst ys)/\StL H' Cs T ys ((T.t4.take i).flatMap (ZV T))/\σ=[some (.ref t),some (.ref p),o]) ⟨S0,_,_,e0,.nil,rfl⟩ (λi σ H' hi q=>?_) (λσ H' q=>?_) (λi σ H' x H2 hi q yl=>?_) (λσ H1 q=>?_)
 ·exact⟨xs,xs[i]'(by omega),SqT.of (hl' q.1),gE _⟩
 ·exact⟨xs,SqT.of (hl' q.1),by omega⟩
 ·obtain⟨s1,ys,o,ep,sl,rfl⟩:=q;have e1:T.t4[i]?=some T.t4[i]:=gE hi;obtain⟨a,ea,ha⟩:=f4 i _ e1;obtain⟨rfl,hx⟩:=yl;have hx2:=hx _ (SqT.of (hl' s1));rw[ea]at hx2;cases hx2;have hy:T.t4[i]∈T.t4:=aH hi;have ha1:=s1 _ _ ha (Zf ha hp);rw[XF hi];generalize T.t4[i]=y at ha1 hy;obtain⟨a1,b1,c1,d1,rfl,_,_,c0,cn⟩:=Xf ok hy;dsimp only[YI];refine td λD' hdd=>?_;refine⟨_,rfl,.inl ⟨rfl,_,SqL.of ep⟩,?_⟩;have hn:=ok.n1;refine ixT 2 ha1 rfl ⟨_,rfl,t,C,dx,fs,_,rfl,ht' s1,Z.cl,Z.na _ (by simp[fields]),pr.turns,_,_,rfl,rfl,_,_,rfl,⟨by omega,by omega,by omega,by omega⟩,?_⟩;refine ZY (J:=Itr c1 (T.n+1-c1).toNat) (T.n+1-c1).toNat (Nat.le_trans (by omega:_<=51) (by decide)) (λm zs τ H'=>Same H2 H'/\StL H' Cs T zs ((ZV T [.str a1,.str b1,.int c1,.int d1]).take m)/\∃v,τ=[v,some (.ref a)]) ⟨Same.refl _,.nil,none,rfl⟩ (λm zs τ H' q=>by rw[q.2.1.len,aB];omega) (λm zs τ H' hm _=>hm) (λzs τ H' _=>Nat.le_refl _) (λm zs τ H' x H3 hm q yl=>?_) (λzs τ H5 q lr hlr=>?_)
  ·obtain⟨s2,sl2,v,rfl⟩:=q;obtain⟨rfl,rfl⟩:=yl;refine⟨_,rfl,_,rfl,λx' dx' hx' hdx' _=>⟨x',dx',a,_,_,outS _ (c1+m),rfl,ZS 0 (by decide),Zb,V3 hx' hdx' (s2 _ _ ha1),⟨a1,b1,_,_,_,rfl,rfl,rfl⟩,λH' s3 st=>⟨rfl,?_⟩⟩⟩;have s4:=Vk hx' hdx' s3;refine⟨s2.trans s4,?_,_,rfl⟩;rw[show(ZV T [.str a1,.str b1,.int c1,.int d1]).take (m+1)=(ZV T [.str a1,.str b1,.int c1,.int d1]).take m++[outS [.str a1,.str b1,.int c1,.int d1] (c1+m)]from Y6 hm];exact(sl2.same s4).snoc st (.inl ⟨_,hy,c1+m,rfl,(by show c1<=c1+(m:Int);omega),by omega,rfl,rfl⟩)
  ·obtain⟨s2,sl2,v,rfl⟩:=q;have s5:Same H2 (upd H5 lr (.lst zs)):=sameNew s2 hlr;have sl5:=sl2.same (sameNew (o:=.lst zs) (Same.refl H5) hlr);have er:upd H5 lr (.lst zs) lr=some (.lst zs):=Zb;generalize upd H5 lr (.lst zs)=H6 at s5 sl5 er ⊢;have lz:zs.length<=51:=by rw[sl5.len,aB];omega
   have ly:ys.length<=15300:=by rw[sl.len];exact Nat.le_trans (Jl i) (Jb ok).1
   have fin:∀c o,H6 c=some o->c≠p->upd H6 p (.lst (ys++zs)) c=some o:=λc o e hc=>by rw[Zg hc];exact e
   refine⟨p,lr,ys,zs,rfl,rfl,s5 _ _ ep,er,Nat.le_trans (by omega:_<=20000) (by decide),hdd _ _ ⟨?_,_,_,Zb,?_,rfl⟩⟩
   ·exact λc o e hc=>fin _ _ (s5 _ _ (s1 _ _ e hc)) hc
   ·refine StL.keepL (s5 _ _ ep) fin ((sl.same s5).app ?_);rw[aV (by unfold ZV;rw[lm,b7];exact Nat.le_refl _)]at sl5;exact sl5
 ·obtain⟨s1,ys,o,ep,sl,rfl⟩:=q;rw[aO]at sl;exact⟨_,rfl,k _ p ys (λc o e=>s1 _ _ e (Zf e hp)) hp ep sl⟩
theorem JS:FnScope ["table","steps","row"] ["table"] (Ze T.f_walks_of):=scO
noncomputable def VE:Scope:=csx [(".0",.local),("turn",.local),("Walk",.globalImplicit),("row",.free)]
theorem Gi:CompScope VE (Ze T.f_walks_of):=⟨rfl,by decide +kernel,by decide +kernel,by decide +kernel⟩
theorem Gk:(["turn","row"]:List Str).Nodup:=by decide +kernel
theorem Gj:CompNames ["table","steps","row"] VE ["turn","row"] [none,some 2]:=.mk' (by decide +kernel)
theorem WL(B:∀x∈Blts,mg x=none)(Z:TCl K C)(ZS:∀j,j<4->SCl K (Cs j))(M:SMk P w K mg base "Walk" (Cs 2) ["self","row","turn"] (spMk K Cs 2 Ro))(D:Df K mg "walks_of" T.f_walks_of ["table"]):Can P w K mg base 4 "walks_of" ["table"] (Xd C Cs λT=>T.t3.flatMap (ZK T)):=by
 obtain⟨fm,fdm,hM,FM,bM⟩:=M.made;refine D.cn JS λf cdv A outer s H vs Q E hr h=>?_;obtain⟨t,T,rfl,tel,ok,k⟩:=h;obtain⟨fs,pr⟩:=V4 tel;obtain⟨l,xs,f1,f2,f3,f4⟩:=pr.w;obtain⟨dx,ht⟩:=pr.tab.at_;refine⟨_,(Zd (st 1 JS.nd (ZA Zh)) (Zd (Yr aY rfl (Po (ZI (pv 0) rfl)) (JA (i:=2) JS.nd rfl (dX rfl)) (Zj (ZF (JW aR fA fz Gd (pv 1) (Za (YJ rfl Gi Gj (Yg rfl (bm B) (Za (Zw ZX (Zw JY (ZI (pv 0) rfl) (it K (pv 2) Zc)) Zc) Zh)) (λC s H ex pn=>(nmT 0 Gk)) (λC s H ex pn=>Z9) (λC s H ex pn=>(Xi hM FM hr.m rfl M.mg bM .nil Yk (Za (pv 1) (Za (pv 0) Zh))))) Zh))))) (Zj (Zn (pv 1))))),?_⟩;refine⟨zl,λp hp=>?_⟩;have e0:upd H p (.lst []) p=some (.lst []):=Zb;have S0:Zi p H (upd H p (.lst [])):=(Zi.refl p H).new' hp;generalize upd H p (.lst [])=H0 at e0 S0 ⊢;have ht':∀{H':Hp},Zi p H H'->H' t=some (.ins C dx fs):=λs=>s _ _ ht (Zf ht hp);have hl':∀{H':Hp},Zi p H H'->H' l=some (.tup xs):=λs=>s _ _ f2 (Zf f2 hp);refine⟨_,rfl,t,C,dx,fs,_,rfl,ht' S0,Z.cl,Z.na _ (by simp[fields]),f1,l,rfl,⟨_,SqT.of (hl' S0)⟩,?_⟩;refine Y8 (J:=Itt K l) T.t3.length (λi σ H'=>Zi p H H'/\∃ys o,H' p=some (.lst ys)/\StL H' Cs T ys ((T.t3.take i).flatMap (ZK T))/\σ=[some (.ref t),some (.ref p),o]) ⟨S0,_,_,e0,.nil,rfl⟩ (λi σ H' hi q=>?_) (λσ H' q=>?_) (λi σ H' x H2 hi q yl=>?_) (λσ H1 q=>?_)
 ·exact⟨xs,xs[i]'(by omega),SqT.of (hl' q.1),gE _⟩
 ·exact⟨xs,SqT.of (hl' q.1),by omega⟩
 ·obtain⟨s1,ys,o,ep,sl,rfl⟩:=q;have e1:T.t3[i]?=some T.t3[i]:=gE hi;obtain⟨a,ea,ha⟩:=f4 i _ e1;obtain⟨rfl,hx⟩:=yl;have hx2:=hx _ (SqT.of (hl' s1));rw[ea]at hx2;cases hx2;have hy:T.t3[i]∈T.t3:=aH hi;have ha1:=s1 _ _ ha (Zf ha hp);rw[XF hi];generalize T.t3[i]=y at ha1 hy;obtain⟨a1,b1,c1,d1,e1,rfl,_,_,_,h0,h1,_⟩:=Qi ok hy;dsimp only[YI];refine td λD' hdd=>?_;refine⟨_,rfl,.inl ⟨rfl,_,SqL.of ep⟩,?_⟩;have hn:=ok.n1;have hn0:=ok.n0;refine⟨_,rfl,t,C,dx,fs,_,rfl,ht' s1,Z.cl,Z.na _ (by simp[fields]),pr.turns,ixT 3 ha1 rfl ⟨_,_,rfl,rfl,_,_,rfl,rfl,_,rfl,by omega,by omega,?_⟩⟩;refine ZY (J:=Itr 0 (T.n-d1+1).toNat) (T.n-d1+1).toNat (Nat.le_trans (by omega:_<=51) (by decide)) (λm zs τ H'=>Same H2 H'/\StL H' Cs T zs ((ZK T [.str a1,.str b1,.str c1,.int d1,.int e1]).take m)/\∃v,τ=[v,some (.ref a)]) ⟨Same.refl _,.nil,none,rfl⟩ (λm zs τ H' q=>by rw[q.2.1.len,aB];omega) (λm zs τ H' hm _=>hm) (λzs τ H' _=>Nat.le_refl _) (λm zs τ H' x H3 hm q yl=>?_) (λzs τ H5 q lr hlr=>?_)
  ·obtain⟨s2,sl2,v,rfl⟩:=q;obtain⟨rfl,rfl⟩:=yl;refine⟨_,rfl,_,rfl,λx' dx' hx' hdx' _=>⟨x',dx',a,_,_,V1 _ (0+m),rfl,ZS 2 (by decide),Zb,V3 hx' hdx' (s2 _ _ ha1),⟨a1,b1,c1,_,_,_,rfl,rfl,rfl⟩,λH' s3 st=>⟨rfl,?_⟩⟩⟩;have s4:=Vk hx' hdx' s3;refine⟨s2.trans s4,?_,_,rfl⟩;rw[show(ZK T [.str a1,.str b1,.str c1,.int d1,.int e1]).take (m+1)=(ZK T [.str a1,.str b1,.str c1,.int d1,.int e1]).take m++[V1 [.str a1,.str b1,.str c1,.int d1,.int e1] (0+m)]from Y6 (n:=(T.n+1-d1).toNat) (by omega)];exact(sl2.same s4).snoc st (.inr (.inr (.inl ⟨_,hy,0+m,rfl,by omega,(by show 0+(m:Int)<=T.n-d1;omega),rfl,rfl⟩)))
  ·obtain⟨s2,sl2,v,rfl⟩:=q;have s5:Same H2 (upd H5 lr (.lst zs)):=sameNew s2 hlr;have sl5:=sl2.same (sameNew (o:=.lst zs) (Same.refl H5) hlr);have er:upd H5 lr (.lst zs) lr=some (.lst zs):=Zb;generalize upd H5 lr (.lst zs)=H6 at s5 sl5 er ⊢;have lz:zs.length<=51:=by rw[sl5.len,aB];omega
   have ly:ys.length<=2040:=by rw[sl.len];exact Nat.le_trans (Jl i) (Jb ok).2.2.1
   have fin:∀c o,H6 c=some o->c≠p->upd H6 p (.lst (ys++zs)) c=some o:=λc o e hc=>by rw[Zg hc];exact e
   refine⟨p,lr,ys,zs,rfl,rfl,s5 _ _ ep,er,Nat.le_trans (by omega:_<=20000) (by decide),hdd _ _ ⟨?_,_,_,Zb,?_,rfl⟩⟩
   ·exact λc o e hc=>fin _ _ (s5 _ _ (s1 _ _ e hc)) hc
   ·refine StL.keepL (s5 _ _ ep) fin ((sl.same s5).app ?_);rw[aV (by unfold ZK;rw[lm,b7];show(T.n+1-d1).toNat<=_;omega)]at sl5;exact sl5
 ·obtain⟨s1,ys,o,ep,sl,rfl⟩:=q;rw[aO]at sl;exact⟨_,rfl,k _ p ys (λc o e=>s1 _ _ e (Zf e hp)) hp ep sl⟩
theorem JT:FnScope ["table","steps","row"] ["table"] (Ze T.f_waits_of):=scO
noncomputable def VF:Scope:=csx [(".0",.local),("turn",.local),("Wait",.globalImplicit),("row",.free)]
theorem Gm:CompScope VF (Ze T.f_waits_of):=⟨rfl,by decide +kernel,by decide +kernel,by decide +kernel⟩
theorem Gp:(["turn","row"]:List Str).Nodup:=by decide +kernel
theorem Gn:CompNames ["table","steps","row"] VF ["turn","row"] [none,some 2]:=.mk' (by decide +kernel)
theorem WN(B:∀x∈Blts,mg x=none)(Z:TCl K C)(ZS:∀j,j<4->SCl K (Cs j))(M:SMk P w K mg base "Wait" (Cs 3) ["self","row","turn"] (spMk K Cs 3 Rp))(D:Df K mg "waits_of" T.f_waits_of ["table"]):Can P w K mg base 4 "waits_of" ["table"] (Xd C Cs λT=>T.t1.flatMap (ZH T)):=by
 obtain⟨fm,fdm,hM,FM,bM⟩:=M.made;refine D.cn JT λf cdv A outer s H vs Q E hr h=>?_;obtain⟨t,T,rfl,tel,ok,k⟩:=h;obtain⟨fs,pr⟩:=V4 tel;obtain⟨l,xs,f1,f2,f3,f4⟩:=pr.p;obtain⟨dx,ht⟩:=pr.tab.at_;refine⟨_,(Zd (st 1 JT.nd (ZA Zh)) (Zd (Yr aY rfl (Po (ZI (pv 0) rfl)) (JA (i:=2) JT.nd rfl (dX rfl)) (Zj (ZZ (ZD JC (it K (pv 2) Zc) Z4 (ZC _)) (Zj (ZF (JW aR fA fz Gd (pv 1) (Za (YJ rfl Gm Gn (Yg rfl (bm B) (Za (ZI (pv 0) rfl) Zh)) (λC s H ex pn=>(nmT 0 Gp)) (λC s H ex pn=>Z9) (λC s H ex pn=>(Xi hM FM hr.m rfl M.mg bM .nil Yk (Za (pv 1) (Za (pv 0) Zh))))) Zh)))) Zx))) (Zj (Zn (pv 1))))),?_⟩;refine⟨zl,λp hp=>?_⟩;have e0:upd H p (.lst []) p=some (.lst []):=Zb;have S0:Zi p H (upd H p (.lst [])):=(Zi.refl p H).new' hp;generalize upd H p (.lst [])=H0 at e0 S0 ⊢;have ht':∀{H':Hp},Zi p H H'->H' t=some (.ins C dx fs):=λs=>s _ _ ht (Zf ht hp);have hl':∀{H':Hp},Zi p H H'->H' l=some (.tup xs):=λs=>s _ _ f2 (Zf f2 hp);refine⟨_,rfl,t,C,dx,fs,_,rfl,ht' S0,Z.cl,Z.na _ (by simp[fields]),f1,l,rfl,⟨_,SqT.of (hl' S0)⟩,?_⟩;refine Y8 (J:=Itt K l) T.t1.length (λi σ H'=>Zi p H H'/\∃ys o,H' p=some (.lst ys)/\StL H' Cs T ys ((T.t1.take i).flatMap (ZH T))/\σ=[some (.ref t),some (.ref p),o]) ⟨S0,_,_,e0,.nil,rfl⟩ (λi σ H' hi q=>?_) (λσ H' q=>?_) (λi σ H' x H2 hi q yl=>?_) (λσ H1 q=>?_)
 ·exact⟨xs,xs[i]'(by omega),SqT.of (hl' q.1),gE _⟩
 ·exact⟨xs,SqT.of (hl' q.1),by omega⟩
 ·obtain⟨s1,ys,o,ep,sl,rfl⟩:=q;have e1:T.t1[i]?=some T.t1[i]:=gE hi;obtain⟨a,ea,ha⟩:=f4 i _ e1;obtain⟨rfl,hx⟩:=yl;have hx2:=hx _ (SqT.of (hl' s1));rw[ea]at hx2;cases hx2;have hy:T.t1[i]∈T.t1:=aH hi;have ha1:=s1 _ _ ha (Zf ha hp);rw[XF hi];generalize T.t1[i]=y at ha1 hy;obtain⟨⟨nm,rm⟩,rfl,gs,hrm⟩:=Xh ok hy;dsimp only[YI];refine td λD' hdd=>?_;cases rm with
 |none=>refine ixT 1 ha1 rfl ⟨rfl,_,rfl,?_⟩;refine iteF ?_;refine hdd _ _ ⟨s1,ys,_,ep,?_,rfl⟩;rw[show ZH T (ZG (nm,none))=[]from if_pos rfl,bo];exact sl
 |some b1=>
   refine ixT 1 ha1 rfl ⟨rfl,_,rfl,?_⟩;refine iteT ?_;have ew:ZH T (ZG (nm,some b1))=(aT T.n.toNat).map λ(m:Nat)=>VC (ZG (nm,some b1)) (0+m):=if_neg (λz=>by cases z);have hn:=ok.n1;have hn0:=ok.n0;refine⟨_,rfl,.inl ⟨rfl,_,SqL.of ep⟩,?_⟩;refine⟨_,rfl,t,C,dx,fs,_,rfl,ht' s1,Z.cl,Z.na _ (by simp[fields]),pr.turns,_,rfl,by omega,by omega,?_⟩;refine ZY (J:=Itr 0 T.n.toNat) T.n.toNat (Nat.le_trans (by omega:_<=51) (by decide)) (λm zs τ H'=>Same H2 H'/\StL H' Cs T zs ((ZH T (ZG (nm,some b1))).take m)/\∃v,τ=[v,some (.ref a)]) ⟨Same.refl _,.nil,none,rfl⟩ (λm zs τ H' q=>by rw[q.2.1.len,aB];omega) (λm zs τ H' hm _=>hm) (λzs τ H' _=>Nat.le_refl _) (λm zs τ H' x H3 hm q yl=>?_) (λzs τ H5 q lr hlr=>?_)
   ·obtain⟨s2,sl2,v,rfl⟩:=q;obtain⟨rfl,rfl⟩:=yl;refine⟨_,rfl,_,rfl,λx' dx' hx' hdx' _=>⟨x',dx',a,_,_,VC _ (0+m),rfl,ZS 3 (by decide),Zb,V3 hx' hdx' (s2 _ _ ha1),⟨nm,_,_,rfl,rfl,rfl⟩,λH' s3 st=>⟨rfl,?_⟩⟩⟩;have s4:=Vk hx' hdx' s3;refine⟨s2.trans s4,?_,_,rfl⟩;rw[show(ZH T (ZG (nm,some b1))).take (m+1)=(ZH T (ZG (nm,some b1))).take m++[VC (ZG (nm,some b1)) (0+m)]from by rw[ew];exact Y6 hm];exact(sl2.same s4).snoc st (.inr (.inr (.inr ⟨_,hy,0+m,rfl,(λz=>by cases z),by omega,by omega,rfl,rfl⟩)))
   ·obtain⟨s2,sl2,v,rfl⟩:=q;have s5:Same H2 (upd H5 lr (.lst zs)):=sameNew s2 hlr;have sl5:=sl2.same (sameNew (o:=.lst zs) (Same.refl H5) hlr);have er:upd H5 lr (.lst zs) lr=some (.lst zs):=Zb;generalize upd H5 lr (.lst zs)=H6 at s5 sl5 er ⊢;have lz:zs.length<=51:=by rw[sl5.len,aB];omega
    have ly:ys.length<=2040:=by rw[sl.len];exact Nat.le_trans (Jl i) (Nat.le_trans (Jb ok).2.2.2 (by decide))
    have fin:∀c o,H6 c=some o->c≠p->upd H6 p (.lst (ys++zs)) c=some o:=λc o e hc=>by rw[Zg hc];exact e
    refine⟨p,lr,ys,zs,rfl,rfl,s5 _ _ ep,er,Nat.le_trans (by omega:_<=20000) (by decide),hdd _ _ ⟨?_,_,_,Zb,?_,rfl⟩⟩
    ·exact λc o e hc=>fin _ _ (s5 _ _ (s1 _ _ e hc)) hc
    ·refine StL.keepL (s5 _ _ ep) fin ((sl.same s5).app ?_);rw[aV (by rw[ew,lm,b7];exact Nat.le_refl _)]at sl5;exact sl5
 ·obtain⟨s1,ys,o,ep,sl,rfl⟩:=q;rw[aO]at sl;exact⟨_,rfl,k _ p ys (λc o e=>s1 _ _ e (Zf e hp)) hp ep sl⟩
noncomputable def Ge(T:Tb):List Sx:=T.t2.map Xw++T.t3.flatMap (ZK T)++T.t1.flatMap (ZH T)
theorem W2(T:Tb):T.t4.flatMap (ZV T)++Ge T=allS T:=by unfold allS Ge;simp only[bO]
theorem Qc:FnScope ["table"] ["table"] (Ze T.f_moves_of):=scO
noncomputable def VG:Scope:=csx [(".0",.local),("row",.local),("Ride",.globalImplicit)]
theorem Gq:CompScope VG (Ze T.f_moves_of):=⟨rfl,by decide +kernel,by decide +kernel,by decide +kernel⟩
theorem Gu:(["row"]:List Str).Nodup:=by decide +kernel
theorem Gs:CompNames ["table"] VG ["row"] [none]:=.mk' (by decide +kernel)
theorem WV(B:∀x∈Blts,mg x=none)(Z:TCl K C)(ZS:∀j,j<4->SCl K (Cs j))(M:SMk P w K mg base "Ride" (Cs 1) ["self","row"] (spMk K Cs 1 Rq))(CW:Can P w K mg base 4 "walks_of" ["table"] (Xd C Cs λT=>T.t3.flatMap (ZK T)))(CA:Can P w K mg base 4 "waits_of" ["table"] (Xd C Cs λT=>T.t1.flatMap (ZH T)))(D:Df K mg "moves_of" T.f_moves_of ["table"]):Can P w K mg base 5 "moves_of" ["table"] (Xd C Cs Ge):=by
 obtain⟨fm,fdm,hM,FM,bM⟩:=M.made;refine D.cn Qc λf cdv A outer s H vs Q E hr h=>?_;obtain⟨t,T,rfl,tel,ok,k⟩:=h;obtain⟨fs,pr⟩:=V4 tel;obtain⟨l,xs,f1,f2,f3,f4⟩:=pr.r;obtain⟨dx,ht⟩:=pr.tab.at_;have pl:=Jb ok;refine⟨_,(Zj (Zn (Zw VS (Zw VS (YJ rfl Gq Gs (Po (ZI (pv 0) rfl)) (λC s H ex pn=>(nmT 0 Gu)) (λC s H ex pn=>Z9) (λC s H ex pn=>(Xi hM FM hr.m rfl M.mg bM .nil Yk (Za (pv 0) Zh)))) (cn CW hr (Za (pv 0) Zh))) (cn CA hr (Za (pv 0) Zh))))),?_⟩;refine⟨_,rfl,t,C,dx,fs,_,rfl,ht,Z.cl,Z.na _ (by simp[fields]),f1,l,rfl,⟨_,SqT.of f2⟩,?_⟩;refine ZY (J:=Itt K l) T.t2.length (Nat.le_trans (Xo ok).2.1 (by decide)) (λm zs τ H'=>Same H H'/\StL H' Cs T zs ((T.t2.take m).map Xw)/\∃v,τ=[v]) ⟨Same.refl _,.nil,none,rfl⟩ (λm zs τ H' q=>by rw[q.2.1.len,lm,aB];omega) (λm zs τ H' hm q=>⟨xs,xs[m]'(by omega),SqT.of (q.1 _ _ f2),gE _⟩) (λzs τ H' q=>⟨xs,SqT.of (q.1 _ _ f2),by omega⟩) (λm zs τ H' x H3 hm q yl=>?_) (λzs τ H5 q lr hlr=>?_)
 ·obtain⟨s2,sl2,v,rfl⟩:=q;have e1:T.t2[m]?=some T.t2[m]:=gE hm;obtain⟨a,ea,ha⟩:=f4 m _ e1;obtain⟨rfl,hx⟩:=yl;have hx2:=hx _ (SqT.of (s2 _ _ f2));rw[ea]at hx2;cases hx2;have hy:T.t2[m]∈T.t2:=aH hm;have ha1:=s2 _ _ ha;rw[map_take hm];generalize T.t2[m]=y at ha1 hy;obtain⟨a1,b1,d1,c1,e1,g1,rfl,_⟩:=Pk ok hy;refine⟨_,rfl,λx' dx' hx' hdx' _=>⟨x',dx',a,_,_,Xw _,rfl,ZS 1 (by decide),Zb,V3 hx' hdx' ha1,⟨a1,b1,_,d1,_,_,rfl,rfl,rfl⟩,λH' s3 st=>⟨rfl,?_⟩⟩⟩;have s4:=Vk hx' hdx' s3;exact⟨s2.trans s4,(sl2.same s4).snoc st (.inr (.inl ⟨_,hy,rfl,rfl,rfl⟩)),_,rfl⟩
 ·obtain⟨s2,sl2,v,rfl⟩:=q;rw[aO]at sl2;have s5:Same H (upd H5 lr (.lst zs)):=sameNew s2 hlr;have sl5:=sl2.same (sameNew (o:=.lst zs) (Same.refl H5) hlr);have er:upd H5 lr (.lst zs) lr=some (.lst zs):=Zb;have fr:H lr=none:=s2.free hlr;generalize upd H5 lr (.lst zs)=H6 at s5 sl5 er ⊢;refine⟨_,rfl,t,T,rfl,tel.same s5,ok,λH7 p2 ws s7 h7 e7 sl7=>?_⟩;replace sl7:StL H7 Cs T ws (T.t3.flatMap (ZK T)):=sl7;refine⟨lr,p2,zs,ws,rfl,rfl,s7 _ _ er,e7,?_,λp3 h3=>?_⟩
  ·rw[sl5.len,sl7.len];exact Nat.le_trans (by omega:_<=20000) (by decide)
  have s8:Same H7 (upd H7 p3 (.lst (zs++ws))):=sameNew (Same.refl _) h3;have slA:=((sl5.same s7).app sl7).same s8;have e8:upd H7 p3 (.lst (zs++ws)) p3=some (.lst (zs++ws)):=Zb;generalize upd H7 p3 (.lst (zs++ws))=H8 at s8 slA e8 ⊢;have S08:=s5.trans (s7.trans s8);refine⟨_,rfl,t,T,rfl,tel.same S08,ok,λH9 p4 us s9 h9 e9 sl9=>?_⟩;replace sl9:StL H9 Cs T us (T.t1.flatMap (ZH T)):=sl9;have slB:=(slA.same s9).app sl9;have S09:=S08.trans s9;refine⟨p3,p4,_,us,rfl,rfl,s9 _ _ e8,e9,?_,λp5 h5=>?_⟩
  ·rw[slA.len,sl9.len,ax];exact Nat.le_trans (by omega:_<=20000) (by decide)
  exact k _ p5 _ (sameNew S09 h5) (S09.free h5) Zb (slB.same (sameNew (Same.refl _) h5))
theorem Qb:FnScope ["table"] ["table"] (Ze T.f_steps_of):=scO
theorem WT(CO:Can P w K mg base 4 "set_outs_of" ["table"] (Xd C Cs λT=>T.t4.flatMap (ZV T)))(CM:Can P w K mg base 5 "moves_of" ["table"] (Xd C Cs Ge))(D:Df K mg "steps_of" T.f_steps_of ["table"]):Can P w K mg base 6 "steps_of" ["table"] (Xd C Cs allS):=by
 refine D.cn Qb λf cdv A outer s H vs Q E hr h=>?_;obtain⟨t,T,rfl,tel,ok,k⟩:=h;have pl:=Jb ok;refine⟨_,(Zj (Zn (Zw VS (cn CO hr (Za (pv 0) Zh)) (cn CM hr (Za (pv 0) Zh))))),?_⟩;refine⟨_,rfl,t,T,rfl,tel,ok,λH7 p2 ws s7 h7 e7 sl7=>?_⟩;replace sl7:StL H7 Cs T ws (T.t4.flatMap (ZV T)):=sl7;refine⟨_,rfl,t,T,rfl,tel.same s7,ok,λH9 p4 us s9 h9 e9 sl9=>?_⟩;have slB:=(sl7.same s9).app sl9;have S09:=s7.trans s9;refine⟨p2,p4,ws,us,rfl,rfl,s9 _ _ e7,e9,?_,λp5 h5=>?_⟩
 ·have lm:(Ge T).length<=3000:=by unfold Ge;rw[ax,ax];omega
  rw[sl7.len,sl9.len];exact Nat.le_trans (by omega:_<=20000) (by decide)
 rw[W2]at slB;exact k _ p5 _ (sameNew S09 h5) (S09.free h5) Zb (slB.same (sameNew (Same.refl _) h5))
end
def MW(K:af)(H:Hp)(x:V):Prop:=∃ty,TyOf K H x ty/\aj K ty (.type "tuple")=some false
theorem Lo{K:af}:aj K (.type "tuple") (.type "tuple")=some true:=by kernel_rfl
def Vi(T:Tb)(xs:List V):Prop:=∃y∈T.t1,∃i,xs=[.str (nameOf y),.int i]/\0<=i/\i<=T.n
def NZ(K:af)(C:Addr):Sp:=λvs H Q _=>∃(t:Addr)(x:V)(T:Tb),vs=[.ref t,x]/\Tel H C t T/\OkTb T /\((MW K H x/\Q (.bl false) H)\/∃a xs,x=.ref a/\H a=some (.tup xs)/\xs.length<=1000/\(∀v∈xs,∃T,Th H v T)/\∀b:Bool,(b=true↔Vi T xs)->Q (.bl b) H)
theorem QC{z:Str}{kvs:List (Key×V)}{v:V}(h:valV kvs (.inr z)=some v):ZP (.str z) kvs=true:=by show(valV kvs (.inr z)).isSome=true;rw[h];rfl
section
variable {P:Program}{w:World}{K:af}{mg:Str->Option Value}{base:Heap}{C:Addr}
theorem MZ:FnScope ["table","thing"] ["table","thing"] (Ze T.f_is_spot_of):=scO
theorem LM(B:∀x∈Blts,mg x=none)(Z:TCl K C)(CP:CanM P w K mg base CX0 2 C "is_place" ["self","thing"] (Mp C "room_by_place"))(CI:Can P w K mg base 2 "is_within" ["thing","low","high"] K1.XH)(D:Df K mg "is_spot_of" T.f_is_spot_of ["table","thing"]):Can P w K mg base 4 "is_spot_of" ["table","thing"] (NZ K C):=by
 refine D.cn MZ λf cdv A outer s H vs Q E hr h=>?_;obtain⟨t,x,T,rfl,tel,ok,h⟩:=h;obtain⟨fs,x1,x2,x3,x4,k5,tp,dd⟩:=tel;obtain⟨l,d,ys,rs,a1,a2,a3,a4,a5⟩:=tp.tab.p;have pd:=dd.p;obtain⟨dx,ht⟩:=tp.tab.tab.at_;refine⟨_,(Zd (ZZ (PW.pt (JJ (Yb (Z2 (YU (c:="tuple") (pv 1) rfl (bm B) rfl (bm B) XY))) (Xs (ZD KU (ZO (r:=rLen K) YR rfl (bm B) b6 (Za (pv 1) Zh)) Zc (ZC _))))) (Zj (Zn JX)) Zx) (Zj (Zn (YB (Yc CP Z.cl Yk hr.m (pv 0) (Za (it K (pv 1) Zc) Zh)) (YF (cn CI hr (Za (it K (pv 1) Zc) (Za Zc (Za (ZI (pv 0) rfl) Zh))))))))),?_⟩;rcases h with⟨⟨ty,hty,kt⟩,k⟩|⟨a,xs,rfl,ha,hlen,hit,k⟩
 ·refine⟨_,rfl,_,_,_,_,rfl,hty,kt,_,rfl,?_⟩;refine iteT ?_;exact iteT k
 ·refine⟨_,rfl,_,_,_,_,rfl,.tup ha,Lo,_,rfl,?_⟩;refine iteF ?_;refine⟨_,rfl,a,_,rfl,.inr (SqT.of ha),rfl,_,rfl,?_⟩;refine J2 (λe=>?_) (λe=>?_)
  ·refine k false ⟨λh=>(by cases h),?_⟩;rintro ⟨y,_,i,rfl,_⟩;simp at e
  ·have h2:xs.length=2:=by
    have q:decide (V.int (xs.length:Int)=V.int 2)=true:=by simpa using e
    have q:=of_decide_eq_true q;injection q with q;omega
   obtain⟨u,v,rfl⟩:=len2 h2;obtain⟨T0,th0⟩:=hit u (by simp);obtain⟨T1,th1⟩:=hit v (by simp);refine mthV ht (tp.tab.tab.only _ (by decide +kernel)) (ixT 0 ha rfl ⟨t,u,T0,fs,d,_,rfl,tp.tab.tab,a2,a5,th0,?_⟩);refine⟨_,rfl,?_⟩;cases e2:ZP u k5.1 with
  |false=>refine iteF ?_;refine k false ⟨λh=>(by cases h),?_⟩;rintro ⟨y,hy,i,e3,_⟩;injection e3 with e3 e4;rw[e3,QC (pd.has y hy)]at e2;cases e2
  |true=>
    refine iteT ?_;refine ixT 1 ha rfl ⟨_,rfl,t,C,dx,fs,_,rfl,ht,Z.cl,Z.na _ (by simp[fields]),tp.tab.turns,v,T1,0,T.n,rfl,th1,?_⟩;obtain⟨z,v0,rfl,hv⟩:=Yw e2;refine k _ ⟨λh=>?_,?_⟩
    ·obtain⟨i,rfl,i0,i1⟩:=within_int h;have hm:z∈T.t1.map nameOf:=ib λn=>by rw[pd.no z n]at hv;cases hv
     obtain⟨y,hy,rfl⟩:=av.mp hm;exact⟨y,hy,i,rfl,i0,i1⟩
    ·rintro ⟨y,hy,i,e3,i0,i1⟩;injection e3 with e3 e4;injection e4 with e4;subst e4;show(decide (0<=i)&&decide (i<=T.n))=true;rw[decide_eq_true i0,decide_eq_true i1];rfl
end
end SX
namespace L2
open PySem PySem.Spec PyProof.Rows
noncomputable abbrev MK:=Key ⊕ List Key
section
variable (P:Program)(w:World)
noncomputable def mIs(h:Heap):MK->Value->Prop
|.inl k,v=>(Zy P w).is k v=true
|.inr ks,v=>∃a,v=.ref a/\(cY (Zy P w)).is h ks a
noncomputable def mH:MK->Int
|.inl k=>(Zy P w).hash k
|.inr ks=>(cY (Zy P w)).hash ks
noncomputable def mD:MK->Nat
|.inl _=>1
|.inr ks=>(cY (Zy P w)).draws ks
noncomputable def mE(x:MK×Value×Value):DictEntry:=⟨mH P w x.1,x.2.1,x.2.2⟩
end
section
variable {P:Program}{w:World}{A:aL}{E:Value->ah->Prop}{s:ah}
theorem DW{h:Heap}{k:MK}{v:Value}(x:mIs P w h k v):(∃i t,v=.int i t)\/(∃i t,v=.str i t)\/∃a,v=.ref a:=by
 rcases k with k|ks
 ·rcases ZM x with⟨i,t,_,e⟩|⟨y,t,_,e⟩
  ·exact .inl ⟨_,_,e⟩
  ·exact .inr (.inl ⟨_,_,e⟩)
 ·obtain⟨a,e,_⟩:=x;exact .inr (.inr ⟨a,e⟩)
theorem Eu{h:Heap}{v:Value}{a b:MK}(x:mIs P w h a v)(y:mIs P w h b v):a=b:=by
 rcases a with a|a<;>rcases b with b|b
 ·rw[(Zy P w).inj v a b x y]
 ·obtain⟨c,rfl,_⟩:=y;rcases ZM x with⟨_,_,_,e⟩|⟨_,_,_,e⟩<;>cases e
 ·obtain⟨c,rfl,_⟩:=x;rcases ZM y with⟨_,_,_,e⟩|⟨_,_,_,e⟩<;>cases e
 ·obtain⟨c,rfl,p⟩:=x;obtain⟨c',e,q⟩:=y;cases e;rw[(cY (Zy P w)).inj p q]
theorem Lk{k:MK}{v:Value}{Q:Int->ah->Prop}(hu:A.units<cLine)(x:mIs P w s.heap k v)(h:Q (mH P w k) {s with toks:=s.toks+mD P w k}):wpAny (model P w) A (pyHash v) Q E s:=by
 rcases k with k|ks
 ·exact(Zy P w).pyHash x h
 ·obtain⟨a,rfl,p⟩:=x;exact(cY (Zy P w)).pyHash hu p h
theorem Es{h:Heap}{ks:List Key}{a:Addr}(p:(cY (Zy P w)).is h ks a):∃items,h.IsTuple a items:=by obtain⟨o,items,n,h1,h2,h3,_⟩:=p;exact⟨items,o,h1,h2,n,h3⟩
theorem m_eq{x y:MK}{u v:Value}{Q:Bool->ah->Prop}(hu:A.units<cLine)(hx:mIs P w s.heap x u)(hy:mIs P w s.heap y v)(h:Q (decide (x=y)) s):wpAny (model P w) A (eqBool u v) Q E s:=by
 rcases x with a|a<;>rcases y with b|b
 ·refine(Zy P w).eqBool hx hy ?_;rwa [show decide (a=b)=decide ((gC a:MK)=.inl b)from by by_cases e:a=b<;>simp[e]]
 ·obtain⟨c,rfl,p⟩:=hy;obtain⟨its,it⟩:=Es p;rw[decide_eq_false (λq=>nomatch q)]at h;rcases ZM hx with⟨i,t,_,rfl⟩|⟨i,t,_,rfl⟩
  ·exact SeqAt.EqAt.int_tuple i t it hu _ _ _ _ h
  ·exact SeqAt.EqAt.str_tuple i t it hu _ _ _ _ h
 ·obtain⟨c,rfl,p⟩:=hx;obtain⟨its,it⟩:=Es p;rw[decide_eq_false (λq=>nomatch q)]at h;rcases ZM hy with⟨i,t,_,rfl⟩|⟨i,t,_,rfl⟩
  ·exact SeqAt.EqAt.tuple_int i t it hu _ _ _ _ h
  ·exact SeqAt.EqAt.tuple_str i t it hu _ _ _ _ h
 ·obtain⟨c,rfl,p⟩:=hx;obtain⟨d,rfl,q⟩:=hy;refine(cY (Zy P w)).eqBool hu p q ?_;rwa [show decide (a=b)=decide ((cD a:MK)=.inr b)from by by_cases e:a=b<;>simp[e]]
theorem Tq{k:MK}{v:Value}{Q:Bool->ah->Prop}(x:mIs P w s.heap k v)(h:Q true s):wpAny (model P w) A (eqIsQuiet 8 v) Q E s:=by
 rcases k with k|ks
 ·rw[eqIsQuiet_byValue _ ((Zy P w).byValue k v x)];exact ai h
 ·obtain⟨a,rfl,p⟩:=x;exact(cY (Zy P w)).quiet p h
theorem DV{key:Value}{k:MK}{stored:List Value}{Q:Bool->ah->Prop}(hkey:mIs P w s.heap k key)(hst:∀v∈stored,∃k',mIs P w s.heap k' v)(h:Q false s):wpAny (model P w) A (tableMayTell key stored) Q E s:=by
 unfold tableMayTell;split
 ·exact ai h
 ·refine ae (Tq hkey ?_);simp only[Bool.not_true,Bool.false_eq_true,if_false];refine ae ?_;refine wpAny_forIn_list _ (λrest r s'=>s'=s/\r=(none,())/\∀v∈rest,∃k',mIs P w s.heap k' v) _ ?_ ?_ _ _ ⟨rfl,rfl,hst⟩
  ·rintro x rest r s' ⟨rfl,rfl,hr⟩;obtain⟨k',hb⟩:=hr x az;refine ae (Tq hb ?_);simp only[Bool.not_true,Bool.false_eq_true,if_false];exact ai ⟨rfl,rfl,λv hv=>hr v (aq _ hv)⟩
  ·rintro r s' ⟨rfl,rfl,_⟩;exact ai h
theorem Et{h:Heap}{k:MK}{x:Str}{t:Tok}{v:Value}(p:mIs P w h k (.str x t)):(v.isStr x=true)↔mIs P w h k v:=by
 rcases k with k|ks
 ·show _↔(Zy P w).is k v=true;rw[(Zy P w).strs k x t v p]
 ·obtain⟨a,e,_⟩:=p;cases e
theorem Qy{es:Array DictEntry}{xs:List (MK×Value×Value)}(he:es.toList=xs.map (mE P w))(j:Nat):es[j]?=(xs[j]?).map (mE P w):=by rw[<-d_,he,aD]
theorem Tr{es:Array DictEntry}{xs:List (MK×Value×Value)}(he:es.toList=xs.map (mE P w)):es.size=xs.length:=by rw[<-dg,he,lm]
theorem E8{xs:List (MK×Value×Value)}(hn:(xs.map (·.1)).Nodup):∀{i j:Nat}{k:MK}{p q:Value×Value},xs[i]?=some (k,p)->xs[j]?=some (k,q)->i=j:=by
 intro i j k p q hi hj;have hi':(xs.map (·.1))[i]?=some k:=by rw[aD,hi];rfl
 have hj':(xs.map (·.1))[j]?=some k:=by rw[aD,hj];rfl
 exact(List.getElem?_inj (aw.mp hi').1 hn).mp (hi'.trans hj'.symm)
theorem Tx{α:Type}{M:Model}{c:Prop}[Decidable c]{a b:Sem α}{Q:α->ah->Prop}(h1:wpAny M A a Q E s)(h2:wpAny M A b Q E s):wpAny M A (if c then a else b) Q E s:=by split<;>assumption
theorem MF{α:Type}{M:Model}{c:Prop}[Decidable c]{t:Sem Bool}{f:Bool->Sem α}{Q:α->ah->Prop}(h1:wpAny M A (f false) Q E s)(h2:∀Q':Bool->ah->Prop,Q' false s->wpAny M A t Q' E s):wpAny M A (if c then(pure false >>= f)else(t >>= f)) Q E s:=Tx (ae (ai h1)) (ae (h2 _ h1))
theorem share{α:Type}{M:Model}{C:Value->Prop}{F:Value->Sem α}{Q:α->ah->Prop}{g:Prop}(G:(∀kk,C kk->wpAny M A (F kk) Q E s)->g)(H:∀kk,C kk->wpAny M A (F kk) Q E s):g:=G H
theorem Fc{xs:List (MK×Value×Value)}{k:MK}{f:Nat->Bool}{i x:Nat}{hit:Option Nat}(haskey:∀(j:Nat)(p:Value×Value),xs[j]?=some (k,p)->f j=true)(hskip:∀j,i<=j->j<x->f j=false)(hH:(hit=none/\∀j p,j<i->xs[j]?≠some (k,p))\/∃j p,hit=some j/\j<i/\xs[j]?=some (k,p))(hix:i<=x:=by assumption):(hit=none/\∀j p,j<x->xs[j]?≠some (k,p))\/∃j p,hit=some j/\j<x/\xs[j]?=some (k,p):=by
 rcases hH with⟨h0,hno⟩|⟨j,p,h1,hji,hj⟩
 ·refine .inl ⟨h0,λj p hjx hj=>?_⟩;rcases Nat.lt_or_ge j i with h|h
  ·exact hno j p h hj
  ·have:=hskip j h hjx;rw[haskey j p hj]at this;exact absurd this (by decide)
 ·exact .inr ⟨j,p,h1,by omega,hj⟩
theorem E9{xs:List (MK×Value×Value)}{k k':MK}{x:Nat}{hit:Option Nat}{b v':Value}(hkv:xs[x]?=some (k',b,v'))(hne:¬k'=k)(hHx:(hit=none/\∀j p,j<x->xs[j]?≠some (k,p))\/∃j p,hit=some j/\j<x/\xs[j]?=some (k,p)):(hit=none/\∀j p,j<x+1->xs[j]?≠some (k,p))\/∃j p,hit=some j/\j<x+1/\xs[j]?=some (k,p):=by
 rcases hHx with⟨h0,hno⟩|⟨j,p,h1,hjx,hj⟩
 ·refine .inl ⟨h0,λj p hjx hj=>?_⟩;rcases Nat.lt_or_ge j x with h|h
  ·exact hno j p h hj
  ·have hjx':j=x:=by omega
   subst hjx';rw[hkv]at hj;injection hj with hj;injection hj with hj;exact hne hj
 ·exact .inr ⟨j,p,h1,by omega,hj⟩
theorem m_find{d:Addr}{key:Value}{o:Obj}{es ep}{xs:List (MK×Value×Value)}{k:MK}{Q:Option Nat->ah->Prop}(hu:A.units<cLine)(hkey:mIs P w s.heap k key)(ho:s.heap.get? d=some o)(hd:o.data=.dict es ep)(he:es.toList=xs.map (mE P w))(his:∀x∈xs,mIs P w s.heap x.1 x.2.1)(hn:(xs.map (·.1)).Nodup)(hnone:(∀(j:Nat)(p:Value×Value),xs[j]?≠some (k,p))->Q none s)(hsome:∀(j:Nat)(p:Value×Value),xs[j]?=some (k,p)->Q (some j) s):wpAny (model P w) A (dictFind d key (mH P w k)) Q E s:=by
 have hsz:es.size=xs.length:=Tr he;have haskey:∀(j:Nat)(p:Value×Value),xs[j]?=some (k,p)->((es[j]?.map (·.hash))==some (mH P w k))=true:=by intro j p hj;rw[Qy he j,hj];simp[mE]
 have hmem:∀e∈es,∃x∈xs,e=mE P w x:=by intro e hin;have:e∈xs.map (mE P w):=he▸eF.mpr hin;obtain⟨x,hx,rfl⟩:=av.mp this;exact⟨x,hx,rfl⟩
 have hat:∀x,x<es.size->∃k' b v',xs[x]?=some (k',b,v')/\mIs P w s.heap k' b/\es[x]?=some ⟨mH P w k',b,v'⟩:=by intro x hlt;obtain⟨⟨k',b,v'⟩,hkv⟩:∃y,xs[x]?=some y:=⟨xs[x]'(by rw[<-hsz];exact hlt),gE _⟩;exact⟨k',b,v',hkv,his _ (aQ hkv),by rw[Qy he x,hkv];rfl⟩
 have hany:¬(es.any λe=>e.key==key&&e.hash != mH P w k)=true:=by rw[<-Array.any_toList,h_];rintro ⟨e,hin,hc⟩;obtain⟨x,hx,rfl⟩:=hmem e (eF.mp hin);simp only[mE,Bool.and_eq_true,beq_iff_eq,bne_iff_ne,ne_eq]at hc;obtain⟨hxa,hne⟩:=hc;have:=his x hx;rw[hxa]at this;exact hne (by rw[Eu this hkey])
 have hst:∀v∈(gX es.size (λi=>es[i]?.map (·.hash)) (mH P w k)).filterMap (λi=>es[i]?.map (·.key)),∃k',mIs P w s.heap k' v:=by
  intro v hv;obtain⟨i,_,hi⟩:=gR.mp hv;cases hei:es[i]? with
 |none=>rw[hei]at hi;cases hi
 |some e=>
   rw[hei]at hi;obtain rfl:e.key=v:=by simpa using hi
   obtain⟨x,hx,rfl⟩:=hmem e (Array.mem_of_getElem? hei);exact⟨x.1,his x hx⟩
 have nolate:∀i,(∀j p,j<i->xs[j]?≠some (k,p))->(∀j,i<=j->j<es.size->((es[j]?.map (·.hash))==some (mH P w k))=false)->Q none s:=by
  intro i hno hall;refine hnone λj p hj=>?_;rcases Nat.lt_or_ge j i with h|h
  ·exact hno j p h hj
  ·have hjl:j<es.size:=by
    rw[hsz];rcases Nat.lt_or_ge j xs.length with h'|h'
    ·exact h'
    ·rw[dI h']at hj;exact nomatch hj
   have:=hall j h hjl;rw[haskey j p hj]at this;exact absurd this (by decide)
 have plain:wpAny (model P w) A (dictWalkPlain d key (mH P w k) es (gX es.size (λi=>es[i]?.map (·.hash)) (mH P w k))) Q E s:=by
  refine ae ?_;refine wpAny_forIn_list _ (λrest b s'=>s'=s/\b=(none,())/\∃i,rest=(ij i (es.size-i)).filter (λi=>(es[i]?.map (·.hash))==some (mH P w k))/\i<=es.size /\∀j p,j<i->xs[j]?≠some (k,p)) _ ?_ ?_ _ _ ⟨rfl,rfl,0,by rw[gX,List.range_eq_range',Nat.sub_zero],Nat.zero_le _,λ_ _ h=>absurd h (Nat.not_lt_zero _)⟩
  ·rintro x rest b s' ⟨rfl,rfl,i,hr,hi,hno⟩;obtain⟨hix,hxn,hpx,hskip,hrest⟩:=filter_range'_cons _ _ _ _ _ hr.symm;have hlt:x<es.size:=by omega
   obtain⟨k',b,v',hkv,hib,hex⟩:=hat x hlt;have hnext:¬k'=k->∃i,rest=(ij i (es.size-i)).filter (λi=>(es[i]?.map (·.hash))==some (mH P w k))/\i<=es.size /\∀j p,j<i->xs[j]?≠some (k,p):=λhne=>
    ⟨x+1,by rw[hrest];congr 2;omega,hlt,λj p hji hj=>by
     rcases Nat.lt_or_ge j i with h|h
     ·exact hno j p h hj
     ·rcases Nat.lt_or_ge j x with h'|h'
      ·have:=hskip j h h';rw[haskey j p hj]at this;exact absurd this (by decide)
      ·have:j=x:=by omega
       subst this;rw[hkv]at hj;injection hj with hj;injection hj with hj;exact hne hj⟩
   rw[hex];dsimp only;by_cases hh:(mH P w k'==mH P w k)=true
   ·rw[if_pos hh];refine ae (bJ ho hd (ae (m_eq (x:=k') (y:=k) hu hib hkey (ae (bJ ho hd ?_)))));show wpAny _ _ (if(ep != ep)=true then _ else _) _ E _;rw[if_neg (by simp)];by_cases hkk:k'=k
    ·rw[decide_eq_true hkk];subst hkk;exact ae (d8 (ai (ai (hsome x _ hkv))))
    ·rw[decide_eq_false hkk];exact ae (d8 (ai ⟨rfl,rfl,hnext hkk⟩))
   ·rw[if_neg hh];refine ai ⟨rfl,rfl,hnext ?_⟩;intro hkk;rw[hkk]at hh;simp at hh
  ·rintro b s' ⟨rfl,rfl,i,hr,hi,hno⟩;refine ai (nolate i hno λj h1 h2=>?_);have:=List.filter_eq_nil_iff.mp hr.symm j (List.mem_range'_1.mpr ⟨h1,by omega⟩);simpa using this
 have byS:∀x t,key=.str x t->wpAny (model P w) A (foundByValue d key es x) Q E s:=by
  intro x t ek;subst ek;unfold foundByValue;cases hf:es.findIdx? (λe=>e.key.isStr x)with
 |none=>
   refine ai (hnone λj p hj=>?_);have q:=Array.findIdx?_eq_none_iff.mp hf (mE P w (k,p)) (by
    have z:es[j]?=some (mE P w (k,p)):=by rw[Qy he j,hj];rfl
    exact Array.mem_of_getElem? z);rw[(Et hkey (v:=(mE P w (k,p)).key)).mpr (his _ (aQ hj))]at q;cases q
 |some i=>
   obtain⟨hlt,hi,_⟩:=Array.findIdx?_eq_some_iff_getElem.mp hf;obtain⟨k',b,v',hkv,hib,hex⟩:=hat i hlt;have ee:es[i]=⟨mH P w k',b,v'⟩:=by rw[bI hlt]at hex;exact ao hex
   rw[ee]at hi;have hkk:k'=k:=Eu hib ((Et hkey).mp hi);simp only[hex];refine ae (bJ ho hd (ae (m_eq (x:=k') (y:=k) hu hib hkey (ae (bJ ho hd ?_)))));show wpAny _ _ (if(ep != ep)=true then _ else _) _ E _;rw[if_neg (by simp),decide_eq_true hkk];subst hkk;exact ae (d8 (ai (hsome i _ hkv)))
 unfold dictFind;try with_reducible refine aW ?_
 refine ae (cg ho hd ?_);refine share (C:=mIs P w s.heap k) (Q:=Q) (E:=E) (A:=A) (M:=model P w) (s:=s) (λHH=>by
  rcases DW hkey with⟨i,t,ek⟩|⟨x,t,ek⟩|⟨a,ek⟩<;>rw[ek]<;>dsimp only<;>rw[<-ek];case' inr.inl=>refine Tx (byS x t ek) ?_
  case' inr.inr=>rw[if_neg (by rw[ek];simp[carriedByValue]),if_neg hany]
  case' inl=>refine Tx plain ?_
  case' inr.inl=>refine Tx plain ?_
  all_goals
   refine MF ?_ (λQ' h=>DV hkey hst h);have hk2:=hkey;revert hk2;generalize key=kk;intro hk2;exact HH kk hk2) ?_
 clear plain byS hany hkey key;intro key hkey;rw[if_neg (by simp)];refine ae ?_;refine wpAny_forIn_list _ (λrest b s'=>s'=s/\∃i hit,b=(none,hit)/\rest=(ij i (es.size-i)).filter (λi=>(es[i]?.map (·.hash))==some (mH P w k))/\i<=es.size /\((hit=none/\∀j p,j<i->xs[j]?≠some (k,p))\/∃j p,hit=some j/\j<i/\xs[j]?=some (k,p))) _ ?_ ?_ _ _ ⟨rfl,0,none,rfl,by rw[gX,List.range_eq_range',Nat.sub_zero],Nat.zero_le _,.inl ⟨rfl,λ_ _ h=>absurd h (Nat.not_lt_zero _)⟩⟩
 ·rintro x rest b s' ⟨rfl,i,hit,rfl,hr,hi,hH⟩;obtain⟨hix,hxn,hpx,hskip,hrest⟩:=filter_range'_cons _ _ _ _ _ hr.symm;have hlt:x<es.size:=by omega
  have hrest':rest=(ij (x+1) (es.size-(x+1))).filter (λi=>(es[i]?.map (·.hash))==some (mH P w k)):=by rw[hrest];congr 2;omega
  obtain⟨k',b,v',hkv,hib,hex⟩:=hat x hlt;have hHx:=Fc haskey hskip hH;have hstay:¬k'=k->_:=λhne=>E9 hkv hne hHx;rw[hex];dsimp only;by_cases hh:(mH P w k'==mH P w k)=true
  ·rw[if_pos hh];refine ae (bJ ho hd (ae (m_eq (x:=k') (y:=k) hu hib hkey (ae (bJ ho hd ?_)))));show wpAny _ _ (if(ep != ep)=true then _ else _) _ E _;rw[if_neg (by simp)];by_cases hkk:k'=k
   ·rw[decide_eq_true hkk];subst hkk;rcases hHx with⟨rfl,_⟩|⟨j,p,_,hjx,hj⟩
    ·first|rw[if_pos rfl]|skip
     simp only[Option.isSome_none,Bool.false_eq_true,if_false];first|refine ae (ai ?_)|skip
     refine ae (d8 ?_);split
     ·exact ai (ai (hsome x _ hkv))
     ·exact ai ⟨rfl,x+1,some x,rfl,hrest',hlt,.inr ⟨x,_,rfl,Nat.lt_succ_self x,hkv⟩⟩
    ·exact absurd (E8 hn hj hkv) (by omega)
   ·rw[decide_eq_false hkk];simp only[Bool.false_eq_true,if_false];refine ae (d8 ?_);first|rw[if_neg (by simp)]|skip
    first
    |exact ai ⟨rfl,x+1,hit,rfl,hrest',hlt,hstay hkk⟩
    |exact ae (ai (ai ⟨rfl,x+1,hit,rfl,hrest',hlt,hstay hkk⟩))
  ·rw[if_neg hh];refine ai ⟨rfl,x+1,hit,rfl,hrest',hlt,hstay ?_⟩;intro hkk;rw[hkk]at hh;simp at hh
 ·rintro b s' ⟨rfl,i,hit,rfl,hr,hi,hH⟩;rcases hH with⟨rfl,hno⟩|⟨j,p,rfl,_,hj⟩
  ·refine ai (nolate i hno λj h1 h2=>?_);have:=List.filter_eq_nil_iff.mp hr.symm j (List.mem_range'_1.mpr ⟨h1,by omega⟩);simpa using this
  ·exact ai (hsome j p hj)
end
noncomputable def mAt(xs:List (MK×Value×Value))(k:MK):Option (Value×Value):=(xs.find? λx=>decide (x.1=k)).map (·.2)
theorem Tu{xs:List (MK×Value×Value)}(hn:(xs.map (·.1)).Nodup){i:Nat}{k:MK}{p:Value×Value}(hx:xs[i]?=some (k,p)):mAt xs k=some p:=by
 induction xs generalizing i with
|nil=>simp at hx
|cons x rest ih=>
  rw[aI,cF]at hn;cases i with
 |zero=>simp only[List.getElem?_cons_zero,Option.some.injEq]at hx;subst hx;simp[mAt]
 |succ j=>simp only[List.getElem?_cons_succ]at hx;have hmem:k∈rest.map (·.1):=av.mpr ⟨(k,p),aQ hx,rfl⟩;have hne:¬x.1=k:=λe=>hn.1 (e▸hmem);have:=ih hn.2 hx;simpa[mAt,cJ,hne]using this
theorem Qz{xs:List (MK×Value×Value)}{k:MK}(h:∀(j:Nat)(p:Value×Value),xs[j]?≠some (k,p)):mAt xs k=none:=by
 have:(xs.find? λx=>decide (x.1=k))=none:=by rw[List.find?_eq_none];intro x hx hk;obtain⟨j,hj⟩:=bj.mp hx;have hk':x.1=k:=of_decide_eq_true hk;exact h j x.2 (by rw[hj,<-hk'])
 simp[mAt,this]
theorem Fe{xs:List (MK×Value×Value)}{k:MK}(h:∀(j:Nat)(p:Value×Value),xs[j]?≠some (k,p)):k∉xs.map (·.1):=by intro hm;obtain⟨x,hx,rfl⟩:=av.mp hm;obtain⟨j,hj⟩:=bj.mp hx;exact h j x.2 hj
def MD(P:Program)(w:World)(h:Heap)(d:Addr)(xs:List (MK×Value×Value)):Prop:=∃o es ep,h.get? d=some o/\o.ExactDict/\o.data=.dict es ep/\es.toList=xs.map (mE P w)/\(xs.map (·.1)).Nodup
section
variable {P:Program}{w:World}{A:aL}{E:Value->ah->Prop}{s:ah}{d:Addr}{xs:List (MK×Value×Value)}{k:MK}{key v:Value}
theorem MD.typeIs(hm:MD P w s.heap d xs):s.TypeIs (.ref d) "dict":=by obtain⟨o,_,_,ho,hc,_⟩:=hm;exact⟨o,ho,hc.1⟩
theorem HM{Q:Option Value->ah->Prop}(hu:A.units<cLine)(hkey:mIs P w s.heap k key)(hm:MD P w s.heap d xs)(his:∀x∈xs,mIs P w s.heap x.1 x.2.1)(h:Q ((mAt xs k).map (·.2)) {s with toks:=s.toks+mD P w k}):wpAny (model P w) A (dictGet d key) Q E s:=by
 obtain⟨o,es,ep,ho,_,hd,he,hn⟩:=hm;unfold dictGet;try with_reducible refine aW ?_
 refine ae (Lk hu hkey (ae (m_find (s:={s with toks:=s.toks+mD P w k}) hu hkey ho hd he his hn ?_ ?_)))
 ·intro hno;rw[Qz hno]at h;exact ai h
 ·intro j p hj;rw[Tu hn hj]at h;refine ae (cg (s:={s with toks:=s.toks+mD P w k}) ho hd ?_);rw[Qy he j,hj];exact ai h
theorem MD.push{o:Obj}{es:Array DictEntry}{ep:Nat}{h:Heap}(ho:h.get? d=some o)(hc:o.ExactDict)(hd:o.data=.dict es ep)(he:es.toList=xs.map (mE P w))(hn:(xs.map (·.1)).Nodup)(hno:∀(j:Nat)(p:Value×Value),xs[j]?≠some (k,p)):MD P w (h.update d (·.mapDictKeys λes=>es.push ⟨mH P w k,key,v⟩)) d (xs++[(k,key,v)]):=by
 refine⟨_,_,ep+1,Heap.get?_update_self _ ho (Obj.isFreed_of_dict (Obj.data_mapDictKeys hd _)),hc.mapDictKeys _,Obj.data_mapDictKeys hd _,?_,?_⟩
 ·simp[he,mE]
 ·rw[a8,g8];refine⟨hn,by simp,?_⟩;intro x hx y hy;simp only[aI,fT,aU]at hy;subst hy;exact λe=>Fe hno (e▸hx)
theorem Fd{Q:Value->ah->Prop}(hu:A.units<cLine)(hkey:mIs P w s.heap k key)(hm:MD P w s.heap d xs)(his:∀x∈xs,mIs P w s.heap x.1 x.2.1)(h1:∀p,mAt xs k=some p->Q p.2 {s with toks:=s.toks+mD P w k})(h2:mAt xs k=none->∀h',MD P w h' d (xs++[(k,key,v)])->Heap.SameBut d s.heap h'->Q v {s with heap:=h',toks:=s.toks+mD P w k})(hsz:xs.length<=sizeLine):wpAny (model P w) A (dictSetDefault d key v) Q E s:=by
 obtain⟨o,es,ep,ho,hc,hd,he,hn⟩:=hm;unfold dictSetDefault;try with_reducible refine aW ?_
 refine ae (Lk hu hkey ?_);refine ae (m_find (s:={s with toks:=s.toks+mD P w k}) hu hkey ho hd he his hn ?_ ?_)
 ·intro hno;exact ae (d8 (ae (wpAny_updateDictKeys (hz:=by have e:=Tr he;omega) (s:={s with toks:=s.toks+mD P w k}) ho hd (ai (h2 (Qz hno) _ (MD.push ho hc hd he hn hno) (Heap.SameBut.update ..))))))
 ·intro j p hj;refine ae (cg (s:={s with toks:=s.toks+mD P w k}) ho hd ?_);rw[Qy he j,hj];exact ae (d8 (ai (h1 p (Tu hn hj))))
theorem E7(hd:(d==sysModules)=false)(dflt:Value):MeetsIn P w (cC.«dict.get» ⟨[.ref d,key,dflt],[]⟩) (λA R s=>A.in1.units<cLine/\∃k xs,mIs P w s.heap k key/\MD P w s.heap d xs/\(∀x∈xs,mIs P w s.heap x.1 x.2.1) /\R (.ok (.ret (((mAt xs k).map (·.2)).getD dflt))) {s with toks:=s.toks+mD P w k}):=.of_wp λA R s hZ=>by
  obtain⟨hu,k,xs,hkey,hm,his,h⟩:=hZ
  show wpAny _ _ (dictGet d key >>= _) _ _ s;refine ae (HM hu hkey hm his ?_);cases hf:(mAt xs k).map (·.2)with
 |some v=>rw[hf]at h;exact ai ⟨v,rfl,h⟩
 |none=>rw[hf]at h;show wpAny _ _ (Builtin.Dict.missed d key >>= _) _ _ _;exact ae (wpAny_missed_other hd (ai ⟨dflt,rfl,h⟩))
theorem DU(hd:(d==sysModules)=false)(dflt:Value):MeetsIn P w (cC.«dict.setdefault» ⟨[.ref d,key,dflt],[]⟩) (λA R s=>A.in1.units<cLine/\mIs P w s.heap k key/\MD P w s.heap d xs/\(∀x∈xs,mIs P w s.heap x.1 x.2.1)/\xs.length<=sizeLine /\(∀p,mAt xs k=some p->R (.ok (.ret p.2)) {s with toks:=s.toks+mD P w k}) /\(mAt xs k=none->∀h',MD P w h' d (xs++[(k,key,dflt)])->Heap.SameBut d s.heap h'->R (.ok (.ret dflt)) {s with heap:=h',toks:=s.toks+mD P w k})):=.of_wp λA R s hZ=>by obtain⟨hu,hkey,hm,his,hz,h1,h2⟩:=hZ;unfold cC.«dict.setdefault»;refine ae ?_;unfold Builtin.Dict.keyAndDefault;refine ae (gM hm.typeIs ?_);show wpAny _ _ (pure (d,key,some dflt)) _ _ s;refine ai ?_;show wpAny _ _ (if(d==sysModules)=true then _ else(dictSetDefault d key dflt >>= _)) _ _ s;rw[if_neg (by rw[hd];exact Bool.false_ne_true)];exact ae (Fd hu hkey hm his (λp hp=>ai ⟨p.2,rfl,h1 p hp⟩) (λe h' hm' hs'=>ai ⟨dflt,rfl,h2 e h' hm' hs'⟩) hz)
end
noncomputable def mdO(P:Program)(w:World)(a:Addr)(xs:List (MK×Value×Value)):HO:=.ext λh=>MD P w h a xs
noncomputable def KyV(H:Hp):MK->Value->Prop
|.inl k,v=>MC k v=true
|.inr ks,v=>∃b,v=.ref b/\H b=some (.tup (ks.map kV))
noncomputable def KyM(H:Hp):MK->V->Prop
|.inl k,y=>y=kV k
|.inr ks,y=>∃b,y=.ref b/\H b=some (.tup (ks.map kV))
noncomputable def KM(H:Hp):List (MK×V)->List (MK×Value×Value)->Prop:=cz λp q=>p.1=q.1/\KyV H p.1 q.2.1/\RelV p.2 q.2.2
def DM(P:Program)(w:World)(H:Hp)(a:Addr)(kvs:List (MK×V)):Prop:=∃xs,Rd H a (mdO P w a xs)/\KM H kvs xs/\kvs.length<=sizeLine/\(a==sysModules)=false
def DMw(P:Program)(w:World)(H:Hp)(a:Addr)(kvs:List (MK×V)):Prop:=∃xs,H a=some (mdO P w a xs)/\KM H kvs xs/\kvs.length<=sizeLine/\(a==sysModules)=false
section
variable {P:Program}{w:World}{H H':Hp}{h:Heap}{a:Addr}{kvs:List (MK×V)}{xs:List (MK×Value×Value)}{k:MK}{y:V}{u:Value}
theorem DMw.rd(d:DMw P w H a kvs):DM P w H a kvs:=by obtain⟨xs,e,r⟩:=d;exact⟨xs,.inl e,r⟩
theorem Li(x:MD P w h a xs):ZE P w H h a (mdO P w a xs):=by have y:=x;obtain⟨o,_,_,ho,_⟩:=y;refine⟨x,⟨o,ho⟩,λh1 h2 p k=>?_⟩;obtain⟨o,es,ep,ho,r⟩:=p;exact⟨o,es,ep,k _ ho,r⟩
theorem KyV.is(ok:HOk P w H h):∀{k:MK}{v:Value},KyV H k v->mIs P w h k v
|.inl k,v,x=>x
|.inr ks,v,⟨b,e,hb⟩=>⟨b,e,MB ok hb⟩
theorem KyM.val(P:Program)(w:World):∀{k:MK}{y:V}{u:Value},KyM H k y->RelV y u->KyV H k u
|.inl k,y,u,x,r=>by cases(show y=kV k from x);exact QF (P:=P) (w:=w) r
|.inr ks,y,u,⟨b,e,hb⟩,r=>by subst e;exact⟨b,r,hb⟩
theorem KyV.keeps(ht:∀b ys,H b=some (.tup ys)->H' b=some (.tup ys)):∀{k:MK}{v:Value},KyV H k v->KyV H' k v
|.inl k,v,x=>x
|.inr ks,v,⟨b,e,hb⟩=>⟨b,e,ht _ _ hb⟩
theorem KM.keeps(ht:∀b ys,H b=some (.tup ys)->H' b=some (.tup ys))(r:KM H kvs xs):KM H' kvs xs:=Paired.mapP r λ_ _ z=>⟨z.1,z.2.1.keeps ht,z.2.2⟩
theorem KM.is(ok:HOk P w H h)(r:KM H kvs xs):∀x∈xs,mIs P w h x.1 x.2.1:=by
 induction r with
|nil=>intro x hx;exact nomatch hx
|@cons p q ps qs hq t ih=>
  intro x hx;rcases au.mp hx with e|hx
  ·subst e;exact(show KyV H x.1 x.2.1 from by rw[<-hq.1];exact hq.2.1).is ok
  ·exact ih x hx
theorem KM.val(r:KM H kvs xs)(k:MK):RelO (valV kvs k) ((mAt xs k).map (·.2)):=by
 induction r with
|nil=>exact bD
|@cons p q ps qs h t ih=>
  obtain⟨h1,_,h2⟩:=h;by_cases e:p.1=k
  ·have e':q.1=k:=h1.symm.trans e;have b:mAt (q::qs) k=some q.2:=by simp[mAt,cJ,e']
   rw[Yy e,b];exact h2
  ·have e':¬q.1=k:=λz=>e (h1.trans z);have b:mAt (q::qs) k=mAt qs k:=by simp[mAt,cJ,e']
   rw[Yz e,b];exact ih
theorem DM.at(ok:HOk P w H h)(d:DM P w H a kvs):(a==sysModules)=false/\∃xs,KM H kvs xs/\MD P w h a xs/\xs.length<=sizeLine/\∀x∈xs,mIs P w h x.1 x.2.1:=by obtain⟨xs,e,r,z,hs⟩:=d;exact⟨hs,xs,r,(show ZE P w H h a (mdO P w a xs)from e.ok ok).1,by rw[<-bq r];exact z,r.is ok⟩
theorem DMw.keeps(d:DMw P w H a kvs)(hk:H' a=H a)(ht:∀b ys,H b=some (.tup ys)->H' b=some (.tup ys)):DMw P w H' a kvs:=by obtain⟨xs,e,r,z⟩:=d;exact⟨xs,hk.trans e,r.keeps ht,z⟩
end
section
variable {X:Cx}{pins:List (Addr×Obj)}{σ:St}{H:Hp}{s:ah}{a:Addr}{kvs:List (MK×V)}{k:MK}{y v:V}{u r:Value}{A:aL}{E:Value->ah->Prop}
theorem DMw.write{h':Heap}{t':Nat}{xs:List (MK×Value×Value)}{kvs2:List (MK×V)}(I:Inv X pins σ H s)(d:DMw X.prog X.w H a kvs)(hs:Heap.SameBut a s.heap h')(m:MD X.prog X.w h' a xs)(r:KM H kvs2 xs)(z:kvs2.length<=sizeLine):Inv X pins σ (upd H a (mdO X.prog X.w a xs)) {s with heap:=h',toks:=t'}/\DMw X.prog X.w (upd H a (mdO X.prog X.w a xs)) a kvs2:=by obtain⟨x0,e,_,_,hm⟩:=d;have m':=m;obtain⟨q,_,_,hq,_⟩:=m';refine⟨PB I (by rw[e];exact bD) hs ⟨q,hq⟩ (Li m),xs,Zb,r.keeps λc ys ec=>?_,z,hm⟩;rw[Zg (ne_of ec e (λz=>nomatch z))];exact ec
noncomputable def HK(P:Program)(w:World):V->List V->Hp->VK->Prop:=λx vs H Q=>∃a kvs k y dv,x=.ref a/\vs=[y,dv]/\DM P w H a kvs/\KyM H k y/\Q ((valV kvs k).getD dv) H
noncomputable def ET(P:Program)(w:World):V->List V->Hp->VK->Prop:=λx vs H Q=>∃a kvs k y dv,x=.ref a/\vs=[y,dv]/\DMw P w H a kvs/\KyM H k y/\kvs.length<sizeLine/\(∀u,valV kvs k=some u->Q u H) /\(valV kvs k=none->∀o,DMw P w (upd H a o) a (kvs++[(k,dv)])->Q dv (upd H a o))
theorem Tp(hu:X.A.units+1<cLine):MtM X "dict.get" (HK X.prog X.w):=by
 intro pins s σ H x vs v us Q I rx rv h;obtain⟨a,kvs,k,y,dv,rfl,rfl,d,hk,q⟩:=h;cases rx;cases rv with
|@cons _ u _ us ru rv=>
 obtain⟨u2,rfl,ru2⟩:=Vals.one (show Vals [dv] us from rv);obtain⟨hs,xs,rel,m,z,his⟩:=d.at I.hok;exact call_meetsIn fR m.typeIs PySem.F.entry_dict_get (PySem.F.args_dict_get_3 _ _ _) (E7 hs u2) ⟨hu,k,xs,(hk.val X.prog X.w ru).is I.hok,m,his,_,H,I.tok _,(rel.val k).getD ru2,q⟩
theorem Qs(hu:X.A.units+1<cLine):MtM X "dict.setdefault" (ET X.prog X.w):=by
 intro pins s σ H x vs v us Q I rx rv h;obtain⟨a,kvs,k,y,dv,rfl,rfl,d,hk,hl,q1,q2⟩:=h;cases rx;cases rv with
|@cons _ u _ us ru rv=>
 obtain⟨u2,rfl,ru2⟩:=Vals.one (show Vals [dv] us from rv);obtain⟨hs,xs,rel,m,z,his⟩:=d.rd.at I.hok;refine call_meetsIn eG m.typeIs PySem.F.entry_dict_setdefault (PySem.F.args_dict_setdefault_3 _ _ _) (DU (k:=k) (xs:=xs) hs u2) ⟨hu,(hk.val X.prog X.w ru).is I.hok,m,his,z,λp hp=>?_,λhp h' m' sb=>?_⟩
 ·have e:=rel.val k;rw[hp]at e;cases f:valV kvs k with
 |none=>rw[f]at e;exact e.elim
 |some x=>rw[f]at e;exact⟨x,H,I.tok _,e,q1 x f⟩
 ·have e:=rel.val k;rw[hp]at e;cases f:valV kvs k with
 |some x=>rw[f]at e;exact e.elim
 |none=>obtain⟨I',d'⟩:=d.write (t':=s.toks+mD X.prog X.w k) I sb m' (kvs2:=kvs++[(k,dv)]) (ft rel ⟨rfl,hk.val X.prog X.w ru,ru2⟩) (by rw[ax,f9];omega);exact⟨dv,_,I',ru2,q2 f _ d'⟩
end
def Ht(P:Program)(w:World):TE:=λ_ H Q=>∀p o,H p=none->DMw P w (upd H p o) p []->Q (.ref p) (upd H p o)
def tMBM(P:Program)(w:World)(r:V->List V->Hp->VK->Prop)(to:TE)(t:TA):TE:=λσ H Q=>to σ H λx H1=>(∃a kvs,x=.ref a/\DM P w H1 a kvs)/\t σ H1 λxs H2=>r x xs H2 Q
section
variable {X:Cx}{o i e value:Expr}{es:List Expr}{pos pos' apos cpos:Pos}{td ty tv to:TE}{t:TA}{name:Str}{id:String}{r:V->List V->Hp->VK->Prop}
theorem Ta:PE X (.Dict [] [] pos) (Ht X.prog X.w):=λpins s σ H Q I h=>by have hb:(s.heap.objs.size==sysModules)=false:=beq_eq_false_iff_ne.mpr (bw (Nat.ne_of_lt I.big));have m:MD X.prog X.w (s.heap.push {cls:=.type "dict",data:=.dict #[]}) s.heap.objs.size []:=⟨_,#[],0,Heap.get?_push_size _ rfl,⟨rfl,rfl,rfl⟩,rfl,rfl,fh⟩;exact wpAny_Dict_empty ⟨.ref s.heap.objs.size,_,I.laid (a:=s.heap.objs.size) (o:=mdO X.prog X.w s.heap.objs.size []) (t':=s.toks) (λ_ _ q=>Heap.get?_push_of_some _ q) (Nat.le_refl _) (Li m),rfl,h _ _ (I.hok.fresh (Nat.le_refl _)) ⟨[],Zb,.nil,Nat.zero_le _,hb⟩⟩
theorem Pq(slot:Slot "dict" name id)(hty:typeOf (.builtin id)=pure (.type "method_descriptor"))(hm:MtR X id r)(ho:PE X o to)(ha:PA X (e::es) t)(hbase:dq o name X.env (eval o X.env)=eval o X.env:=by rfl)(hfew:((b8 cpos (aA (e::es) X.env)).all (λx=>!x.1)&&(d6 cpos (cU [] X.env)).all (λx=>x.1.isSome)&&decide ((e::es).length+([]:List gZ).length+(if([]:List gZ).isEmpty then 0 else 1)<30))=true:=by rfl)(hline:(apos.endLine==cpos.line)=true:=by rfl)(hs:aA (e::es) X.env=(false,eval e X.env)::aA es X.env:=by rfl)(hplain:(b8 cpos (aA es X.env)).any (·.1)=false:=by rfl):PE X (.Call (.Attribute o name apos) (e::es) [] cpos) (tMBM X.prog X.w r to t):=by
 intro pins s σ H Q I h;refine wpAny_Call_method_late hbase hfew hline rfl (thn (ho pins s σ H _ I h) λv s1 hZ=>?_);obtain⟨x,H1,I1,r1,⟨a,kvs,ex,d⟩,q1⟩:=hZ;subst ex;obtain rfl:v=Value.ref a:=r1;obtain⟨_,xs,rel,m,z,his⟩:=d.at I1.hok;have h2:∀b,Value.ref a=.ref b->∃ob,s1.heap.get? b=some ob/\ob.dict=none:=λb e=>by cases e;obtain⟨ob,_,_,g1,g2,_⟩:=m;exact⟨ob,g1,g2.2.1⟩
 refine⟨"dict",id,PySem.F.plainAttrs_dict,slot,hty,m.typeIs,h2,?_⟩;have hA:=ha cpos pins s1 σ H1 _ I1 q1;rw[hs]at hA ⊢;refine d7 (by show(false||(b8 cpos (aA es X.env)).any (·.1))=false;rw[hplain]<;>rfl) (Calls.evalArgs_plain ?_)
 exact thn hA λus s2⟨vs,H2,I2,r2,q2⟩=>hm pins s2 σ H2 (.ref a) vs (.ref a) us Q I2 rfl r2 q2
end
section
variable {prog:Program}{w:World}{A:aL}{E:Value->ah->Prop}{s:ah}
theorem RF{it d:Addr}{o:Obj}{es:Array DictEntry}{i ep:Nat}{e:DictEntry}{Q:Fin->ah->Prop}(st:s.heap.IsKeyIter it d i es.size ep)(hd:s.heap.get? d=some o)(hdd:o.data=.dict es ep)(he:es[i]?=some e)(hQ:∀h',h'.IsKeyIter it d (i+1) es.size ep->Heap.SameBut it s.heap h'->Q (.done (.ret e.key)) {s with heap:=h'}):wpAny (model prog w) A (cC.«dict_keyiterator.__next__» ⟨[.ref it],[]⟩) Q E s:=by
 obtain⟨ob,h1,h2,h3⟩:=st;have hT:s.TypeIs (.ref it) "dict_keyiterator":=⟨ob,h1,h2⟩;unfold cC.«dict_keyiterator.__next__»;refine ae ?_;refine ai ?_;refine ae ?_;refine ae ?_;refine ae (dJ hT ?_);refine ai ?_;refine ae (gW h1 h3 ?_);show wpAny _ _ (if(Value.ref d==Value.none)=true then _ else _) _ _ _;rw[if_neg (show ¬(Value.ref d==Value.none)=true from λz=>nomatch z)];refine ae ?_;refine ai ?_;refine ae (cg hd hdd ?_);rw[if_neg (by simp)];refine ae ?_;refine ai ?_;refine ae (bJ hd hdd ?_);rw[if_neg (by simp)];refine ai ?_;have ei:(if(i:Int)<0 then none else es[((i:Int)).toNat]?)=some e:=by rw[if_neg (by omega),Int.toNat_natCast];exact he
 show wpAny _ _ (match (if(i:Int)<0 then none else es[((i:Int)).toNat]?)with|some e=>_|none=>_) _ _ _
 rw[ei];refine ae ?_;refine ae (dJ hT ?_);refine ai ?_;refine ae (wpAny_isOneOf_keyiter hT ?_);refine ae (bz h1 h3 (show 0+1<4 by decide) ?_);have g:=Heap.get?_update_self (Obj.mapFields λx=>x.setIfInBounds 1 (bC ((i:Int)+1))) h1 (Obj.isFreed_of_fields (Obj.data_mapFields h3 _));have sb:Heap.SameBut it s.heap (s.heap.update it (Obj.mapFields λx=>x.setIfInBounds 1 (bC ((i:Int)+1)))):=Heap.SameBut.update ..;have hI:(s.heap.update it (Obj.mapFields λx=>x.setIfInBounds 1 (bC ((i:Int)+1)))).IsKeyIter it d (i+1) es.size ep:=by exact⟨_,g,(Obj.cls_mapFields ..).trans h2,by rw[Obj.data_mapFields h3];simp[bC]⟩
 have hT':Shared.TypeIs {s with heap:=s.heap.update it (Obj.mapFields λx=>x.setIfInBounds 1 (bC ((i:Int)+1)))} (.ref it) "dict_keyiterator":=by obtain⟨ob',q1,q2,_⟩:=hI;exact⟨ob',q1,q2⟩
 refine ae (aW ?_);refine ae (wpAny_isOneOf_keyiter hT' ?_);exact ai (ai (hQ _ hI sb))
theorem Wn{it d:Addr}{o:Obj}{es:Array DictEntry}{i ep:Nat}{Q:Fin->ah->Prop}(hh:A.handled=none)(st:s.heap.IsKeyIter it d i es.size ep)(hd:s.heap.get? d=some o)(hdd:o.data=.dict es ep)(he:es[i]?=none)(hE:∀h' e,(∀c q,c≠it->s.heap.get? c=some q->h'.get? c=some q)->(∃o,h'.get? e=some o/\o.cls=.type "StopIteration")->E (.ref e) {s with heap:=h'}):wpAny (model prog w) A (cC.«dict_keyiterator.__next__» ⟨[.ref it],[]⟩) Q E s:=by
 obtain⟨ob,h1,h2,h3⟩:=st;have hT:s.TypeIs (.ref it) "dict_keyiterator":=⟨ob,h1,h2⟩;unfold cC.«dict_keyiterator.__next__»;refine ae ?_;refine ai ?_;refine ae ?_;refine ae ?_;refine ae (dJ hT ?_);refine ai ?_;refine ae (gW h1 h3 ?_);show wpAny _ _ (if(Value.ref d==Value.none)=true then _ else _) _ _ _;rw[if_neg (show ¬(Value.ref d==Value.none)=true from λz=>nomatch z)];refine ae ?_;refine ai ?_;refine ae (cg hd hdd ?_);rw[if_neg (by simp)];refine ae ?_;refine ai ?_;refine ae (bJ hd hdd ?_);rw[if_neg (by simp)];refine ai ?_;have ei:(if(i:Int)<0 then none else es[((i:Int)).toNat]?)=none:=by rw[if_neg (by omega),Int.toNat_natCast];exact he
 show wpAny _ _ (match (if(i:Int)<0 then none else es[((i:Int)).toNat]?)with|some e=>_|none=>_) _ _ _
 rw[ei];refine ae ?_;refine ae (dJ hT ?_);refine ai ?_;refine ae (bz h1 h3 (show 0<4 by decide) ?_);show wpAny (model prog w) _ (newExc (.type "StopIteration") [] >>= _) _ _ _;refine ae ?_;simp only[newTuple,newExc];refine ae (bt (ae (m:=et _ _) (wpAny_of_eq (a:=Value.none) (by first|rfl|(simp only[et];rfl)) (bt ?_ (by size_fits)))) (by size_fits))
 simp only[raiseNew];refine ae (wpAny_handled ?_);rw[hh];refine ae (ai (wpAny_throw ?_));exact hE _ _ (((Heap.SameBut.update ..).extBut.push _).push _) ⟨_,Heap.get?_push_size _ rfl,rfl⟩
def RawD(h:Heap)(d:Addr)(es:Array DictEntry)(ep:Nat):Prop:=∃o,h.get? d=some o/\o.ExactDict/\o.data=.dict es ep
theorem walks_raw(hh:A.handled=none)(I d:Addr)(hne:d≠I)(es:Array DictEntry)(ep:Nat):
  Walks prog w A I [I,d] [I] es.size (λi v=>∃e,es[i]?=some e/\v=e.key) (λi h=>h.IsKeyIter I d i es.size ep/\RawD h d es ep) where
 sub:=λb hb=>by simp at hb;simp[hb]
 frame:=λi h h' st k=>by
  obtain⟨⟨o,ho,r⟩,o2,ho2,r2⟩:=st
  exact⟨⟨o,k I (by simp) o ho,r⟩,o2,k d (by simp) o2 ho2,r2⟩
 item:=λi s Q E hi st hQ=>by
  obtain⟨it,o,ho,ex,hd⟩:=st
  have hT:s.TypeIs (.ref I) "dict_keyiterator":=by obtain⟨ob,q1,q2,_⟩:=it;exact⟨ob,q1,q2⟩
  unfold fq
  refine ae (dN (br (name:=Str.ofString "__next__") hT F.slot_dict_keyiterator_next (bB F.slot_dict_keyiterator_next hT F.entry_dict_keyiterator_next ?_ (F.args_dict_keyiterator_next_1 _))))
  refine RF it ho hd (e:=es[i]) (by simp[hi]) λh' it' sb=>⟨_,rfl,ai ?_⟩
  exact hQ _ h' s.toks ⟨es[i],by simp[hi],rfl⟩ ⟨it',o,(sb.2 d hne).trans ho,ex,hd⟩ λb q hb e=>(sb.2 b (by simpa using hb)).trans e
 done:=λs Q E st hQ=>by
  obtain⟨it,o,ho,ex,hd⟩:=st
  have hT:s.TypeIs (.ref I) "dict_keyiterator":=by obtain⟨ob,q1,q2,_⟩:=it;exact⟨ob,q1,q2⟩
  unfold fq
  refine ae (dN (br (name:=Str.ofString "__next__") hT F.slot_dict_keyiterator_next (bB F.slot_dict_keyiterator_next hT F.entry_dict_keyiterator_next ?_ (F.args_dict_keyiterator_next_1 _))))
  refine Wn hh it ho hd (by simp) λh' e hk he=>?_
  obtain⟨o',ho',hc'⟩:=he
  refine ae (wpAny_isInstance (T:="StopIteration") (b:=true) ⟨o',ho',hc'⟩ isSubtype_stop ?_)
  exact ai (hQ h' s.toks λb q hb e=>hk b q (by simpa using hb) e)
 self:=λi s Q E st h=>wpAny_pyIter_keyiter st.1 h
theorem iter_raw{d:Addr}{es:Array DictEntry}{ep:Nat}{Q:Value->ah->Prop}(hs:(d==sysModules)=false)(h:RawD s.heap d es ep)(hQ:Q (.ref s.heap.objs.size) {s with heap:=s.heap.push {cls:=.type "dict_keyiterator",data:=.fields #[.ref d,.int 0 0,.int es.size 0,.int ep 0]}}):wpAny (model prog w) A (pyIter (.ref d)) Q E s:=by obtain⟨o,ho,ex,hd⟩:=h;have hT:s.TypeIs (.ref d) "dict":=⟨o,ho,ex.1⟩;refine wpAny_pyIter_slot hT F.slot_dict_iter (bB F.slot_dict_iter hT F.entry_dict_iter ?_ (F.args_dict_iter_1 _));unfold cC.«dict.__iter__»;refine ae ?_;unfold Builtin.Dict.dictSlotNone;refine ae (gM hT ?_);refine ai ?_;refine ae ?_;refine ai ?_;refine ae ?_;unfold iw;rw[if_neg (by rw[hs];exact Bool.false_ne_true)];refine ai ?_;refine ae (cg ho hd ?_);refine ae (bJ ho hd ?_);unfold newFields;refine ae (bt ?_ (by size_fits));refine ai ⟨_,rfl,"dict_keyiterator",_,⟨_,Heap.get?_push_size _ rfl,rfl⟩,F.slot_dict_keyiterator_next.lookup,?_⟩;exact hQ
theorem Dr{d:Addr}{es:Array DictEntry}{ep:Nat}(hs:(d==sysModules)=false):PySem.W.KdlSrc prog w "dict" d d es.size (λi v=>∃e,es[i]?=some e/\v=e.key) (λh=>RawD h d es ep) where
 type:=λs h=>by obtain⟨o,ho,ex,_⟩:=h;exact⟨o,ho,ex.1⟩
 there:=λh r=>by obtain⟨o,ho,_⟩:=r;exact⟨Heap.lt_size ho,Heap.lt_size ho⟩
 keep:=λh h' r k=>by obtain⟨o,ho,e⟩:=r;exact⟨o,k d (.inl rfl) o ho,e⟩
 notList:=by decide
 notTuple:=by decide
 hint:=λA E s Q h q=>PySem.W.kdl_hint_dict (by obtain⟨o,ho,ex,_⟩:=h;exact⟨o,ho,ex.1⟩) q
 iter:=λA s hh h=>by
  have ho:=h
  refine⟨_,_,λE Q q=>iter_raw hs h q,walks_raw hh s.heap.objs.size d (by obtain⟨o,ho,_⟩:=ho;exact Nat.ne_of_lt (Heap.lt_size ho)) es ep,⟨_,Heap.get?_push_size _ rfl,rfl,rfl⟩,?_⟩
  obtain⟨o,ho,e⟩:=ho
  exact⟨o,Heap.get?_push_of_some _ ho,e⟩
end
theorem Nh:∀as:List Addr,Vals (as.map V.ref) (as.map Value.ref)
|[]=>.nil
|a::as=>.cons rfl (Nh as)
theorem YG{α β:Type}{R:α->β->Prop}:∀{a:List α}{c:List β},cz R a c->∀{i:Nat}{x:α}{y:β},a[i]?=some x->c[i]?=some y->R x y
|_,_,.nil,_,_,_,h,_=>by cases h
|_,_,.cons h t,0,_,_,e1,e2=>by cases e1;cases e2;exact h
|_,_,.cons h t,i+1,_,_,e1,e2=>YG t (by simpa using e1) (by simpa using e2)
section
variable {X:Cx}
theorem UU(hc:X.calm=true):Y1 X (.type "list") (λxs H Q=>∃(p:Addr)(kvs:List (List Key×V)),xs=[.ref p]/\H p=some (.dT kvs)/\∀(l:Addr)(bs:List Addr),H l=none->bs.length=kvs.length->(∀(i:Nat)b kv,bs[i]?=some b->kvs[i]?=some kv->H b=some (.tup (kv.1.map kV)))->Q (.ref l) (upd H l (.lst (bs.map V.ref)))):=by
 intro pins s σ H xs us Q I r h;obtain⟨p,kvs,rfl,e,q⟩:=h;obtain⟨u,rfl,rx⟩:=vals1 r;cases rx;obtain⟨z,hd,xs',rel,o,es,ep,h1,h2,h3,h4,h5,h6⟩:=LD I.hok e;have hlen:=bq rel;have hsz:es.size=xs'.length:=by rw[<-dg,h4,lm]
 refine PySem.W.kdl_call (Dr hd) (I.ok.hd hc) ⟨o,h1,h2,h3⟩ (by rw[hsz,<-hlen];exact z) λh' tk acc' c' kp hl it=>?_;have ea:acc'.toList=(xs'.map λx=>Value.ref x.2.1):=by
  refine List.ext_getElem? λi=>?_;by_cases hi:i<es.size
  ·have hi':i<acc'.size:=by rw[it.1];exact hi
   obtain⟨en,he,hv⟩:=it.2 i acc'[i] (by simp[hi']);rw[d_,bI hi',hv];have:es.toList[i]?=some en:=by rw[d_];exact he
   rw[h4,aD]at this;obtain⟨x,hx,rfl⟩:=a_.mp this;rw[aD,hx];rfl
  ·rw[dI (by rw[dg,it.1];omega),dI (by rw[lm];omega)]
 refine⟨.ref s.heap.objs.size,_,I.laid (a:=s.heap.objs.size) (o:=.lst ((xs'.map λx=>x.2.1).map V.ref)) (t':=tk) kp (Nat.le_refl _) ?_,rfl,q _ (xs'.map λx=>x.2.1) (I.hok.fresh (Nat.le_refl _)) (by rw[lm];exact hlen.symm) λi b kv hb hk=>?_⟩
 ·refine⟨by rw[lm,lm,<-hlen];exact z,acc'.toList,c',?_,by simpa using hl⟩;rw[ea,show(xs'.map λx=>Value.ref x.2.1)=(xs'.map λx=>x.2.1).map Value.ref from(dB).symm];exact Nh _
 ·rw[aD]at hb;obtain⟨x,hx,rfl⟩:=a_.mp hb;exact(YG rel hk hx).2.1
end
section
variable {prog:Program}{w:World}{A:aL}{E:Value->ah->Prop}{s:ah}
noncomputable def itF(a b c d e f g k:Value):Obj:={cls:=.type "dict_itemiterator",data:=.fields #[a,b,c,d,e,f,g,k]}
theorem QG{it d:Addr}{o:Obj}{es:Array DictEntry}{i ep:Nat}{e:DictEntry}{ok ov:Value}{Q:Fin->ah->Prop}(st:IsItemIter s.heap it d i es.size ep ok ov)(hd:s.heap.get? d=some o)(hdd:o.data=.dict es ep)(he:es[i]?=some e)(hQ:∀h',IsItemIterOut h' it d (i+1) es.size ep e.key e.val s.heap.objs.size->h'.get? s.heap.objs.size=some {cls:=.type "tuple",data:=.seq #[e.key,e.val]}->(∀b q,b≠it->s.heap.get? b=some q->h'.get? b=some q) ->Q (.done (.ret (.ref s.heap.objs.size))) {s with heap:=h'}):wpAny (model prog w) A (cC.«dict_itemiterator.__next__» ⟨[.ref it],[]⟩) Q E s:=by
 have h1:s.heap.get? it=some (itF .none (.bool false) (.ref d) (.int i 0) (.int es.size 0) (.int ep 0) ok ov):=st;have hT:s.TypeIs (.ref it) "dict_itemiterator":=⟨_,h1,rfl⟩;have set_at:∀{h:Heap}{a b c d e f g k:Value}{j:Nat}{x:Value},h.get? it=some (itF a b c d e f g k)->(h.update it (Obj.mapFields λy=>y.setIfInBounds j x)).get? it=some {cls:=.type "dict_itemiterator",data:=.fields (#[a,b,c,d,e,f,g,k].setIfInBounds j x)}:=λh=>Heap.get?_update_self _ h (by rfl);unfold cC.«dict_itemiterator.__next__»;refine ae ?_;refine ai ?_;refine ae ?_;refine ae ?_;refine ae (dG hT ?_);refine ai ?_;refine ae (gW h1 rfl ?_);show wpAny _ _ (if(Value.ref d==Value.none)=true then _ else _) _ _ _;rw[if_neg (show ¬(Value.ref d==Value.none)=true from λz=>nomatch z)];refine ae ?_;refine ai ?_;refine ae (cg hd hdd ?_);rw[if_neg (by simp)];refine ae ?_;refine ai ?_;refine ae (bJ hd hdd ?_);rw[if_neg (by simp)];refine ai ?_;have ei:(if(i:Int)<0 then none else es[((i:Int)).toNat]?)=some e:=by rw[if_neg (by omega),Int.toNat_natCast];exact he
 show wpAny _ _ (match (if(i:Int)<0 then none else es[((i:Int)).toNat]?)with|some e=>_|none=>_) _ _ _
 rw[ei];refine ae ?_;refine ae (dG hT ?_);refine ai ?_;refine ae (gA hT ?_);refine ae (bz h1 rfl (show 2+1<8 by decide) ?_);have g1:(s.heap.update it (Obj.mapFields λx=>x.setIfInBounds 3 (bC ((i:Int)+1)))).get? it=some (itF .none (.bool false) (.ref d) (bC ((i:Int)+1)) (.int es.size 0) (.int ep 0) ok ov):=set_at h1;have sb1:Heap.SameBut it s.heap (s.heap.update it (Obj.mapFields λx=>x.setIfInBounds 3 (bC ((i:Int)+1)))):=Heap.SameBut.update ..;have z1:(s.heap.update it (Obj.mapFields λx=>x.setIfInBounds 3 (bC ((i:Int)+1)))).objs.size=s.heap.objs.size:=sb1.1;show wpAny _ _ (eS _ _ >>= _) _ _ {s with heap:=s.heap.update it (Obj.mapFields λx=>x.setIfInBounds 3 (bC ((i:Int)+1)))};generalize s.heap.update it (Obj.mapFields λx=>x.setIfInBounds 3 (bC ((i:Int)+1)))=H1 at g1 sb1 z1 ⊢;have hT1:Shared.TypeIs {s with heap:=H1} (.ref it) "dict_itemiterator":=⟨_,g1,rfl⟩;refine ae (aW ?_);refine ae (gA hT1 ?_);refine ae (gA hT1 ?_);show wpAny _ _ (fK (.ref it) 6 e.key e.val) _ _ _;unfold fK;unfold newTuple;refine ae (bt ?_ (by size_fits));have np:it≠H1.objs.size:=Nat.ne_of_lt (Heap.lt_size g1);have g2:(H1.push {cls:=.type "tuple",data:=.seq #[e.key,e.val]}).get? it=some (itF .none (.bool false) (.ref d) (bC ((i:Int)+1)) (.int es.size 0) (.int ep 0) ok ov):=Heap.get?_push_of_some _ g1;have t2:(H1.push {cls:=.type "tuple",data:=.seq #[e.key,e.val]}).get? H1.objs.size=some {cls:=.type "tuple",data:=.seq #[e.key,e.val]}:=Heap.get?_push_size _ rfl;have k2:∀b q,b≠it->s.heap.get? b=some q->(H1.push {cls:=.type "tuple",data:=.seq #[e.key,e.val]}).get? b=some q:=λb q hb z=>Heap.get?_push_of_some _ ((sb1.2 b hb).trans z);rw[z1]at t2 np;show wpAny _ _ (_ >>= _) _ _ {s with heap:=H1.push {cls:=.type "tuple",data:=.seq #[e.key,e.val]}};generalize hz:H1.push {cls:=.type "tuple",data:=.seq #[e.key,e.val]}=H2 at g2 t2 k2 ⊢;refine ae (m:=Builtin.Dict_items.ownedTupleIsFree (.ref it)) (ae (bc g2 rfl rfl (ai ?_)));simp only[if_true];show wpAny _ _ (field (.ref it) 6 >>= _) _ _ _;refine ae (bc g2 rfl rfl (ae (bc g2 rfl rfl ?_)));have step:∀{h:Heap}{j:Nat}{x:Value},h.get? s.heap.objs.size=some {cls:=.type "tuple",data:=.seq #[e.key,e.val]}->(∀b q,b≠it->s.heap.get? b=some q->h.get? b=some q) ->(h.update it (Obj.mapFields λy=>y.setIfInBounds j x)).get? s.heap.objs.size=some {cls:=.type "tuple",data:=.seq #[e.key,e.val]}/\∀b q,b≠it->s.heap.get? b=some q->(h.update it (Obj.mapFields λy=>y.setIfInBounds j x)).get? b=some q:=λht hk=>by have sb:=λ(h:Heap)(g:Obj->Obj)=>(Heap.SameBut.update (h:=h) (a:=it) (f:=g));exact⟨((sb _ _).2 _ (bw np)).trans ht,λb q hb z=>((sb _ _).2 b hb).trans (hk b q hb z)⟩
 refine ae (bz g2 rfl (show 6<8 by decide) ?_);have g3:(H2.update it (Obj.mapFields λx=>x.setIfInBounds 6 e.key)).get? it=some (itF .none (.bool false) (.ref d) (bC ((i:Int)+1)) (.int es.size 0) (.int ep 0) e.key ov):=set_at g2;obtain⟨t3,k3⟩:=step (j:=6) (x:=e.key) t2 k2;show wpAny _ _ (_ >>= _) _ _ {s with heap:=H2.update it (Obj.mapFields λx=>x.setIfInBounds 6 e.key)};generalize H2.update it (Obj.mapFields λx=>x.setIfInBounds 6 e.key)=H3 at g3 t3 k3 ⊢;refine ae (bz g3 rfl (show 7<8 by decide) ?_);have g4:(H3.update it (Obj.mapFields λx=>x.setIfInBounds 7 e.val)).get? it=some (itF .none (.bool false) (.ref d) (bC ((i:Int)+1)) (.int es.size 0) (.int ep 0) e.key e.val):=set_at g3;obtain⟨t4,k4⟩:=step (j:=7) (x:=e.val) t3 k3;show wpAny _ _ (_ >>= _) _ _ {s with heap:=H3.update it (Obj.mapFields λx=>x.setIfInBounds 7 e.val)};generalize H3.update it (Obj.mapFields λx=>x.setIfInBounds 7 e.val)=H4 at g4 t4 k4 ⊢;rw[z1];refine ae (bz g4 rfl (show 0<8 by decide) ?_);have g5:(H4.update it (Obj.mapFields λx=>x.setIfInBounds 0 (bC (s.heap.objs.size:Nat)))).get? it=some (itF (bC (s.heap.objs.size:Nat)) (.bool false) (.ref d) (bC ((i:Int)+1)) (.int es.size 0) (.int ep 0) e.key e.val):=set_at g4;obtain⟨t5,k5⟩:=step (j:=0) (x:=bC (s.heap.objs.size:Nat)) t4 k4;show wpAny _ _ (_ >>= _) _ _ {s with heap:=H4.update it (Obj.mapFields λx=>x.setIfInBounds 0 (bC (s.heap.objs.size:Nat)))};generalize H4.update it (Obj.mapFields λx=>x.setIfInBounds 0 (bC (s.heap.objs.size:Nat)))=H5 at g5 t5 k5 ⊢;refine ae (bz g5 rfl (show 1<8 by decide) ?_);have g6:(H5.update it (Obj.mapFields λx=>x.setIfInBounds 1 (.bool false))).get? it=some (itF (bC (s.heap.objs.size:Nat)) (.bool false) (.ref d) (bC ((i:Int)+1)) (.int es.size 0) (.int ep 0) e.key e.val):=set_at g5;obtain⟨t6,k6⟩:=step (j:=1) (x:=.bool false) t5 k5;show wpAny _ _ (_ >>= _) _ _ {s with heap:=H5.update it (Obj.mapFields λx=>x.setIfInBounds 1 (.bool false))};generalize H5.update it (Obj.mapFields λx=>x.setIfInBounds 1 (.bool false))=H6 at g6 t6 k6 ⊢;refine ae (wpAny_letGo ?_);exact ai (ai (hQ H6 g6 t6 k6))
theorem RH{it d:Addr}{o:Obj}{es:Array DictEntry}{i ep:Nat}{ok ov:Value}{Q:Fin->ah->Prop}(hh:A.handled=none)(st:IsItemIter s.heap it d i es.size ep ok ov)(hd:s.heap.get? d=some o)(hdd:o.data=.dict es ep)(he:es[i]?=none)(hE:∀h' e,(∀c q,c≠it->s.heap.get? c=some q->h'.get? c=some q)->(∃o,h'.get? e=some o/\o.cls=.type "StopIteration")->E (.ref e) {s with heap:=h'}):wpAny (model prog w) A (cC.«dict_itemiterator.__next__» ⟨[.ref it],[]⟩) Q E s:=by
 have h1:s.heap.get? it=some (itF .none (.bool false) (.ref d) (.int i 0) (.int es.size 0) (.int ep 0) ok ov):=st;have hT:s.TypeIs (.ref it) "dict_itemiterator":=⟨_,h1,rfl⟩;unfold cC.«dict_itemiterator.__next__»;refine ae ?_;refine ai ?_;refine ae ?_;refine ae ?_;refine ae (dG hT ?_);refine ai ?_;refine ae (gW h1 rfl ?_);show wpAny _ _ (if(Value.ref d==Value.none)=true then _ else _) _ _ _;rw[if_neg (show ¬(Value.ref d==Value.none)=true from λz=>nomatch z)];refine ae ?_;refine ai ?_;refine ae (cg hd hdd ?_);rw[if_neg (by simp)];refine ae ?_;refine ai ?_;refine ae (bJ hd hdd ?_);rw[if_neg (by simp)];refine ai ?_;have ei:(if(i:Int)<0 then none else es[((i:Int)).toNat]?)=none:=by rw[if_neg (by omega),Int.toNat_natCast];exact he
 show wpAny _ _ (match (if(i:Int)<0 then none else es[((i:Int)).toNat]?)with|some e=>_|none=>_) _ _ _
 rw[ei];refine ae ?_;refine ae (dG hT ?_);refine ai ?_;refine ae (bz h1 rfl (show 2<8 by decide) ?_);show wpAny (model prog w) _ (newExc (.type "StopIteration") [] >>= _) _ _ _;refine ae ?_;simp only[newTuple,newExc];refine ae (bt (ae (m:=et _ _) (wpAny_of_eq (a:=Value.none) (by first|rfl|(simp only[et];rfl)) (bt ?_ (by size_fits)))) (by size_fits))
 simp only[raiseNew];refine ae (wpAny_handled ?_);rw[hh];refine ae (ai (wpAny_throw ?_));exact hE _ _ (((Heap.SameBut.update ..).extBut.push _).push _) ⟨_,Heap.get?_push_size _ rfl,rfl⟩
theorem FI{P:Program}{w:World}{es:Array DictEntry}{xs:List (List Key×Addr×Value)}(h:es.toList=xs.map (entryOfKey (cY (Zy P w)))){i:Nat}{x:List Key×Addr×Value}(hx:xs[i]?=some x):∃e,es[i]?=some e/\e.key=.ref x.2.1/\e.val=x.2.2:=by refine⟨entryOfKey (cY (Zy P w)) x,?_,rfl,rfl⟩;rw[<-d_,h,aD,hx];rfl
noncomputable def Iti(a:Addr)(o:Obj)(kvs:List (List Key×V)):It:=⟨λi H=>i<kvs.length/\H a=some (.frz o (.dT kvs)),λi H x H'=>∃(T b:Addr)(kv:List Key×V),H T=none/\kvs[i]?=some kv/\H b=some (.tup (kv.1.map kV))/\x=.ref T/\H'=upd H T (.tup [.ref b,kv.2]),λi H=>i=kvs.length/\H a=some (.frz o (.dT kvs))⟩
theorem Q9{P:Program}{w:World}{K:af}{es':List Expr}{k:Nat}{pt:Pos}{a it:Addr}{o:Obj}{kvs:List (List Key×V)}{es:Array DictEntry}{ep:Nat}(hdd:o.data=.dict es ep)(hsz:es.size=kvs.length):
  Turn P w K (.Tuple es' k pt) (Iti a o kvs) [it] it (λi h=>∃ok ov,IsItemIter h it a i es.size ep ok ov) where
 mem:=by simp
 obj:=λi h st b hb=>by
  have e:b=it:=by simpa using hb
  subst e
  obtain⟨ok,ov,e⟩:=st
  exact⟨_,e,λv z=>by cases z⟩
 keep:=λi h h' st k=>by
  obtain⟨ok,ov,e⟩:=st
  exact⟨ok,ov,k it (by simp) _ e⟩
 item:=by
  intro X hP hw hK hc i pins s σ H E I hf st hg
  subst hP hw hK
  obtain⟨hi,hq⟩:=hg
  obtain⟨ok,ov,st⟩:=st
  obtain⟨ho,z,hd,xs,rel,o',es2,ep2,h1,h2,h3,h4,h5⟩:=I.hok a _ hq
  rw[ho]at h1
  cases h1
  rw[hdd]at h3
  cases h3
  have hl:=bq rel
  have hi':i<xs.length:=by omega
  obtain⟨e,he,ek,ev⟩:=FI h4 (gE hi')
  have hkv:=gE hi
  obtain⟨r1,r2,r3⟩:=YG rel hkv (gE hi')
  have hT:s.TypeIs (.ref it) "dict_itemiterator":=⟨_,st,rfl⟩
  unfold fq
  refine ae (dN (br (name:=Str.ofString "__next__") hT F.slot_dict_itemiterator_next (bB F.slot_dict_itemiterator_next hT F.entry_dict_itemiterator_next ?_ (F.args_dict_itemiterator_next_1 _))))
  refine QG st ho hdd he λh' st' t' kk=>⟨_,rfl,ai ?_⟩
  generalize hTT:s.heap.objs.size=T at st' t'
  have hTs:s.heap.objs.size<=T:=Nat.le_of_eq hTT
  refine⟨_,rfl,?_⟩
  refine wpAny_letOwnedTupleGo_items (s:={s with heap:=h'}) st' λh2 st2 s2=>?_
  have hTn:H T=none:=I.hok.fresh hTs
  have hap:T≠it:=by rw[<-hTT];exact Nat.ne_of_gt (Heap.lt_size st)
  have hb2:∀c,c≠it->∀o,s.heap.get? c=some o->h2.get? c=some o:=λc hcn o q=>(s2.2 c hcn).trans (kk c o hcn q)
  have nb:∀c u,H c=some u->c≠it:=λc u q hcn=>by rw[hcn,(hf it (by simp)).1]at q;cases q
  have I1:Inv X pins σ (upd H T (.tup [.ref xs[i].2.1,kvs[i].2])) {s with heap:=h2,toks:=s.toks}:=by
   refine I.step (g':=s.gens) (d':=s.drawn) (ch:=[it]) (λc hcn=>?_) (λc o _ _ hcn q _=>hb2 c (by simpa using hcn) o q) (λc o _ _ hcn q _=>⟨o.slots,hb2 c (by simpa using hcn) o q⟩)
    (λc o hcn q n=>?_) (λc o hcn q=>⟨o,hb2 c (by simpa using hcn) o q⟩) (λc xs q=>?_) (λc o u q=>?_) (λc ps q=>?_) (λm hm=>?_) ?_ I.bare
   ·obtain⟨g0,g1,g2,g3,g4,g5⟩:=hf c hcn
    exact⟨g3,g1,g4,g5⟩
   ·rw[Zg (Nat.ne_of_lt (Nat.lt_of_lt_of_le (Heap.lt_size q) hTs))];exact n
   ·rw[Zg (Zf q hTn)];exact q
   ·rw[Zg (Zf q hTn)];exact q
   ·exact⟨#[],by rw[Zg (Zf q hTn),q];simp⟩
   ·obtain⟨o,es',ep,ho,r⟩:=hm
    refine⟨o,es',ep,hb2 _ ?_ o ho,r⟩
    intro hcn
    obtain⟨g0,g1,_⟩:=hf it (by simp)
    exact g1 hcn.symm
   ·intro c ob q
    by_cases hcT:c=T
    ·subst hcT
     rw[Zb]at q
     cases q
     refine⟨zl,[e.key,e.val],.cons (by rw[ek];rfl) (.cons (by rw[ev];exact r3) .nil),⟨_,(s2.2 _ hap).trans t',rfl,_,rfl⟩⟩
    ·rw[Zg hcT]at q
     refine(I.hok c ob q).stay (λc' v hc' q'=>hb2 c' ?_ v q') (λc' q'=>by rw[Zg (Zf q' hTn)];exact q') λc' xs q'=>by rw[Zg (Zf q' hTn)];exact q'
     rcases hc' with rfl|hc'
     ·exact nb _ _ q
     ·exact nb _ _ hc'
  refine⟨.ref T,_,I1,rfl,⟨T,xs[i].2.1,kvs[i],hTn,hkv,r2,rfl,rfl⟩,⟨_,_,st2⟩,λc hcn=>?_⟩
  have e':c=it:=by simpa using hcn
  rw[e',Zg hap.symm]
  exact(hf it (by simp)).1
 done:=by
  intro X hP hw hK hc i pins s σ H E I hf st hg
  subst hP hw hK
  obtain⟨hi,hq⟩:=hg
  obtain⟨ok,ov,st⟩:=st
  have ho:=(I.hok a _ hq).1
  obtain⟨f0,f1,f2,f3,f4,f5⟩:=hf it (by simp)
  have hT:s.TypeIs (.ref it) "dict_itemiterator":=⟨_,st,rfl⟩
  unfold fq
  refine ae (dN (br (name:=Str.ofString "__next__") hT F.slot_dict_itemiterator_next (bB F.slot_dict_itemiterator_next hT F.entry_dict_itemiterator_next ?_ (F.args_dict_itemiterator_next_1 _))))
  refine RH (I.ok.hd hc) st ho hdd (by simp;omega) λh' e hk he=>?_
  obtain⟨o',ho',hc'⟩:=he
  refine ae (wpAny_isInstance (T:="StopIteration") (b:=true) ⟨o',ho',hc'⟩ isSubtype_stop ?_)
  exact ai ⟨rfl,I.turned (t':=s.toks) hk f0 f1 f3 f4 f5⟩
 self:=λ_ _ _ _ _ st h=>by
  obtain⟨ok,ov,st⟩:=st
  exact PySem.W.kcp_self st h
noncomputable def GI(d:Addr):Obj:={cls:=.type "dict_items",data:=.fields #[.ref d]}
theorem Lh{d:Addr}(hs:(d==sysModules)=false):MeetsIn prog w (cC.«dict.items» ⟨[.ref d],[]⟩) (λA R s=>(∃es ep,RawD s.heap d es ep)/\R (.ok (.ret (.ref s.heap.objs.size))) {s with heap:=s.heap.push (GI d)}):=.of_wp λA R s hZ=>by obtain⟨⟨es,ep,o,ho,ex,hd⟩,h⟩:=hZ;have hT:s.TypeIs (.ref d) "dict":=⟨o,ho,ex.1⟩;unfold cC.«dict.items»;refine ae ?_;unfold Builtin.Dict.noArgs;refine ae (gM hT ?_);refine ae ?_;refine ai ?_;refine ae ?_;refine ai ?_;refine ai ?_;refine ae ?_;unfold iw;rw[if_neg (by rw[hs];exact Bool.false_ne_true)];refine ai ?_;unfold newFields;refine ae (bt ?_ (by size_fits));exact ai ⟨_,rfl,h⟩
theorem Wr{v d:Addr}{es:Array DictEntry}{ep:Nat}{Q:Value->ah->Prop}(hv:s.heap.get? v=some (GI d))(h:RawD s.heap d es ep)(hQ:Q (.ref s.heap.objs.size) {s with heap:=s.heap.push (itF .none (.bool false) (.ref d) (.int 0 0) (.int es.size 0) (.int ep 0) .none .none)}):wpAny (model prog w) A (pyIter (.ref v)) Q E s:=by obtain⟨o,ho,ex,hd⟩:=h;have hT:s.TypeIs (.ref v) "dict_items":=⟨_,hv,rfl⟩;refine wpAny_pyIter_slot hT F.slot_dict_items_iter (bB F.slot_dict_items_iter hT F.entry_dict_items_iter ?_ (F.args_dict_items_iter_1 _));unfold cC.«dict_items.__iter__»;refine ae ?_;refine ai ?_;refine ae ?_;unfold Builtin.Dict_items.dictOf;refine ae (bc hv rfl rfl ?_);refine ai ?_;refine ae ?_;unfold Builtin.Dict_items.newIterator;refine ae (cg ho hd ?_);refine ae (bJ ho hd ?_);unfold newFields;refine bt ?_ (by show 8<=_;decide);refine ai ⟨_,rfl,"dict_itemiterator",_,⟨_,Heap.get?_push_size _ rfl,rfl⟩,F.slot_dict_itemiterator_next.lookup,?_⟩;exact hQ
end
section
variable {X:Cx}{pins:List (Addr×Obj)}{σ:St}{H:Hp}{s:ah}{a:Addr}{o:Obj}{u:HO}
theorem Inv.thaw(I:Inv X pins σ H s)(e:H a=some (.frz o u))(h0:∀o' u',X.H₀ a≠some (.frz o' u')):Inv X pins σ (upd H a u) s:=by
 have ne:∀{c:Addr},H c=none->c≠a:=λh z=>by rw[z,e]at h;cases h
 have nt:∀{c:Addr}{xs:List V},H c=some (.tup xs)->c≠a:=λh z=>by rw[z,e]at h;cases h
 have nw:∀{c y:Addr},H c=some (.own y)->c≠a:=λh z=>by rw[z,e]at h;cases h
 refine⟨I.ok,I.os,I.bare,⟨I.base.keep,I.base.slot,λb ob q n hx=>?_,I.base.there,λb xs q=>?_,λb ob v q=>?_,λb ps q=>?_⟩,I.loc,I.cell,?_,λx c q=>?_,λp hp=>?_,λb v q=>?_,I.len⟩
 ·have:=I.base.free b ob q n hx;rw[Zg (ne this)];exact this
 ·have z:=I.base.tups b xs q;rw[Zg (nt z)];exact z
 ·rw[Zg (λz=>h0 _ _ (z▸q))];exact I.base.frzs b ob v q
 ·obtain⟨m,hm⟩:=I.base.tbls b ps q;exact⟨m,by rw[Zg (λz=>by rw[z,e]at hm;cases hm)];exact hm⟩
 ·rw[Zg (ne I.free)];exact I.free
 ·rw[Zg (ne (I.freeC x c q))];exact I.freeC x c q
 ·obtain⟨p1,p2,p3⟩:=I.pin p hp;exact⟨p1,by rw[Zg (ne p2)];exact p2,p3⟩
 ·by_cases hb:b=a
  ·subst hb;rw[Zb]at q;cases q;exact(I.hok b _ e).2.stay (λ_ _ _ z=>z) (λc z=>by rw[Zg (nw z)];exact z) λc xs z=>by rw[Zg (nt z)];exact z
  ·rw[Zg hb]at q;exact(I.hok b v q).stay (λ_ _ _ z=>z) (λc z=>by rw[Zg (nw z)];exact z) λc xs z=>by rw[Zg (nt z)];exact z
def HF(H0:Hp)(t:TS):TS:=λD σ H=>t {D with nx:=λσ' H'=>∃a o u,H' a=some (.frz o u)/\(∀o' u',H0 a≠some (.frz o' u'))/\D.nx σ' (upd H' a u)} σ H
theorem SY{st:Stmt}{t:TS}(h:PS X st t):PS X st (HF X.H₀ t):=by
 intro pins s σ H D I q;refine cM (h pins s σ H _ I q) (λr s1 hq=>?_) λ_ _ e=>e;cases r with
|next=>obtain⟨σ',H',I',a,o,u,e1,e0,q'⟩:=hq;exact⟨σ',_,I'.thaw e1 e0,q'⟩
|_=>exact hq
noncomputable def FJ(tl:TE):TI:=λσ H R=>tl σ H λx H1=>∃a kvs,x=.ref a/\H1 a=some (.dT kvs)/\∀o,R (Iti a o kvs) (upd H1 a (.frz o (.dT kvs)))
theorem Ql{o:Expr}{to:TE}{es':List Expr}{k:Nat}{pt apos cpos:Pos}(ho:PE X o to)(hbase:dq o "items" X.env (eval o X.env)=eval o X.env:=by rfl)(hline:(apos.endLine==cpos.line)=true:=by rfl):PI X (.Tuple es' k pt) (.Call (.Attribute o "items" apos) [] [] cpos) (FJ to):=by
 intro pins s σ H R I h;refine wpAny_Call_method0_late hbase hline (thn (ho pins s σ H _ I h) λv s1 hZ=>?_);obtain⟨x,H1,I1,r1,a,kvs,ex,hq,q⟩:=hZ;subst ex;cases r1;obtain⟨z,hd,xs,rel,ob,es,ep,h1,h2,h3,h4,h5,h6⟩:=LD I1.hok hq;have hT:s1.TypeIs (.ref a) "dict":=⟨ob,h1,h2.1⟩;refine⟨"dict",_,PySem.F.plainAttrs_dict,PySem.F.slot_dict_items,PySem.F.type_dict_items,hT,λb e=>by cases e;exact⟨ob,h1,h2.2.1⟩,d7 rfl (PySem.evalArgs_none ?_)⟩;refine call_meetsIn PySem.F.slot_dict_items hT PySem.F.entry_dict_items (PySem.F.args_dict_items_1 _) (Lh hd) ⟨⟨es,ep,ob,h1,h2,h3⟩,?_⟩;have hlen:=bq rel;have hsz:es.size=kvs.length:=by rw[<-dg,h4,lm,hlen]
 have I2:Inv X pins σ (upd H1 a (.frz ob (.dT kvs))) s1:=I1.write (x:=a) (e:=a) (h':=s1.heap) (t':=s1.toks) (o:=.frz ob (.dT kvs)) (by rw[hq];exact bD) (.inl rfl) (λb u _ z=>z) ⟨ob,h1⟩ ⟨h1,?_⟩
 ·refine Wr (s:={s1 with heap:=s1.heap.push (GI a)}) (v:=s1.heap.objs.size) (d:=a) (es:=es) (ep:=ep) (Heap.get?_push_size _ rfl) ⟨ob,Heap.get?_push_of_some _ h1,h2,h3⟩ ?_;have n1:(s1.heap.push (GI a)).objs.size=s1.heap.objs.size+1:=Heap.size_push ..;have hle:s1.heap.objs.size<=(s1.heap.push (GI a)).objs.size:=by rw[n1];exact Nat.le_succ _
  refine⟨(s1.heap.push (GI a)).objs.size,[(s1.heap.push (GI a)).objs.size],_,_,_,rfl,I2.kept (t':=s1.toks) λb o e=>Heap.get?_push_of_some _ (Heap.get?_push_of_some _ e),Q9 h3 hsz,⟨_,_,Heap.get?_push_size _ rfl⟩,λb hb=>?_,q ob⟩;have e:b=(s1.heap.push (GI a)).objs.size:=by simpa using hb
  subst e;exact I2.fpOk hle (I2.hok.fresh hle)
 ·have h0:ZE X.prog X.w H1 s1.heap a (.dT kvs):=I1.hok a _ hq;exact h0.stay (λ_ _ _ z=>z) (λc z=>by rw[Zg (ne_of z hq (λq=>nomatch q))];exact z) λc xs z=>by rw[Zg (ne_of z hq (λq=>nomatch q))];exact z
end
end L2
namespace SX
open PySem L2 PySem.Spec PyProof.Rows TB WD
def Nr(K:af)(f:Str):Sp:=λvs H Q _=>∃(x C dx:Addr)(fs:List (Str×V))(v:V),vs=[.ref x]/\SCl K C/\H x=some (.ins C dx fs)/\fs.lookup f=some v/\Q v H
section
variable {P:Program}{w:World}{K:af}{mg:Str->Option Value}{base:Heap}{C:Addr}
theorem Qe:FnScope ["self"] ["self"] (Ze T.m_Step_key):=scO
theorem UT(D:DfM K C "key" "Step.key" T.m_Step_key ["self"]):CanM P w K mg base CX0 1 C "key" ["self"] (Nr K "its_key"):=by refine D.cn Qe λf cdv A outer s H vs Q E hr h=>?_;obtain⟨x,C,dx,fs,v,rfl,Z,hx,hl,k⟩:=h;refine⟨_,(Zj (Zn (ZI (pv 0) rfl))),?_⟩;exact⟨_,rfl,x,C,dx,fs,_,rfl,hx,Z.cl,nof Z (by decide +kernel),hl,k⟩
theorem Pc:FnScope ["self"] ["self"] (Ze T.m_Step_tail):=scO
theorem Vs(D:DfM K C "tail" "Step.tail" T.m_Step_tail ["self"]):CanM P w K mg base CX0 1 C "tail" ["self"] (Nr K "its_tail"):=by refine D.cn Pc λf cdv A outer s H vs Q E hr h=>?_;obtain⟨x,C,dx,fs,v,rfl,Z,hx,hl,k⟩:=h;refine⟨_,(Zj (Zn (ZI (pv 0) rfl))),?_⟩;exact⟨_,rfl,x,C,dx,fs,_,rfl,hx,Z.cl,nof Z (by decide +kernel),hl,k⟩
theorem Pd:FnScope ["self"] ["self"] (Ze T.m_Step_head):=scO
theorem Vt(D:DfM K C "head" "Step.head" T.m_Step_head ["self"]):CanM P w K mg base CX0 1 C "head" ["self"] (Nr K "its_head"):=by refine D.cn Pd λf cdv A outer s H vs Q E hr h=>?_;obtain⟨x,C,dx,fs,v,rfl,Z,hx,hl,k⟩:=h;refine⟨_,(Zj (Zn (ZI (pv 0) rfl))),?_⟩;exact⟨_,rfl,x,C,dx,fs,_,rfl,hx,Z.cl,nof Z (by decide +kernel),hl,k⟩
end
noncomputable def ZL:PyData->MK
|.str a=>.inl (.inr a)
|.tuple [.str a,.int i]=>.inr [.inr a,.inl i]
|_=>.inl (.inr "")
theorem JD{H:Hp}{v:V}{d:PyData}(n:NL d)(h:Is H v d):KyM H (ZL d) v:=by
 rcases n with⟨a,rfl⟩|⟨a,i,rfl⟩
 ·cases h with
 |str=>exact(rfl:V.str a=kV (.inr a))
 ·cases h with
 |tup e r=>
   cases r with
  |cons h1 r=>
   cases r with
  |cons h2 r=>
   cases r;cases h1;cases h2;exact⟨_,rfl,e⟩
theorem Mn{H:Hp}{Cs:Nat->Addr}{x:Addr}{j:Nat}{S:Sx}(h:XZ H Cs x j S):∃dx k vt vh,H x=some (.ins (Cs j) dx (flds (.ref k) vt vh S.room (.int S.price)))/\H k=some (.tup (S.key.map kV))/\Is H vt S.tail/\Is H vh S.head /\(flds (.ref k) vt vh S.room (.int S.price)).lookup ("its_key":Str)=some (.ref k)/\(flds (.ref k) vt vh S.room (.int S.price)).lookup ("its_tail":Str)=some vt/\(flds (.ref k) vt vh S.room (.int S.price)).lookup ("its_head":Str)=some vh:=by obtain⟨dx,k,vt,vh,h1,h2,h3,h4⟩:=h;exact⟨dx,k,vt,vh,h1,h2,h3,h4,rfl,rfl,rfl⟩
noncomputable def selV(f:Sx->PyData)(k:MK)(vs:List V)(L:List Sx):List V:=((vs.zip L).filter λp=>decide (ZL (f p.2)=k)).map (·.1)
theorem XA{f:Sx->PyData}{k:MK}{vs:List V}{L:List Sx}{v:V}{S:Sx}(hl:vs.length=L.length):selV f k (vs++[v]) (L++[S])=selV f k vs L++(if ZL (f S)=k then[v]else[]):=by unfold selV;rw[List.zip_append hl,gS,a8];congr 1;show(([(v,S)]:List (V×Sx)).filter _).map _=_;by_cases e:ZL (f S)=k<;>simp[e]
theorem Y3{kvs:List (MK×V)}{k0 k:MK}{x:V}(h:valV kvs k0=none):valV (kvs++[(k0,x)]) k=if k=k0 then some x else valV kvs k:=by
 have e:putK kvs k0 x=kvs++[(k0,x)]:=by unfold putK;rw[JP,h];rfl
 rw[<-e,V2]
structure Grp(P:Program)(w:World)(H:Hp)(d:Addr)(f:Sx->PyData)(vs:List V)(L:List Sx)(kvs:List (MK×V)):Prop where
 dm:DMw P w H d kvs
 len:kvs.length<=L.length
 no:∀k,valV kvs k=none->selV f k vs L=[]
 yes:∀k v,valV kvs k=some v->∃a,v=.ref a/\H a=some (.lst (selV f k vs L))
 uniq:∀k k' v,valV kvs k=some v->valV kvs k'=some v->k=k'
section
variable {P:Program}{w:World}{H H':Hp}{d:Addr}{f:Sx->PyData}{vs:List V}{L:List Sx}{kvs:List (MK×V)}{S:Sx}{v:V}{a q:Addr}
theorem Grp.keep(g:Grp P w H d f vs L kvs)(hd:H' d=H d)(ht:∀b ys,H b=some (.tup ys)->H' b=some (.tup ys))(hl:∀k a,valV kvs k=some (.ref a)->H' a=H a):Grp P w H' d f vs L kvs where
 dm:=g.dm.keeps hd ht
 len:=g.len
 no:=g.no
 yes:=λk v h=>by
  obtain⟨a,rfl,e⟩:=g.yes k v h
  exact⟨a,rfl,(hl k a h).trans e⟩
 uniq:=g.uniq
theorem DMw.isExt(g:DMw P w H d kvs):∃φ,H d=some (.ext φ):=by obtain⟨xs,e,_⟩:=g;exact⟨_,e⟩
theorem Grp.old(g:Grp P w H d f vs L kvs)(hl:vs.length=L.length)(h:valV kvs (ZL (f S))=some (.ref a)):Grp P w (upd H a (.lst (selV f (ZL (f S)) vs L++[v]))) d f (vs++[v]) (L++[S]) kvs:=by
 obtain⟨φ,ed⟩:=DMw.isExt g.dm;obtain⟨a',e',ea⟩:=g.yes _ _ h;cases e';have nd:d≠a:=ne_of ed ea (λz=>nomatch z);refine⟨g.dm.keeps (Zg nd) λb ys e=>by rw[Zg (ne_of e ea (λz=>nomatch z))];exact e,?_,λk hk=>?_,λk u hu=>?_,g.uniq⟩
 ·rw[ax];exact Nat.le_trans g.len (Nat.le_add_right _ _)
 ·have ne:¬ZL (f S)=k:=λz=>by subst z;rw[h]at hk;cases hk
  rw[XA hl,if_neg ne,bo];exact g.no k hk
 ·obtain⟨b,rfl,eb⟩:=g.yes k u hu;by_cases z:ZL (f S)=k
  ·subst z;rw[h]at hu;cases hu;exact⟨a,rfl,by rw[Zb,XA hl,if_pos rfl]⟩
  ·have nb:b≠a:=λe=>by subst e;exact z (g.uniq _ _ _ h hu)
   exact⟨b,rfl,by rw[Zg nb,XA hl,if_neg z,bo];exact eb⟩
theorem Grp.new{o:HO}(g:Grp P w H d f vs L kvs)(hl:vs.length=L.length)(h:valV kvs (ZL (f S))=none)(hq:H q=some (.lst []))(nq:∀k,valV kvs k≠some (.ref q))(dm:DMw P w (upd H d o) d (kvs++[(ZL (f S),.ref q)])):Grp P w (upd (upd H d o) q (.lst [v])) d f (vs++[v]) (L++[S]) (kvs++[(ZL (f S),.ref q)]):=by
 obtain⟨φ,ed⟩:=DMw.isExt g.dm;have nd:d≠q:=ne_of ed hq (λz=>nomatch z);have hq2:upd H d o q=some (.lst []):=by rw[Zg (bw nd)];exact hq
 refine⟨dm.keeps (Zg nd) λb ys e=>by rw[Zg (ne_of e hq2 (λz=>nomatch z))];exact e,?_,λk hk=>?_,λk u hu=>?_,λk k' u h1 h2=>?_⟩
 ·rw[ax,ax];exact Nat.add_le_add_right g.len 1
 ·rw[Y3 h]at hk;by_cases z:k=ZL (f S)
  ·rw[if_pos z]at hk;cases hk
  ·rw[if_neg z]at hk;rw[XA hl,if_neg (λe=>z e.symm),bo];exact g.no k hk
 ·rw[Y3 h]at hu;by_cases z:k=ZL (f S)
  ·rw[if_pos z]at hu;cases hu;subst z;exact⟨q,rfl,by rw[Zb,XA hl,if_pos rfl,g.no _ h];rfl⟩
  ·rw[if_neg z]at hu;obtain⟨b,rfl,eb⟩:=g.yes k u hu;have nb:b≠q:=λe=>by subst e;exact nq k hu
   refine⟨b,rfl,?_⟩;rw[Zg nb,Zg (ne_of eb ed (λz=>nomatch z)),XA hl,if_neg (λe=>z e.symm),bo];exact eb
 ·rw[Y3 h]at h1 h2;by_cases z:k=ZL (f S)<;>by_cases z':k'=ZL (f S)
  ·rw[z,z']
  ·rw[if_pos z]at h1;rw[if_neg z']at h2;cases h1;exact absurd h2 (nq k')
  ·rw[if_neg z]at h1;rw[if_pos z']at h2;cases h2;exact absurd h1 (nq k)
  ·rw[if_neg z]at h1;rw[if_neg z']at h2;exact g.uniq _ _ _ h1 h2
end
theorem Dv{f:Sx->PyData}{k:MK}{vs:List V}{L:List Sx}:(selV f k vs L).length<=L.length:=by unfold selV;rw[lm];refine Nat.le_trans (bQ _ _) ?_;rw[bF];exact Nat.min_le_right _ _
section
variable {P:Program}{w:World}{H:Hp}{d q:Addr}{f:Sx->PyData}{vs:List V}{L:List Sx}{kvs:List (MK×V)}{S:Sx}{v vt:V}{Q:Hp->Prop}
def Rest(H:Hp)(d:Addr)(kvs:List (MK×V))(H':Hp):Prop:=∀c o,H c=some o->c≠d->(∀k,valV kvs k≠some (.ref c))->H' c=some o
def EC(H:Hp)(kvs kvs':List (MK×V)):Prop:=∀k a,valV kvs' k=some (.ref a)->(∃k',valV kvs k'=some (.ref a))\/H a=none
theorem Qo(g:Grp P w H d f vs L kvs)(hl:vs.length=L.length)(ht:Is H vt (f S))(nl:NL (f S))(hq:H q=none)(k:∀H' kvs',Grp P w H' d f (vs++[v]) (L++[S]) kvs'->Rest H d kvs H'->EC H kvs kvs'->Q H'):DMw P w (upd H q (.lst [])) d kvs/\KyM (upd H q (.lst [])) (ZL (f S)) vt /\(∀u,valV kvs (ZL (f S))=some u->∃a xs,u=.ref a/\upd H q (.lst []) a=some (.lst xs)/\xs.length<=L.length/\Q (upd (upd H q (.lst [])) a (.lst (xs++[v])))) /\(valV kvs (ZL (f S))=none->∀o,DMw P w (upd (upd H q (.lst [])) d o) d (kvs++[(ZL (f S),.ref q)])->upd (upd H q (.lst [])) d o q=some (.lst [])/\Q (upd (upd (upd H q (.lst [])) d o) q (.lst [v]))):=by
 have s1:Same H (upd H q (.lst [])):=sameNew (Same.refl H) hq;have e1:upd H q (.lst []) q=some (.lst []):=Zb;obtain⟨φ,ed⟩:=DMw.isExt g.dm;have nq:∀k,valV kvs k≠some (.ref q):=λk h=>by obtain⟨a,ea,e⟩:=g.yes k _ h;cases ea;rw[hq]at e;cases e
 have g1:Grp P w (upd H q (.lst [])) d f vs L kvs:=g.keep (Zg (Zf ed hq)) (λb ys e=>s1 _ _ e) λk a h=>by obtain⟨b,eb,e⟩:=g.yes k _ h;cases eb;exact Zg (Zf e hq)
 have out:∀c o,H c=some o->upd H q (.lst []) c=some o/\c≠q:=λc o e=>⟨s1 _ _ e,Zf e hq⟩;generalize upd H q (.lst [])=H1 at *;refine⟨g1.dm,JD nl (ht.same s1),λu hu=>?_,λhn o dm=>?_⟩
 ·obtain⟨a,rfl,ea⟩:=g1.yes _ _ hu;refine⟨a,_,rfl,ea,Dv,k _ kvs (g1.old hl hu) (λc o e hd hc=>?_) λk' b h=>.inl ⟨k',h⟩⟩;have nc:c≠a:=λz=>by subst z;exact hc _ hu
  rw[Zg nc];exact(out c o e).1
 ·have nd:q≠d:=ne_of e1 (s1 _ _ ed) (λz=>nomatch z);refine⟨by rw[Zg nd];exact e1,k _ _ (g1.new hl hn e1 nq dm) (λc o' e hd hc=>?_) λk' b h=>?_⟩
  ·rw[Zg (out c o' e).2,Zg hd];exact(out c o' e).1
  ·rw[Y3 hn]at h;by_cases z:k'=ZL (f S)
   ·rw[if_pos z]at h;cases h;exact .inr hq
   ·rw[if_neg z]at h;exact .inl ⟨k',h⟩
end
noncomputable def wnames:List Str:=["table","steps","steps_by_tail","steps_by_head"]
structure WCl(K:af)(C:Addr):Prop where
 cl:Cls K C
 na:∀f∈wnames,Z1 K C f
noncomputable def wfl(t p d1 d2:Addr):List (Str×V):=[("table",.ref t),("steps",.ref p),("steps_by_tail",.ref d1),("steps_by_head",.ref d2)]
def Wb(P:Program)(w:World)(H:Hp)(Cw C:Addr)(Cs:Nat->Addr)(x:Addr)(T:Tb):Prop:=∃dx t p d1 d2 vs k1 k2,H x=some (.ins Cw dx (wfl t p d1 d2))/\Tel H C t T/\H p=some (.lst vs)/\StL H Cs T vs (allS T) /\Grp P w H d1 Sx.tail vs (allS T) k1/\Grp P w H d2 Sx.head vs (allS T) k2
def V5(P:Program)(w:World)(K:af)(Cw C:Addr)(Cs:Nat->Addr):Sp:=λvs H Q _=>∃(x:Addr)(y:V)(T:Tb),vs=[.ref x,y]/\Wb P w H Cw C Cs x T/\OkTb T /\((MW K H y/\Q (.bl false) H)\/∃a xs,y=.ref a/\H a=some (.tup xs)/\xs.length<=1000/\(∀v∈xs,∃T,Th H v T)/\∀b:Bool,(b=true↔Vi T xs)->Q (.bl b) H)
def Kk(P:Program)(w:World)(Cw C:Addr)(Cs:Nat->Addr):Sp:=λvs H Q _=>∃(x:Addr)(T:Tb),vs=[.ref x]/\Wb P w H Cw C Cs x T/\∀H' l us,Same H H'->H l=none->H' l=some (.lst us)->StL H' Cs T us (allS T)->Q (.ref l) H'
theorem Grp.same{P:Program}{w:World}{H H':Hp}{d:Addr}{f:Sx->PyData}{vs:List V}{L:List Sx}{kvs:List (MK×V)}(s:Same H H')(g:Grp P w H d f vs L kvs):Grp P w H' d f vs L kvs:=by
 obtain⟨φ,ed⟩:=DMw.isExt g.dm;exact g.keep ((s _ _ ed).trans ed.symm) (λb ys e=>s _ _ e) λk a h=>by obtain⟨b,eb,e⟩:=g.yes k _ h;cases eb;exact(s _ _ e).trans e.symm
theorem Wb.same{P:Program}{w:World}{H H':Hp}{Cw C:Addr}{Cs:Nat->Addr}{x:Addr}{T:Tb}(s:Same H H')(h:Wb P w H Cw C Cs x T):Wb P w H' Cw C Cs x T:=by obtain⟨dx,t,p,d1,d2,us,k1,k2,hx,tel,hp,sl,g1,g2⟩:=h;exact⟨dx,t,p,d1,d2,us,k1,k2,s _ _ hx,tel.same s,s _ _ hp,sl.same s,g1.same s,g2.same s⟩
section
variable {P:Program}{w:World}{K:af}{mg:Str->Option Value}{base:Heap}{Cw C:Addr}{Cs:Nat->Addr}
theorem Mr:FnScope ["self","thing"] ["self","thing"] (Ze T.m_Web_is_spot):=scO
theorem WJ(Z:WCl K Cw)(CS:Can P w K mg base 4 "is_spot_of" ["table","thing"] (NZ K C))(D:DfM K Cw "is_spot" "Web.is_spot" T.m_Web_is_spot ["self","thing"]):CanM P w K mg base CX0 5 Cw "is_spot" ["self","thing"] (V5 P w K Cw C Cs):=by refine D.cn Mr λf cdv A outer s H vs Q E hr h=>?_;obtain⟨x,y,T,rfl,⟨dx,t,p,d1,d2,us,k1,k2,hx,tel,hp,sl,g1,g2⟩,ok,k⟩:=h;refine⟨_,(Zj (Zn (cn CS hr (Za (ZI (pv 0) rfl) (Za (pv 1) Zh))))),?_⟩;exact⟨_,rfl,x,Cw,dx,_,_,rfl,hx,Z.cl,Z.na _ (by simp[wnames]),rfl,_,rfl,t,y,T,rfl,tel,ok,k⟩
theorem U4:FnScope ["self"] ["self"] (Ze T.m_Web_all_steps):=scO
theorem LK(B:∀x∈Blts,mg x=none)(Z:WCl K Cw)(D:DfM K Cw "all_steps" "Web.all_steps" T.m_Web_all_steps ["self"]):CanM P w K mg base CX0 1 Cw "all_steps" ["self"] (Kk P w Cw C Cs):=by refine D.cn U4 λf cdv A outer s H vs Q E hr h=>?_;obtain⟨x,T,rfl,⟨dx,t,p,d1,d2,us,k1,k2,hx,tel,hp,sl,g1,g2⟩,k⟩:=h;refine⟨_,(Zj (Zn (Z7 YY rfl (bm B) YZ (Za (ZI (pv 0) rfl) Zh)))),?_⟩;exact⟨_,rfl,x,Cw,dx,_,_,rfl,hx,Z.cl,Z.na _ (by simp[wnames]),rfl,p,us,rfl,.inl (SqL.of hp),λl hl=>k _ l us (sameNew (Same.refl H) hl) hl Zb (sl.same (sameNew (Same.refl H) hl))⟩
end
def Nd(T:Tb)(H:Hp)(y:V):Prop:=(∃a xs,y=.ref a/\H a=some (.tup xs)/\Vi T xs)\/∃g∈T.t4,y=.str (nameOf g)
def Askd(K:af)(H:Hp)(y:V):Prop:=(∃Ty,Th H y Ty)/\(MW K H y/\(∀a xs,y=.ref a->H a≠some (.tup xs))\/∃a xs,y=.ref a/\H a=some (.tup xs)/\xs.length<=1000/\∀v∈xs,∃T,Th H v T)
def YS(P:Program)(w:World)(K:af)(Cw C Cn:Addr)(Cs:Nat->Addr):Sp:=λvs H Q E=>∃(x:Addr)(y:V)(T:Tb),vs=[.ref x,y]/\Wb P w H Cw C Cs x T/\OkTb T/\Askd K H y /\(Nd T H y->Q .non H)/\(¬Nd T H y->∀H' dd,H dd=none->H' dd=some (XD dd [("found",y)])->(∀b,b≠dd->H' b=H b)->E (.ref Cn) (some dd) H')
section
variable {P:Program}{w:World}{K:af}{mg:Str->Option Value}{base:Heap}{Cw C Cn:Addr}{Cs:Nat->Addr}
theorem JN:FnScope ["self","thing"] ["self","thing"] (Ze T.m_Web_refuse_no_node):=scO
theorem VX(ZW:WCl K Cw)(Z:TCl K C)(B:Err P w K mg base "NoSpot" ["found"] Cn)(CS:CanM P w K mg base CX0 5 Cw "is_spot" ["self","thing"] (V5 P w K Cw C Cs))(CG:CanM P w K mg base CX0 2 C "is_group" ["self","thing"] (Mp C "group_by_name"))(D:DfM K Cw "refuse_no_node" "Web.refuse_no_node" T.m_Web_refuse_no_node ["self","thing"]):CanM P w K mg base (CX1 P w) 6 Cw "refuse_no_node" ["self","thing"] (YS P w K Cw C Cn Cs):=by
 refine D.cnX JN λf cdv A outer s H vs Q E hr h=>?_;obtain⟨x,y,T,rfl,wb,ok,⟨⟨Ty,th⟩,ask⟩,k1,k2⟩:=h;obtain⟨dx,t,p,d1,d2,us,q1,q2,hx,tel,hp,sl,g1,g2⟩:=id wb;refine⟨_,(Zj (ZZ (PW.pt (Pm (Yb (Z2 (Yc CS ZW.cl Yk hr.m (pv 0) (Za (pv 1) Zh)))) (G3 (Yb (Z2 (Yc CG Z.cl Yk hr.m (ZI (pv 0) rfl) (Za (pv 1) Zh))))))) (Zj (Jn (E:=E) B YV rfl hr.m rfl (Za (pv 1) Zh))) Zx)),?_⟩;refine⟨_,rfl,x,dx,_,rfl,hx,?only,_,rfl,x,y,T,rfl,wb,ok,?rest⟩;case only=>rfl
 case rest=>
  obtain⟨fs,x1,x2,x3,x4,k5,tp,dd⟩:=tel;obtain⟨l,d,ys,rs,a1,a2,a3,a4,a5⟩:=tp.tab.g;obtain⟨dt,ht⟩:=tp.tab.tab.at_;have gd:=dd.g;have rl:=(tp.rows _ (.inr (.inr (.inr rfl))) _ _ rfl).1;rw[lm]at rl;have kn:∀{u:V},ZP u k5.2.2.2=true↔∃g∈T.t4,u=.str (nameOf g):=λ{u}=>by
   constructor
   ·intro h;obtain⟨z,v0,rfl,hv⟩:=Yw h;have hm:z∈T.t4.map nameOf:=ib λn=>by rw[gd.no z n]at hv;cases hv
    obtain⟨g,hg,rfl⟩:=av.mp hm;exact⟨g,hg,rfl⟩
   ·rintro ⟨g,hg,rfl⟩;obtain⟨m,hm⟩:=bj.mp hg;have hlt:m<T.t4.length:=(aw.mp hm).1;exact QC (gd.at_ m g _ hm (gE (by omega)))
  rcases ask with⟨nt,nn⟩|⟨a,xs,rfl,ha,hl,hall⟩;case' inr=>
   refine .inr ⟨a,xs,rfl,ha,hl,hall,λb hb=>⟨_,rfl,?_⟩⟩;cases b;case' true=>exact iteF (k1 (.inl ⟨a,xs,rfl,ha,hb.mp rfl⟩))
   have ns:¬∃a' xs',V.ref a=.ref a'/\H a'=some (.tup xs')/\Vi T xs':=by rintro ⟨a',xs',e,ha',sp⟩;cases e;rw[ha]at ha';cases ha';exact absurd (hb.mpr sp) (by decide)
  case' inl=>refine .inl ⟨nt,_,rfl,?_⟩;have ns:¬∃a' xs',y=.ref a'/\H a'=some (.tup xs')/\Vi T xs':=λ⟨a',xs',e,ha',_⟩=>nn a' xs' e ha'
  all_goals
   refine iteT ?_;refine⟨_,rfl,x,Cw,dx,_,_,rfl,hx,ZW.cl,ZW.na _ (by simp[wnames]),rfl,t,dt,fs,rfl,ht,tp.tab.tab.only _ (by decide +kernel),_,rfl,t,_,Ty,fs,d,_,rfl,tp.tab.tab,a2,a5,th,_,rfl,?_⟩
  case' inl=>cases e:ZP y k5.2.2.2
  case' inr=>cases e:ZP (.ref a) k5.2.2.2
  all_goals
   first|exact iteF (k1 (.inr (kn.mp e)))|exact iteT ⟨_,rfl,rfl,k2 λz=>z.elim ns λz=>by rw[kn.mpr z]at e;cases e⟩
theorem Py{X:aL}{k:Nat}(hr:Room k X):X.units+1<cLine:=by have:=hr.units;omega
theorem Tj{T:Tb}{H:Hp}{y:V}(h:Nd T H y):∃d,NL d/\Is H y d:=by
 rcases h with⟨a,xs,rfl,ha,g,_,i,rfl,_⟩|⟨g,_,rfl⟩
 ·exact⟨.tuple [.str (nameOf g),.int i],.inr ⟨_,_,rfl⟩,.tup ha (.cons (.str _) (.cons (.int _) .nil))⟩
 ·exact⟨.str (nameOf g),.inl ⟨_,rfl⟩,.str _⟩
def JR(P:Program)(w:World)(K:af)(Cw C Cn:Addr)(Cs:Nat->Addr)(f:Sx->PyData):Sp:=λvs H Q E=>∃(x:Addr)(y:V)(T:Tb),vs=[.ref x,y]/\Wb P w H Cw C Cs x T/\OkTb T/\Askd K H y /\(Nd T H y->∀H' l us d,Same H H'->H l=none->NL d->Is H y d->StL H' Cs T us (allS T)->H' l=some (.lst (selV f (ZL d) us (allS T)))->Q (.ref l) H') /\(¬Nd T H y->∀H' dd,H dd=none->H' dd=some (XD dd [("found",y)])->(∀b,b≠dd->H' b=H b)->E (.ref Cn) (some dd) H')
theorem VN:FnScope ["self","node"] ["self","node"] (Ze T.m_Web_leading_out):=scO
theorem LW(B:∀x∈Blts,mg x=none)(ZW:WCl K Cw)(CR:CanM P w K mg base (CX1 P w) 6 Cw "refuse_no_node" ["self","thing"] (YS P w K Cw C Cn Cs))(D:DfM K Cw "leading_out" "Web.leading_out" T.m_Web_leading_out ["self","node"]):CanM P w K mg base (CX1 P w) 7 Cw "leading_out" ["self","node"] (JR P w K Cw C Cn Cs Sx.tail):=by
 refine D.cnX VN λf cdv A outer s H vs Q E hr h=>?_;obtain⟨x,y,T,rfl,wb,ok,ask,k1,k2⟩:=h;obtain⟨dx,t,p,d1,d2,us,q1,q2,hx,tel,hp,sl,g1,g2⟩:=id wb;refine⟨_,Zd (ZF (Yc CR ZW.cl YV hr.m (pv 0) (Za (pv 1) Zh))) (Zj (Zn (Z7 YY rfl (bm B) YZ (Za (Pq fR PySem.F.type_dict_get (Tp (Py hr)) (ZI (pv 0) rfl) (Za (pv 1) (Za (ZA Zh) Zh))) Zh)))),?_⟩;refine⟨_,rfl,x,dx,_,rfl,hx,rfl,_,rfl,x,y,T,rfl,wb,ok,ask,λnd=>?_,k2⟩;obtain⟨d,nl,hd⟩:=Tj nd;refine⟨_,rfl,x,Cw,dx,_,_,rfl,hx,ZW.cl,ZW.na _ (by simp[wnames]),rfl,⟨d1,q1,rfl,g1.dm.rd⟩,_,rfl,zl,λq hq=>?_⟩;have s1:Same H (upd H q (.lst [])):=sameNew (Same.refl H) hq;have e1:upd H q (.lst []) q=some (.lst []):=Zb;generalize upd H q (.lst [])=H1 at s1 e1 ⊢;have g1':=g1.same s1;refine⟨d1,q1,ZL d,y,.ref q,rfl,rfl,g1'.dm.rd,JD nl (hd.same s1),?_⟩;cases e:valV q1 (ZL d)with
|none=>refine⟨q,[],rfl,.inl (SqL.of e1),λl hl=>?_⟩;exact k1 nd _ l us d (sameNew s1 hl) (s1.free hl) nl hd (sl.same (sameNew s1 hl)) (by rw[Zb,g1.no _ e])
|some v=>obtain⟨a,rfl,ea⟩:=g1'.yes _ _ e;refine⟨a,_,rfl,.inl (SqL.of ea),λl hl=>?_⟩;exact k1 nd _ l us d (sameNew s1 hl) (s1.free hl) nl hd (sl.same (sameNew s1 hl)) Zb
theorem V6:FnScope ["self","node"] ["self","node"] (Ze T.m_Web_leading_in):=scO
theorem Ec(B:∀x∈Blts,mg x=none)(ZW:WCl K Cw)(CR:CanM P w K mg base (CX1 P w) 6 Cw "refuse_no_node" ["self","thing"] (YS P w K Cw C Cn Cs))(D:DfM K Cw "leading_in" "Web.leading_in" T.m_Web_leading_in ["self","node"]):CanM P w K mg base (CX1 P w) 7 Cw "leading_in" ["self","node"] (JR P w K Cw C Cn Cs Sx.head):=by
 refine D.cnX V6 λf cdv A outer s H vs Q E hr h=>?_;obtain⟨x,y,T,rfl,wb,ok,ask,k1,k2⟩:=h;obtain⟨dx,t,p,d1,d2,us,q1,q2,hx,tel,hp,sl,g1,g2⟩:=id wb;refine⟨_,Zd (ZF (Yc CR ZW.cl YV hr.m (pv 0) (Za (pv 1) Zh))) (Zj (Zn (Z7 YY rfl (bm B) YZ (Za (Pq fR PySem.F.type_dict_get (Tp (Py hr)) (ZI (pv 0) rfl) (Za (pv 1) (Za (ZA Zh) Zh))) Zh)))),?_⟩;refine⟨_,rfl,x,dx,_,rfl,hx,rfl,_,rfl,x,y,T,rfl,wb,ok,ask,λnd=>?_,k2⟩;obtain⟨d,nl,hd⟩:=Tj nd;refine⟨_,rfl,x,Cw,dx,_,_,rfl,hx,ZW.cl,ZW.na _ (by simp[wnames]),rfl,⟨d2,q2,rfl,g2.dm.rd⟩,_,rfl,zl,λq hq=>?_⟩;have s1:Same H (upd H q (.lst [])):=sameNew (Same.refl H) hq;have e1:upd H q (.lst []) q=some (.lst []):=Zb;generalize upd H q (.lst [])=H1 at s1 e1 ⊢;have g1':=g2.same s1;refine⟨d2,q2,ZL d,y,.ref q,rfl,rfl,g1'.dm.rd,JD nl (hd.same s1),?_⟩;cases e:valV q2 (ZL d)with
|none=>refine⟨q,[],rfl,.inl (SqL.of e1),λl hl=>?_⟩;exact k1 nd _ l us d (sameNew s1 hl) (s1.free hl) nl hd (sl.same (sameNew s1 hl)) (by rw[Zb,g2.no _ e])
|some v=>obtain⟨a,rfl,ea⟩:=g1'.yes _ _ e;refine⟨a,_,rfl,.inl (SqL.of ea),λl hl=>?_⟩;exact k1 nd _ l us d (sameNew s1 hl) (s1.free hl) nl hd (sl.same (sameNew s1 hl)) Zb
end
theorem Td{X:Cx}{e:Expr}{T:Nat->TE}(h:∀j,j<4->PE X e (T j)):PE X e (λσ H Q=>∃j,j<4/\T j σ H Q):=λpins s σ H Q I⟨j,hj,q⟩=>h j hj pins s σ H Q I q
def New(Hs:Hp)(k:List (MK×V)):Prop:=∀q a,valV k q=some (.ref a)->Hs a=none
structure GG(P:Program)(w:World)(Hs H:Hp)(d e:Addr)(f g:Sx->PyData)(vs:List V)(L:List Sx)(us:List V)(M:List Sx)(k1 k2:List (MK×V)):Prop where
 keep:∀c o,Hs c=some o->c≠d->c≠e->H c=some o
 g1:Grp P w H d f vs L k1
 g2:Grp P w H e g us M k2
 n1:New Hs k1
 n2:New Hs k2
 dj:∀q q' a,valV k1 q=some (.ref a)->valV k2 q'≠some (.ref a)
 ne:d≠e
section
variable {P:Program}{w:World}{Hs H H':Hp}{d e:Addr}{f g:Sx->PyData}{vs us:List V}{L M:List Sx}{k1 k2 k1':List (MK×V)}{S:Sx}{v:V}
theorem GG.swap(h:GG P w Hs H d e f g vs L us M k1 k2):GG P w Hs H e d g f us M vs L k2 k1:=⟨λc o q a b=>h.keep c o q b a,h.g2,h.g1,h.n2,h.n1,λq q' a x y=>h.dj q' q a y x,h.ne.symm⟩
theorem GG.more(h:GG P w Hs H d e f g vs L us M k1 k2)(g':Grp P w H' d f (vs++[v]) (L++[S]) k1')(r:Rest H d k1 H')(l:EC H k1 k1'):GG P w Hs H' d e f g (vs++[v]) (L++[S]) us M k1' k2:=by
 obtain⟨φ,ed⟩:=DMw.isExt h.g1.dm;obtain⟨ψ,ee⟩:=DMw.isExt h.g2.dm;have nl:∀{c o},H c=some o->(∀xs,o≠.lst xs)->∀k,valV k1 k≠some (.ref c):=λ{c o}q n k z=>by obtain⟨b,eb,e⟩:=h.g1.yes k _ z;cases eb;rw[q]at e;cases e;exact n _ rfl
 refine⟨λc o q a b=>r c o (h.keep c o q a b) a λk z=>?_,g',h.g2.keep ?_ (λb ys q=>?_) (λk a z=>?_),λq a z=>?_,h.n2,λq q' a z y=>?_,h.ne⟩
 ·rw[h.n1 k c z]at q;cases q
 ·rw[ee];exact r e _ ee h.ne.symm (nl ee λxs z=>nomatch z)
 ·exact r b _ q (ne_of q ed (λz=>nomatch z)) (nl q λxs z=>nomatch z)
 ·obtain⟨b,eb,e⟩:=h.g2.yes k _ z;cases eb;rw[e];exact r a _ e (ne_of e ed (λz=>nomatch z)) λk' z'=>h.dj k' k a z' z
 ·rcases l q a z with⟨k',hk⟩|hn
  ·exact h.n1 k' a hk
  ·cases hz:Hs a with
  |none=>rfl
  |some o=>
    by_cases n1:a=d
    ·subst n1;rw[hn]at ed;cases ed
    ·by_cases n2:a=e
     ·subst n2;rw[hn]at ee;cases ee
     ·rw[h.keep a o hz n1 n2]at hn;cases hn
 ·rcases l q a z with⟨k',hk⟩|hn
  ·exact h.dj k' q' a hk y
  ·obtain⟨b,eb,e⟩:=h.g2.yes q' _ y;cases eb;rw[hn]at e;cases e
end
theorem StL.keepI{H H':Hp}{Cs:Nat->Addr}{Cw:Addr}{T:Tb}{x dx:Addr}{fs:List (Str×V)}{vs:List V}{L:List Sx}(ne:∀j,j<4->Cs j≠Cw)(hx:H x=some (.ins Cw dx fs))(s:Zi x H H')(h:StL H Cs T vs L):StL H' Cs T vs L:=Paired.mapP h λ_ _ hZ=>by obtain⟨y,j,e,⟨dy,k,vt,vh,h1,h2,h3,h4⟩,i⟩:=hZ;have ht:∀c xs,H c=some (.tup xs)->H' c=some (.tup xs):=λc xs e=>s _ _ e (ne_of e hx (λz=>nomatch z));refine⟨y,j,e,⟨dy,k,vt,vh,s _ _ h1 (λz=>?_),ht _ _ h2,VD (Jq i).1 ht h3,VD (Jq i).2 ht h4⟩,i⟩;subst z;rw[hx]at h1;injection h1 with h1;injection h1 with h1;exact ne j i.key.2 h1.symm
theorem nlI{x dx Cw:Addr}{H H0:Hp}{fs0 fs:List (Str×V)}{G:Hp->Prop}(S0:Same H0 H)(hx0:H0 x=none)(hx:H x=some (.ins Cw dx fs0))(k:∀H',Zi x H H'->Same H0 H'->H' x=some (.ins Cw dx fs)->G H'):G (upd H x (.ins Cw dx fs)):=k _ (λc o e hc=>by rw[Zg hc];exact e) (λc o e=>by rw[Zg (Zf e hx0)];exact S0 _ _ e) Zb
def NY(P:Program)(w:World)(Cw C:Addr)(Cs:Nat->Addr):Sp:=λvs H Q _=>∃(x dx t:Addr)(T:Tb)(H0:Hp),vs=[.ref x,.ref t]/\Same H0 H/\H0 x=none/\H x=some (.ins Cw dx [])/\Tel H0 C t T/\OkTb T /\∀H',Same H0 H'->Wb P w H' Cw C Cs x T->Q .non H'
section
variable {P:Program}{w:World}{K:af}{mg:Str->Option Value}{base:Heap}{Cw C:Addr}{Cs:Nat->Addr}
theorem JI:FnScope ["self","table","step"] ["self","table"] (Ze T.m_Web___init__):=scO
theorem La{f:Addr}{fd:bH}(Z:WCl K Cw)(ne:∀j,j<4->Cs j≠Cw)(ZS:∀j,j<4->SCl K (Cs j))(CS:Can P w K mg base 6 "steps_of" ["table"] (Xd C Cs allS))(CT:∀j,j<4->CanM P w K mg base CX0 1 (Cs j) "tail" ["self"] (Nr K "its_tail"))(CH:∀j,j<4->CanM P w K mg base CX0 1 (Cs j) "head" ["self"] (Nr K "its_head"))(F:Fun K "__init__" "Web.__init__" T.m_Web___init__ f fd):FnOk P w K mg base CX0 7 f fd ["self","table"] (NY P w Cw C Cs):=by
 refine F.ok JI (λvs H Q E h=>?_) (λcdv A outer s H vs Q E hr h=>?_)
 ·obtain⟨x,dx,t,T,H0,rfl,_⟩:=h;rfl
 ·obtain⟨x,dx,t,T,H0,rfl,S0,hx0,hx,tel,ok,k⟩:=h;refine⟨_,(Zd (YA (pv 0) (pv 1) rfl) (Zd (YA (pv 0) (cn CS hr (Za (pv 1) Zh)) rfl) (Zd (YA (pv 0) Ta rfl) (Zd (YA (pv 0) Ta rfl) (Zj (Yr aY rfl (Ym (ZI (pv 0) rfl)) (nmT 2 JI.nd) (Zd (ZF (JW aR cu cq XE (Pq eG hJ (Qs (Py hr)) (ZI (pv 0) rfl) (Za (Td λj hj=>Xm (CT j hj) (ZS j hj).cl Yk hr.m (pv 2)) (Za (ZA Zh) Zh))) (Za (pv 2) Zh))) (Zj (ZF (JW aR cu cq XE (Pq eG hJ (Qs (Py hr)) (ZI (pv 0) rfl) (Za (Td λj hj=>Xm (CH j hj) (ZS j hj).cl Yk hr.m (pv 2)) (Za (ZA Zh) Zh))) (Za (pv 2) Zh))))))))))),?_⟩;refine tq λD1 hk1=>?_;refine⟨_,rfl,_,rfl,x,Cw,dx,_,rfl,hx,Z.cl,Z.na _ (by simp[wnames]),by decide,?_⟩;refine nlI S0 hx0 hx λH1 _ S1 x1=>?_;refine hk1 _ _ (tq λD2 hk2=>?_);refine⟨_,rfl,t,T,rfl,tel.same S1,ok,λH2 p us S2 hp ep sl=>⟨_,rfl,x,Cw,dx,_,rfl,S2 _ _ x1,Z.cl,Z.na _ (by simp[wnames]),small (n:=_) (pfl (Nat.zero_lt_succ 8)),?_⟩⟩;refine nlI (S1.trans S2) hx0 (S2 _ _ x1) λH3 B3 S3 x3=>?_;refine hk2 _ _ (tq λD3 hk3=>?_);have sl3:=sl.keepI ne (S2 _ _ x1) B3;have ep3:=B3 _ _ ep (ne_of ep (S2 _ _ x1) (λz=>nomatch z));intro d1 o1 hd1 dm1;have qa:=(Zg (H:=H3) (o:=o1) (Zf x3 hd1)).trans x3;refine⟨_,rfl,x,Cw,dx,_,rfl,qa,Z.cl,Z.na _ (by simp[wnames]),?a2,?a3⟩;case a2=>exact small (n:=_) (pfl (pfl (Nat.zero_lt_succ 7)))
  case a3=>
  have S4:Same H3 (upd H3 d1 o1):=sameNew (Same.refl _) hd1;generalize upd H3 d1 o1=H4 at dm1 S4 ⊢;refine nlI (S3.trans S4) hx0 (S4 _ _ x3) λH5 B5 S5 x5=>?_;refine hk3 _ _ (tq λD4 hk4=>?_);have sl5:=(sl3.same S4).keepI ne (S4 _ _ x3) B5;have ep5:=B5 _ _ (S4 _ _ ep3) (ne_of ep3 x3 (λz=>nomatch z));obtain⟨φ1,ed1⟩:=DMw.isExt dm1;have kt5:∀b ys,H4 b=some (.tup ys)->H5 b=some (.tup ys):=λb ys e=>B5 _ _ e (ne_of e (S4 _ _ x3) (λz=>nomatch z));have dm5:DMw P w H5 d1 []:=dm1.keeps ((B5 _ _ ed1 (ne_of ed1 (S4 _ _ x3) (λz=>nomatch z))).trans ed1.symm) kt5;intro d2 o2 hd2 dm2;have qb:=(Zg (H:=H5) (o:=o2) (Zf x5 hd2)).trans x5;refine⟨_,rfl,x,Cw,dx,_,rfl,qb,Z.cl,Z.na _ (by simp[wnames]),?b2,?b3⟩;case b2=>exact small (n:=_) (pfl (pfl (pfl (Nat.zero_lt_succ 6))))
  case b3=>
  have S6:Same H5 (upd H5 d2 o2):=sameNew (Same.refl _) hd2;generalize upd H5 d2 o2=H6 at dm2 S6 ⊢;refine nlI (S5.trans S6) hx0 (S6 _ _ x5) λH7 B7 S7 x7=>?_;refine hk4 _ _ ?_;have sl7:=(sl5.same S6).keepI ne (S6 _ _ x5) B7;have ep7:=B7 _ _ (S6 _ _ ep5) (ne_of ep5 x5 (λz=>nomatch z));have kt7:∀b ys,H6 b=some (.tup ys)->H7 b=some (.tup ys):=λb ys e=>B7 _ _ e (ne_of e (S6 _ _ x5) (λz=>nomatch z));have kd7:∀{d:Addr}{φ},H6 d=some (.ext φ)->H7 d=H6 d:=λe=>(B7 _ _ e (ne_of e (S6 _ _ x5) (λz=>nomatch z))).trans e.symm;obtain⟨ψ1,e1⟩:=DMw.isExt dm5;obtain⟨ψ2,e2⟩:=DMw.isExt dm2;have dm71:DMw P w H7 d1 []:=dm5.keeps ((kd7 (S6 _ _ e1)).trans ((S6 _ _ e1).trans e1.symm)) λb ys e=>kt7 b ys (S6 _ _ e);have dm72:DMw P w H7 d2 []:=dm2.keeps (kd7 e2) kt7;have nd:d1≠d2:=Zf e1 hd2;have n01:H0 d1=none:=S3.free hd1;have n02:H0 d2=none:=S5.free hd2;have hwf:H7 x=some (.ins Cw dx (wfl t p d1 d2)):=x7;have gn:∀{d:Addr}{f:Sx->PyData},DMw P w H7 d []->Grp P w H7 d f [] [] []:=λdm=>⟨dm,Nat.le_refl _,λ_ _=>rfl,(λ_ _ z=>nomatch z),(λ_ _ _ z=>nomatch z)⟩;refine⟨_,rfl,x,Cw,dx,_,_,rfl,hwf,Z.cl,Z.na _ (by simp[wnames]),rfl,p,rfl,⟨us,SqL.of ep7⟩,?_⟩;have pt:p≠d1/\p≠d2:=⟨Zf ep3 hd1,Zf ep5 hd2⟩;have px:x≠d1/\x≠d2:=⟨Zf x3 hd1,Zf x5 hd2⟩;have llen:=sl7.len;have lmax:(allS T).length<=18200:=by have h:=Jb ok;unfold allS;simp only[ax];omega
  refine Uj (K:=K) (a:=p) (xs:=us) (λi σ H'=>∃k1 k2,GG P w H7 H' d1 d2 Sx.tail Sx.head (us.take i) ((allS T).take i) (us.take i) ((allS T).take i) k1 k2/\∃o,σ=[some (.ref x),some (.ref t),o]) ⟨[],[],⟨λc o e _ _=>e,gn dm71,gn dm72,(λ_ _ z=>nomatch z),(λ_ _ z=>nomatch z),(λ_ _ _ z=>nomatch z),nd⟩,_,rfl⟩ (λi σ H' _ q=>?_) (λi v σ H' hi q=>?_) (λσ H' q=>?_)
  ·obtain⟨k1,k2,gg,_⟩:=q;exact SqL.of (gg.keep _ _ ep7 pt.1 pt.2)
  ·obtain⟨k1,k2,gg,o,rfl⟩:=q;have hlt:i<us.length:=(aw.mp hi).1;have hS:(allS T)[i]?=some ((allS T)[i]'(by omega)):=gE (by omega);obtain⟨y,j,rfl,st,is⟩:=YG sl7 hi hS;have ev:us.take (i+1)=us.take i++[.ref y]:=by rw[bE,hi];rfl
   have eL:(allS T).take (i+1)=(allS T).take i++[(allS T)[i]'(by omega)]:=by rw[bE,hS];rfl
   rw[ev,eL];have l1:(us.take i).length=((allS T).take i).length:=by rw[aB,aB];omega
   have l2:((allS T).take i).length<=18200:=by rw[aB];omega
   generalize (allS T)[i]'(by omega)=S at st is;generalize us.take i=vs at gg l1 ⊢;generalize (allS T).take i=L at gg l1 l2 ⊢;obtain⟨dy,ky,vt,vh,h1,h2,h3,h4,f1,f2,f3⟩:=Mn st;have hj:=is.key.2;have nn:∀{c:Addr}{o:HO},H7 c=some o->(∀φ,o≠.ext φ)->c≠d1/\c≠d2:=λ{c o}e n=>⟨λz=>by subst z;obtain⟨φ,q⟩:=DMw.isExt dm71;rw[e]at q;cases q;exact n _ rfl,λz=>by subst z;obtain⟨φ,q⟩:=DMw.isExt dm72;rw[e]at q;cases q;exact n _ rfl⟩;have up:∀{H':Hp}{a b c d e f},GG P w H7 H' d1 d2 Sx.tail Sx.head a b c d e f->H' x=some (.ins Cw dx (wfl t p d1 d2))/\H' y=some (.ins (Cs j) dy (flds (.ref ky) vt vh S.room (.int S.price)))/\Is H' vt S.tail/\Is H' vh S.head:=λg=>
    have ht:∀b ys,H7 b=some (.tup ys)->_:=λb ys e=>g.keep _ _ e (nn e λφ z=>nomatch z).1 (nn e λφ z=>nomatch z).2;⟨g.keep _ _ hwf px.1 px.2,g.keep _ _ h1 (nn h1 λφ z=>nomatch z).1 (nn h1 λφ z=>nomatch z).2,VD (Jq is).1 ht h3,VD (Jq is).2 ht h4⟩;have sz:∀{n:Nat},n<=18200->n<sizeLine:=λh=>Nat.lt_of_le_of_lt h (by decide);obtain⟨u1,u2,u3,u4⟩:=up gg;dsimp only[YI];refine td λD' hdd=>?_;refine tq λD'' hkk=>?_;refine⟨_,rfl,x,Cw,dx,_,_,rfl,u1,Z.cl,Z.na _ (by simp[wnames]),rfl,⟨d1,k1,rfl,gg.g1.dm.rd⟩,j,hj,_,rfl,y,dy,_,rfl,u2,rfl,y,Cs j,dy,_,vt,rfl,ZS j hj,u2,f2,zl,λq hq=>?_⟩;have om:=Qo (v:=.ref y) (Q:=λH9=>∃k1',GG P w H7 H9 d1 d2 Sx.tail Sx.head (vs++[.ref y]) (L++[S]) vs L k1' k2) gg.g1 l1 u3 (Jq is).1 hq λH' k' g r l=>⟨k',gg.more g r l⟩;refine⟨d1,k1,ZL S.tail,vt,.ref q,rfl,rfl,om.1,om.2.1,sz (Nat.le_trans gg.g1.len l2),λu hu=>?_,λhn o ho=>?_⟩;case' refine_2=>
    obtain⟨eq,k1',gg'⟩:=om.2.2.2 hn o ho;refine⟨.inl ⟨rfl,_,SqL.of eq⟩,_,rfl,q,_,_,rfl,rfl,eq,sz (Nat.zero_le _),?_⟩;generalize hH:upd (upd (upd H' q (.lst [])) d1 o) q (.lst ([]++[.ref y]))=H9;have gg9:GG P w H7 H9 d1 d2 Sx.tail Sx.head (vs++[.ref y]) (L++[S]) vs L k1' k2:=by rw[<-hH];exact gg'
   case' refine_1=>obtain⟨a,xs,rfl,ea,la,k1',gg'⟩:=om.2.2.1 u hu;refine⟨.inl ⟨rfl,_,SqL.of ea⟩,_,rfl,a,_,_,rfl,rfl,ea,sz (Nat.le_trans la l2),?_⟩;generalize hH:upd (upd H' q (.lst [])) a (.lst (xs++[.ref y]))=H9;have gg9:GG P w H7 H9 d1 d2 Sx.tail Sx.head (vs++[.ref y]) (L++[S]) vs L k1' k2:=by rw[<-hH];exact gg'
   all_goals
    clear om hH gg';obtain⟨u1,u2,u3,u4⟩:=up gg9;have gs:=gg9.swap;refine hkk _ _ ?_;refine⟨_,rfl,x,Cw,dx,_,_,rfl,u1,Z.cl,Z.na _ (by simp[wnames]),rfl,⟨d2,k2,rfl,gs.g1.dm.rd⟩,j,hj,_,rfl,y,dy,_,rfl,u2,rfl,y,Cs j,dy,_,vh,rfl,ZS j hj,u2,f3,zl,λq hq=>?_⟩;have om:=Qo (v:=.ref y) (Q:=λH9=>∃k2',GG P w H7 H9 d2 d1 Sx.head Sx.tail (vs++[.ref y]) (L++[S]) (vs++[.ref y]) (L++[S]) k2' k1') gs.g1 l1 u4 (Jq is).2 hq λH' k' g r l=>⟨k',gs.more g r l⟩;refine⟨d2,k2,ZL S.head,vh,.ref q,rfl,rfl,om.1,om.2.1,sz (Nat.le_trans gs.g1.len l2),λu hu=>?_,λhn o ho=>?_⟩
    ·obtain⟨a,xs,rfl,ea,la,k2',gg'⟩:=om.2.2.1 u hu;exact⟨.inl ⟨rfl,_,SqL.of ea⟩,_,rfl,a,_,_,rfl,rfl,ea,sz (Nat.le_trans la l2),hdd _ _ ⟨k1',k2',gg'.swap,_,rfl⟩⟩
    ·obtain⟨eq,k2',gg'⟩:=om.2.2.2 hn o ho;exact⟨.inl ⟨rfl,_,SqL.of eq⟩,_,rfl,q,_,_,rfl,rfl,eq,sz (Nat.zero_le _),hdd _ _ ⟨k1',k2',gg'.swap,_,rfl⟩⟩
  ·obtain⟨k1,k2,gg,o,rfl⟩:=q;rw[aO,llen,aO]at gg;have nn:∀{c:Addr}{o:HO},H7 c=some o->(∀φ,o≠.ext φ)->c≠d1/\c≠d2:=λ{c o}e n=>⟨λz=>by subst z;obtain⟨φ,q⟩:=DMw.isExt dm71;rw[e]at q;cases q;exact n _ rfl,λz=>by subst z;obtain⟨φ,q⟩:=DMw.isExt dm72;rw[e]at q;cases q;exact n _ rfl⟩;have kp:∀{c:Addr}{o:HO},H7 c=some o->(∀φ,o≠.ext φ)->H' c=some o:=λe n=>gg.keep _ _ e (nn e n).1 (nn e n).2;have S8:Same H0 H':=λc o e=>gg.keep _ _ (S7 _ _ e) (Zf e n01) (Zf e n02);refine k H' S8 ⟨dx,t,p,d1,d2,us,k1,k2,gg.keep _ _ hwf px.1 px.2,tel.same S8,gg.keep _ _ ep7 pt.1 pt.2,Paired.mapP sl7 λ_ _ hZ=>?_,gg.g1,gg.g2⟩;obtain⟨y,j,e,⟨dy,ky,vt,vh,h1,h2,h3,h4⟩,i⟩:=hZ;have ht:∀b ys,H7 b=some (.tup ys)->H' b=some (.tup ys):=λb ys e=>kp e λφ z=>nomatch z;exact⟨y,j,e,⟨dy,ky,vt,vh,kp h1 (λφ z=>nomatch z),ht _ _ h2,VD (Jq i).1 ht h3,VD (Jq i).2 ht h4⟩,i⟩
end
def P7:Sp:=λvs H Q _=>∃(b pw l1 l2 l3 l4:Addr)(T:Tb),vs=[.ref pw]/\TbAt b H pw T l1 l2 l3 l4/\OkTb T/\∀H' p,Same H H'->H p=none->Dc H' p (allS T)->Q (.ref p) H'
theorem DI{H H1:Hp}{p a k:Addr}{L:List Sx}{S:Sx}{R:Hp->Prop}(hno:H p=none)(s:Zi p H H1)(dc:Dc H1 p L)(hl:L.length<=20000)(hv:Is H1 (.ref a) (Xk S))(hk:H1 k=some (.tup (S.key.map kV)))(r:∀H2,Zi p H H2->Dc H2 p (L++[S])->R H2):∃d H2,V.ref p=.ref d/\DPut H1 d (.ref k) (.ref a) H2/\R H2:=by obtain⟨kvs,e,l,h1,h2⟩:=dc;refine⟨p,_,rfl,DPut.t e hk (Nat.lt_of_le_of_lt (Nat.le_trans l hl) (by decide)),r _ ?_ (Dc.put e l h1 h2 hv)⟩;intro c o ec hc;rw[Zg hc];exact s c o ec hc
theorem G4{H H1:Hp}{p a k:Addr}{ks:List V}(hk:H1 k=none){L:List Sx}{S:Sx}(e:ks=S.key.map kV){R:Hp->Prop}(hno:H p=none)(s:Zi p H H1)(dc:Dc H1 p L)(hl:L.length<=20000)(hv:Is H1 (.ref a) (Xk S))(r:∀H2,Zi p H H2->Dc H2 p (L++[S])->R H2):∃d H2,V.ref p=.ref d/\DPut (upd H1 k (.tup ks)) d (.ref k) (.ref a) H2/\R H2:=by subst e;have S1:=sameNew (o:=.tup (S.key.map kV)) (Same.refl H1) hk;exact DI hno (s.trans (Zi.of S1)) (dc.same S1) hl (hv.same S1) Zb r
section
variable {P:Program}{w:World}{K:af}{mg:Str->Option Value}{base:Heap}{C:Addr}{Cs:Nat->Addr}
theorem Zq:FnScope [q_w,"_law_turns",q_p,"_law_rides","_law_ways","_law_groups","_law_steps_here","_law_name","_law_place","_law_turn","_law_many","_law_at","_law_start","_law_leave","_law_goal","_law_come","_law_seats","_law_long","_law_wide","_law_room"] [q_w] (Ze T.f__law_steps):=scO
theorem R0(B:∀x∈Blts,mg x=none)(D:Df K mg "_law_steps" T.f__law_steps [q_w]):Can P w K mg base 1 "_law_steps" [q_w] P7:=by
 refine D.cn Zq λf cdv A outer s H vs Q E hr h=>?_;obtain⟨b,pw,l1,l2,l3,l4,T,rfl,tb,ok,k⟩:=h;refine' ⟨_,(@Zd _ _ _ _ _ ?h24 (@Zd _ _ _ _ _ ?h25 (@Zd _ _ _ _ _ ?h26 (@Zd _ _ _ _ _ ?h27 (@Zd _ _ _ _ _ ?h28 (@Zd _ _ _ _ _ ?h29 (@Zj _ _ _ ?h30))))))),?rd⟩;case' h30=>refine' (Zn (pv 6))
 case' h29=>refine' (Yr aY rfl (Ym (pv 2)) (XJ rfl (Zo (nmT 8 Zq.nd) (Zo (nmT 19 Zq.nd) Yn))) (@Zj _ _ _ ?h23))
 case' h28=>refine' (Yr aY rfl (Ym (pv 4)) (XJ rfl (Zo (nmT 7 Zq.nd) (Zo (nmT 12 Zq.nd) (Zo (nmT 14 Zq.nd) (Zo (nmT 17 Zq.nd) (Zo (nmT 18 Zq.nd) Yn)))))) (@Zj _ _ _ ?h16))
 case' h27=>refine' (Yr aY rfl (Ym (pv 3)) (XJ rfl (Zo (nmT 7 Zq.nd) (Zo (nmT 12 Zq.nd) (Zo (nmT 13 Zq.nd) (Zo (nmT 14 Zq.nd) (Zo (nmT 15 Zq.nd) (Zo (nmT 16 Zq.nd) Yn))))))) (@Zj _ _ _ ?h10))
 case' h26=>refine' (Yr aY rfl (Ym (pv 5)) (XJ rfl (Zo (nmT 7 Zq.nd) (Zo (nmT 8 Zq.nd) (Zo (nmT 9 Zq.nd) (Zo (nmT 10 Zq.nd) Yn))))) (@Zj _ _ _ ?h5))
 case' h25=>refine' (@st _ _ _ _ 6 _ _ Zq.nd KQ (by rfl) (by exact bh rfl) (by rfl) (by exact .inl rfl))
 case' h24=>refine' (VR (pv 0) (Rt rfl (Zo (nmT 1 Zq.nd) (Zo (nmT 2 Zq.nd) (Zo (nmT 3 Zq.nd) (Zo (nmT 4 Zq.nd) (Zo (nmT 5 Zq.nd) Yn)))))))
 case' h23=>refine' (@ZZ _ _ _ _ _ _ _ _ (@ZD _ _ _ _ _ _ _ _ JC (pv 19) Z4 (ZC _)) (@Zj _ _ _ ?h22) Zx)
 case' h22=>refine' (Yr aY rfl (Yg rfl (bm B) (@pa1 _ _ _ (pv 1) (by rfl))) (nmT 11 Zq.nd) (@Zj _ _ _ ?h21))
 case' h21=>refine' (Ja (J4 hr) (pv 6) ?h17 ?h20 rfl)
 case' h20=>refine' (@Zt _ _ _ _ _ (@Za _ _ _ _ _ ?h19 (@pa3 _ _ _ _ _ _ _ ?h18 (pv 19) Zc (by rfl)) (by rfl)))
 case' h19=>refine' (@Zt _ _ _ _ _ (@pa2 _ _ _ _ _ (pv 8) (pv 11) (by rfl)))
 case' h18=>refine' (@Zt _ _ _ _ _ (@pa2 _ _ _ _ _ (pv 8) (Zw ZX (pv 11) Zc) (by rfl)))
 case' h17=>refine' (@Zt _ _ _ _ _ (@pa3 _ _ _ _ _ _ _ Zp (pv 8) (pv 11) (by rfl)))
 case' h16=>refine' (Yr aY rfl (Yg rfl (bm B) (@pa1 _ _ _ (Zw JY (Zw ZX (pv 1) Zc) (pv 17)) (by rfl))) (nmT 11 Zq.nd) (@Zj _ _ _ ?h15))
 case' h15=>refine' (Ja (J4 hr) (pv 6) ?h11 ?h14 rfl)
 case' h14=>refine' (@Zt _ _ _ _ _ (@Za _ _ _ _ _ ?h13 (@pa3 _ _ _ _ _ _ _ ?h12 (pv 18) (pv 17) (by rfl)) (by rfl)))
 case' h13=>refine' (@Zt _ _ _ _ _ (@pa2 _ _ _ _ _ (pv 12) (pv 11) (by rfl)))
 case' h12=>refine' (@Zt _ _ _ _ _ (@pa2 _ _ _ _ _ (pv 14) (Zw ZX (pv 11) (pv 17)) (by rfl)))
 case' h11=>refine' (@Zt _ _ _ _ _ (@pa3 _ _ _ _ _ _ _ Zp (pv 7) (pv 11) (by rfl)))
 case' h10=>refine' (Ja (J4 hr) (pv 6) ?h6 ?h9 rfl)
 case' h9=>refine' (@Zt _ _ _ _ _ (@Za _ _ _ _ _ ?h8 (@pa3 _ _ _ _ _ _ _ ?h7 (pv 16) (Zw JY (pv 15) (pv 13)) (by rfl)) (by rfl)))
 case' h8=>refine' (@Zt _ _ _ _ _ (@pa2 _ _ _ _ _ (pv 12) (pv 13) (by rfl)))
 case' h7=>refine' (@Zt _ _ _ _ _ (@pa2 _ _ _ _ _ (pv 14) (pv 15) (by rfl)))
 case' h6=>refine' (@Zt _ _ _ _ _ (@pa2 _ _ _ _ _ Zp (pv 7) (by rfl)))
 case' h5=>refine' (Yr aY rfl (Nu rfl (bm B) (@pa2 _ _ _ _ _ (pv 9) (Zw ZX (pv 1) Zc) (by rfl))) (nmT 11 Zq.nd) (@Zj _ _ _ ?h4))
 case' h4=>refine' (Ja (J4 hr) (pv 6) ?h1 ?h3 rfl)
 case' h3=>refine' (@Zt _ _ _ _ _ (@Za _ _ _ _ _ (pv 7) (@pa3 _ _ _ _ _ _ _ ?h2 Z4 Zc (by rfl)) (by rfl)))
 case' h2=>refine' (@Zt _ _ _ _ _ (@pa2 _ _ _ _ _ (pv 8) (pv 11) (by rfl)))
 case' h1=>refine' (@Zt _ _ _ _ _ (@pa3 _ _ _ _ _ _ _ Zp (pv 7) (pv 11) (by rfl)))
 have n0:=ok.n0;have n1:=ok.n1;obtain⟨m1,m2,m3,m4⟩:=Xo ok;obtain⟨z1,z2,z3,z4⟩:=Jb ok;refine⟨_,rfl,pw,_,rfl,SqL.of tb.at_,rfl,_,_,rfl,_,_,rfl,_,_,rfl,_,_,rfl,_,_,rfl,rfl,λp hp=>?_⟩;have D0:Dc (upd H p (.dT [])) p []:=⟨[],Zb,Nat.le_refl _,⟨[],.nil,rfl⟩,trivial⟩;have S0:Zi p H (upd H p (.dT [])):=λc o e hc=>by rw[Zg hc];exact e
 generalize upd H p (.dT [])=H0 at D0 S0 ⊢;have nw:∀{c:Addr}{o:HO},H c=some o->c≠p:=λe=>Zf e hp;have rw4:∀{H':Hp},Zi p H H'->RowsAt b H' l4 T.t4:=λs=>tb.gr.keepB hp s;have rw3:∀{H':Hp},Zi p H H'->RowsAt b H' l3 T.t3:=λs=>tb.wy.keepB hp s;have rw2:∀{H':Hp},Zi p H H'->RowsAt b H' l2 T.t2:=λs=>tb.rd.keepB hp s;have rw1:∀{H':Hp},Zi p H H'->RowsAt b H' l1 T.t1:=λs=>tb.pl.keepB hp s;have DD:∀{H':Hp}{L:List Sx},Dc H' p L->Dc H' p (L++[]):=λh=>by rw[bo];exact h
 dsimp only[YI];refine tq λD1 hk1=>?_;refine⟨_,rfl,l4,rfl,⟨_,SqL.of (rw4 S0).2.choose_spec.1⟩,?_⟩;refine Y8 (J:=Itl K l4) T.t4.length (λi σ H'=>Zi p H H'/\Dc H' p ((T.t4.take i).flatMap (ZV T))/\∃o:Nat->Option V,σ=[some (.ref pw),some (.int T.n),some (.ref l1),some (.ref l2),some (.ref l3),some (.ref l4),some (.ref p),o 7,o 8,o 9,o 10,o 11,o 12,o 13,o 14,o 15,o 16,o 17,o 18,o 19]) ⟨S0,D0,shp rfl⟩ (λi σ H' hi q=>(rw4 q.1).go hi) (λσ H' q=>(rw4 q.1).stop) (λi σ H' x H2 hi q yl=>?_) (λσ H1 q=>?_)
 ·obtain⟨s1,dc,o,rfl⟩:=q;have e0:T.t4[i]?=some T.t4[i]:=gE hi;obtain⟨rfl,a,rfl,na,ha⟩:=(rw4 s1).item e0 yl;have hy:T.t4[i]∈T.t4:=aH hi;have le1:=Jl (f:=ZV T) (t:=T.t4) i;have le2:=Qn ok hy;rw[XF hi];generalize T.t4[i]=y at ha hy le2;obtain⟨a1,b1,c1,d1,rfl,ga,gb,c0,c2,_,_⟩:=Xf ok hy;refine⟨a,_,rfl,SqT.of ha,rfl,_,_,rfl,_,_,rfl,_,_,rfl,_,_,rfl,rfl,?_⟩;try dsimp only[gi]
  refine td λD'' hd'=>?_;refine⟨_,rfl,_,rfl,_,_,rfl,rfl,c1,T.n+1,rfl,⟨by omega,by omega,by omega,by omega⟩,?_⟩;refine Vp (lo:=c1) (n:=(T.n+1-c1).toNat) (λm σ' H'=>Zi p H H'/\Dc H' p ((T.t4.take i).flatMap (ZV T)++(ZV T [.str a1,.str b1,.int c1,.int d1]).take m)/\∃o:Nat->Option V,σ'=[some (.ref pw),some (.int T.n),some (.ref l1),some (.ref l2),some (.ref l3),some (.ref l4),some (.ref p),some (.str a1),some (.str b1),some (.int c1),some (.int d1),o 11,o 12,o 13,o 14,o 15,o 16,o 17,o 18,o 19]) ⟨s1,DD dc,shp rfl⟩ (λm σ' H' hm q=>?_) (λσ' H' q=>?_)
  ·obtain⟨s2,dc2,o,rfl⟩:=q;dsimp only[YI];refine td λD' hd=>?_;refine⟨_,rfl,_,rfl,_,rfl,zl,λq1 h1=>?_⟩;try dsimp only[tNil]
   refine nl2 h1 λH3 S3 e3=>?_;refine⟨zl,λq2 h2=>?_⟩;try dsimp only[tNil]
   refine nl2 h2 λH4 S4 e4=>?_;refine⟨_,rfl,_,rfl,_,rfl,zl,λq3 h3=>?_⟩;try dsimp only[tNil]
   have S35:=S3.trans S4;refine G4 h3 rfl (S:=outS [.str a1,.str b1,.int c1,.int d1] (c1+m)) hp (s2.trans (Zi.of S35)) (dc2.same S35) ?_ (.tup e4 (.cons (.str _) (.cons (.tup (S4 _ _ e3) (.cons (.str _) (.cons (.int _) .nil))) (.cons .non (.cons (.int _) .nil))))) λH6 s6 dc6=>hd _ _ ⟨s6,?_,shp rfl⟩
   ·rw[ax,aB];omega
   ·rw[show ZV T [.str a1,.str b1,.int c1,.int d1]=(aT (T.n+1-c1).toNat).map λ(m:Nat)=>outS [.str a1,.str b1,.int c1,.int d1] (c1+m)from rfl]at dc6 ⊢;rw[Y6 hm,<-bO];exact dc6
  ·obtain⟨s2,dc2,o,rfl⟩:=q;refine hd' _ _ ⟨s2,?_,shp rfl⟩;rw[show(ZV T [.str a1,.str b1,.int c1,.int d1]).take (T.n+1-c1).toNat=ZV T [.str a1,.str b1,.int c1,.int d1]from aV (by unfold ZV;rw[lm,b7];exact Nat.le_refl _)]at dc2;exact dc2
 obtain⟨s1,dc1,o,rfl⟩:=q;rw[aO]at dc1;refine hk1 _ _ ?_;refine tq λD2 hk2=>?_;refine⟨_,rfl,l2,rfl,⟨_,SqL.of (rw2 s1).2.choose_spec.1⟩,?_⟩;refine Y8 (J:=Itl K l2) T.t2.length (λi σ H'=>Zi p H H'/\Dc H' p (T.t4.flatMap (ZV T)++(T.t2.take i).map Xw)/\∃o:Nat->Option V,σ=[some (.ref pw),some (.int T.n),some (.ref l1),some (.ref l2),some (.ref l3),some (.ref l4),some (.ref p),o 7,o 8,o 9,o 10,o 11,o 12,o 13,o 14,o 15,o 16,o 17,o 18,o 19]) ⟨s1,DD dc1,shp rfl⟩ (λi σ H' hi q=>(rw2 q.1).go hi) (λσ H' q=>(rw2 q.1).stop) (λi σ H' x H2 hi q yl=>?_) (λσ H1 q=>?_)
 ·obtain⟨s2,dc,o,rfl⟩:=q;have e0:T.t2[i]?=some T.t2[i]:=gE hi;obtain⟨rfl,a,rfl,na,ha⟩:=(rw2 s2).item e0 yl;have hy:T.t2[i]∈T.t2:=aH hi;have le1:((T.t2.take i).map Xw).length<=80:=by rw[lm,aB];omega
  rw[map_take hi];generalize T.t2[i]=y at ha hy;obtain⟨a1,b1,d1,c1,e1,f1,rfl,_⟩:=Pk ok hy;refine⟨a,_,rfl,SqT.of ha,rfl,_,_,rfl,_,_,rfl,_,_,rfl,_,_,rfl,_,_,rfl,_,_,rfl,rfl,?_⟩;try dsimp only[gi]
  refine td λD'' hd'=>?_;refine⟨_,rfl,_,rfl,zl,λq1 h1=>?_⟩;try dsimp only[tNil]
  refine nl2 h1 λH3 S3 e3=>?_;refine⟨_,rfl,_,rfl,zl,λq2 h2=>?_⟩;try dsimp only[tNil]
  refine nl2 h2 λH4 S4 e4=>?_;refine⟨_,rfl,_,rfl,_,rfl,_,_,rfl,rfl,zl,λq3 h3=>?_⟩;try dsimp only[tNil]
  refine nl2 h3 λH5 S5 e5=>?_;refine⟨_,rfl,_,rfl,zl,λq4 h4=>?_⟩;try dsimp only[tNil]
  have S36:=(S3.trans S4).trans S5;refine G4 h4 rfl (S:=Xw [.str a1,.str b1,.int c1,.str d1,.int e1,.int f1]) hp (s2.trans (Zi.of S36)) (dc.same S36) (by rw[ax];omega) (.tup e5 (.cons (.tup (S5 _ _ (S4 _ _ e3)) (.cons (.str _) (.cons (.int _) .nil))) (.cons (.tup (S5 _ _ e4) (.cons (.str _) (.cons (.int _) .nil))) (.cons (.int _) (.cons (.int _) .nil))))) λH7 s7 dc7=>hd' _ _ ⟨s7,?_,shp rfl⟩;rw[<-bO];exact dc7
 obtain⟨s2,dc2,o,rfl⟩:=q;rw[aO]at dc2;refine hk2 _ _ ?_;refine tq λD3 hk3=>?_;refine⟨_,rfl,l3,rfl,⟨_,SqL.of (rw3 s2).2.choose_spec.1⟩,?_⟩;refine Y8 (J:=Itl K l3) T.t3.length (λi σ H'=>Zi p H H'/\Dc H' p ((T.t4.flatMap (ZV T)++T.t2.map Xw)++(T.t3.take i).flatMap (ZK T))/\∃o:Nat->Option V,σ=[some (.ref pw),some (.int T.n),some (.ref l1),some (.ref l2),some (.ref l3),some (.ref l4),some (.ref p),o 7,o 8,o 9,o 10,o 11,o 12,o 13,o 14,o 15,o 16,o 17,o 18,o 19]) ⟨s2,DD dc2,shp rfl⟩ (λi σ H' hi q=>(rw3 q.1).go hi) (λσ H' q=>(rw3 q.1).stop) (λi σ H' x H2 hi q yl=>?_) (λσ H1 q=>?_)
 ·obtain⟨s3,dc,o,rfl⟩:=q;have e0:T.t3[i]?=some T.t3[i]:=gE hi;obtain⟨rfl,a,rfl,na,ha⟩:=(rw3 s3).item e0 yl;have hy:T.t3[i]∈T.t3:=aH hi;have le1:=Jl (f:=ZK T) (t:=T.t3) i;have le2:=Nf ok hy;rw[XF hi];generalize T.t3[i]=y at ha hy le2;obtain⟨a1,b1,c1,d1,e1,rfl,_,_,_,c0,c2,_⟩:=Qi ok hy;refine⟨a,_,rfl,SqT.of ha,rfl,_,_,rfl,_,_,rfl,_,_,rfl,_,_,rfl,_,_,rfl,rfl,?_⟩;try dsimp only[gi]
  refine td λD'' hd'=>?_;refine⟨_,rfl,_,_,rfl,rfl,_,rfl,_,_,rfl,rfl,T.n+1-d1,rfl,by omega,by omega,?_⟩;refine Vp (lo:=0) (n:=(T.n+1-d1).toNat) (λm σ' H'=>Zi p H H'/\Dc H' p (((T.t4.flatMap (ZV T)++T.t2.map Xw)++(T.t3.take i).flatMap (ZK T))++(ZK T [.str a1,.str b1,.str c1,.int d1,.int e1]).take m)/\∃o:Nat->Option V,σ'=[some (.ref pw),some (.int T.n),some (.ref l1),some (.ref l2),some (.ref l3),some (.ref l4),some (.ref p),some (.str a1),o 8,o 9,o 10,o 11,some (.str b1),o 13,some (.str c1),o 15,o 16,some (.int d1),some (.int e1),o 19]) ⟨s3,DD dc,shp rfl⟩ (λm σ' H' hm q=>?_) (λσ' H' q=>?_)
  ·obtain⟨s4,dc4,o,rfl⟩:=q;dsimp only[YI];refine td λD' hd=>?_;refine⟨_,rfl,_,rfl,zl,λq1 h1=>?_⟩;try dsimp only[tNil]
   refine nl2 h1 λH3 S3 e3=>?_;refine⟨_,rfl,_,rfl,_,rfl,_,_,rfl,rfl,zl,λq2 h2=>?_⟩;try dsimp only[tNil]
   refine nl2 h2 λH4 S4 e4=>?_;refine⟨_,rfl,_,rfl,zl,λq3 h3=>?_⟩;try dsimp only[tNil]
   refine nl2 h3 λH5 S5 e5=>?_;refine⟨_,rfl,_,rfl,_,rfl,zl,λq4 h4=>?_⟩;try dsimp only[tNil]
   have S36:=(S3.trans S4).trans S5;refine G4 h4 rfl (S:=V1 [.str a1,.str b1,.str c1,.int d1,.int e1] (0+m)) hp (s4.trans (Zi.of S36)) (dc4.same S36) ?_ (.tup e5 (.cons (.tup (S5 _ _ (S4 _ _ e3)) (.cons (.str _) (.cons (.int _) .nil))) (.cons (.tup (S5 _ _ e4) (.cons (.str _) (.cons (.int _) .nil))) (.cons (.int _) (.cons (.int _) .nil))))) λH7 s7 dc7=>hd _ _ ⟨s7,?_,shp rfl⟩
   ·simp only[ax,aB];omega
   ·rw[show ZK T [.str a1,.str b1,.str c1,.int d1,.int e1]=(aT (T.n+1-d1).toNat).map λ(m:Nat)=>V1 [.str a1,.str b1,.str c1,.int d1,.int e1] (0+m)from rfl]at dc7 ⊢;rw[Y6 hm,<-bO];exact dc7
  ·obtain⟨s4,dc4,o,rfl⟩:=q;refine hd' _ _ ⟨s4,?_,shp rfl⟩;rw[show(ZK T [.str a1,.str b1,.str c1,.int d1,.int e1]).take (T.n+1-d1).toNat=ZK T [.str a1,.str b1,.str c1,.int d1,.int e1]from aV (by unfold ZK;rw[lm,b7];exact Nat.le_refl _)]at dc4;rw[<-bO];exact dc4
 obtain⟨s3,dc3,o,rfl⟩:=q;rw[aO]at dc3;refine hk3 _ _ ?_;refine tq λD4 hk4=>?_;refine⟨_,rfl,l1,rfl,⟨_,SqL.of (rw1 s3).2.choose_spec.1⟩,?_⟩;refine Y8 (J:=Itl K l1) T.t1.length (λi σ H'=>Zi p H H'/\Dc H' p ((T.t4.flatMap (ZV T)++T.t2.map Xw++T.t3.flatMap (ZK T))++(T.t1.take i).flatMap (ZH T))/\∃o:Nat->Option V,σ=[some (.ref pw),some (.int T.n),some (.ref l1),some (.ref l2),some (.ref l3),some (.ref l4),some (.ref p),o 7,o 8,o 9,o 10,o 11,o 12,o 13,o 14,o 15,o 16,o 17,o 18,o 19]) ⟨s3,DD dc3,shp rfl⟩ (λi σ H' hi q=>(rw1 q.1).go hi) (λσ H' q=>(rw1 q.1).stop) (λi σ H' x H2 hi q yl=>?_) (λσ H1 q=>?_)
 ·obtain⟨s4,dc,o,rfl⟩:=q;have e0:T.t1[i]?=some T.t1[i]:=gE hi;obtain⟨rfl,a,rfl,na,ha⟩:=(rw1 s4).item e0 yl;have hy:T.t1[i]∈T.t1:=aH hi;have le1:=Jl (f:=ZH T) (t:=T.t1) i;have le2:=Ng ok (y:=T.t1[i]);rw[XF hi];generalize T.t1[i]=y at ha hy le2;obtain⟨⟨z1,rr⟩,rfl,_,_⟩:=Xh ok hy;refine⟨a,_,rfl,SqT.of ha,rfl,_,_,rfl,_,_,rfl,rfl,?_⟩;try dsimp only[gi]
  refine td λD'' hd'=>?_;cases rr with
 |none=>refine⟨_,rfl,rfl,_,rfl,?_⟩;refine iteF ?_;refine hd' _ _ ⟨s4,?_,shp rfl⟩;rw[show ZH T (ZG (z1,none))=[]from if_pos rfl,bo];exact dc
 |some r1=>
   refine⟨_,rfl,rfl,_,rfl,?_⟩;refine iteT ?_;have ew:ZH T (ZG (z1,some r1))=(aT T.n.toNat).map λ(m:Nat)=>VC (ZG (z1,some r1)) (0+m):=if_neg (λz=>by cases z);refine⟨_,rfl,T.n,rfl,by omega,by omega,?_⟩;refine Vp (lo:=0) (n:=T.n.toNat) (λm σ' H'=>Zi p H H'/\Dc H' p (((T.t4.flatMap (ZV T)++T.t2.map Xw++T.t3.flatMap (ZK T))++(T.t1.take i).flatMap (ZH T))++(ZH T (ZG (z1,some r1))).take m)/\∃o:Nat->Option V,σ'=[some (.ref pw),some (.int T.n),some (.ref l1),some (.ref l2),some (.ref l3),some (.ref l4),some (.ref p),o 7,some (.str z1),o 9,o 10,o 11,o 12,o 13,o 14,o 15,o 16,o 17,o 18,some (.int r1)]) ⟨s4,DD dc,shp rfl⟩ (λm σ' H' hm q=>?_) (λσ' H' q=>?_)
   ·obtain⟨s5,dc5,o,rfl⟩:=q;dsimp only[YI];refine td λD' hd=>?_;refine⟨_,rfl,_,rfl,zl,λq1 h1=>?_⟩;try dsimp only[tNil]
    refine nl2 h1 λH3 S3 e3=>?_;refine⟨_,rfl,_,rfl,_,_,rfl,rfl,zl,λq2 h2=>?_⟩;try dsimp only[tNil]
    refine nl2 h2 λH4 S4 e4=>?_;refine⟨_,rfl,zl,λq3 h3=>?_⟩;try dsimp only[tNil]
    refine nl2 h3 λH5 S5 e5=>?_;refine⟨_,rfl,_,rfl,_,rfl,zl,λq4 h4=>?_⟩;try dsimp only[tNil]
    have S36:=(S3.trans S4).trans S5;refine G4 h4 rfl (S:=VC (ZG (z1,some r1)) (0+m)) hp (s5.trans (Zi.of S36)) (dc5.same S36) ?_ (.tup e5 (.cons (.tup (S5 _ _ (S4 _ _ e3)) (.cons (.str _) (.cons (.int _) .nil))) (.cons (.tup (S5 _ _ e4) (.cons (.str _) (.cons (.int _) .nil))) (.cons (.int _) (.cons (.int _) .nil))))) λH7 s7 dc7=>hd _ _ ⟨s7,?_,shp rfl⟩
    ·simp only[ax,aB];omega
    ·rw[ew]at dc7 ⊢;rw[Y6 hm,<-bO];exact dc7
   ·obtain⟨s5,dc5,o,rfl⟩:=q;refine hd' _ _ ⟨s5,?_,shp rfl⟩;rw[show(ZH T (ZG (z1,some r1))).take T.n.toNat=ZH T (ZG (z1,some r1))from aV (by rw[ew,lm,b7];exact Nat.le_refl _)]at dc5;rw[<-bO];exact dc5
 obtain⟨s4,dc4,o,rfl⟩:=q;rw[aO]at dc4;exact hk4 _ _ ⟨_,rfl,k H1 p (λc o e=>s4 c o e (nw e)) hp dc4⟩
end
def KNe(S S':Sx):Prop:=S.key≠S'.key
theorem Rr{f:Nat->Sx}{n:Nat}(h:∀a b:Nat,a<b->KNe (f a) (f b)):((aT n).map f).Pairwise KNe:=g7.mpr (List.Pairwise.imp (h _ _) List.pairwise_lt_range)
theorem SU{T:Tb}(o:OkTb T){j:Nat}(hj:isJ j){R:List V->List V->Prop}(h:∀a b,nameOf a≠nameOf b->R a b):(T.part j).Pairwise R:=List.Pairwise.imp (h _ _) (g7.mp (HL o hj))
theorem key2{a b:Str}{x y:Key}{l m:List Key}(h:a≠b\/x≠y):((.inr a:Key)::x::l)≠.inr b::y::m:=by
 intro e;injection e with e1 e2;injection e2 with e2 e3;injection e1 with e1;rcases h with h|h
 ·exact h e1
 ·exact h e2
theorem nmI{a b:Str}(h:a≠b):(.inr a:Key)≠.inr b:=λe=>by injection e with e;exact h e
theorem key3{a b:Str}{x y:Key}{i j:Int}(h:i≠j):([.inr a,x,.inl i]:List Key)≠[.inr b,y,.inl j]:=by intro e;injection e with e1 e2;injection e2 with e2 e3;injection e3 with e3 e4;injection e3 with e3;exact h e3
theorem Ud{T:Tb}{y:List V}{S:Sx}(h:S∈ZV T y):∃i,S=outS y i:=by obtain⟨m,_,rfl⟩:=av.mp h;exact⟨_,rfl⟩
theorem V0{T:Tb}{y:List V}{S:Sx}(h:S∈ZK T y):∃i,S=V1 y i:=by obtain⟨m,_,rfl⟩:=av.mp h;exact⟨_,rfl⟩
theorem Mi{T:Tb}{y:List V}{S:Sx}(h:S∈ZH T y):∃i,S=VC y i:=by
 unfold ZH at h;split at h
 ·cases h
 obtain⟨m,_,rfl⟩:=av.mp h;exact⟨_,rfl⟩
theorem Sv{T:Tb}(o:OkTb T):(allS T).Pairwise KNe:=by
 obtain⟨w1,w2,w3,w4,w5,w6⟩:=W6;unfold allS;rw[gj,gj,gj];refine⟨⟨⟨?_,?_,?_⟩,?_,?_⟩,?_,?_⟩
 ·refine f7.mpr ⟨λy hy=>Rr λa b h=>key3 (by omega),SU o (j:=4) (.inr (.inr (.inr rfl))) λa b h x hx y hy=>?_⟩;obtain⟨i,rfl⟩:=Ud hx;obtain⟨i',rfl⟩:=Ud hy;exact key2 (.inr (nmI h))
 ·exact g7.mpr (SU o (j:=2) (.inr (.inl rfl)) λa b h=>key2 (.inr (nmI h)))
 ·intro x hx z hz;obtain⟨y,hy,hx⟩:=dh.mp hx;obtain⟨y',hy',rfl⟩:=av.mp hz;obtain⟨i,rfl⟩:=Ud hx;exact key2 (.inl w4)
 ·refine f7.mpr ⟨λy hy=>Rr λa b h=>key3 (by omega),SU o (j:=3) (.inr (.inr (.inl rfl))) λa b h x hx y hy=>?_⟩;obtain⟨i,rfl⟩:=V0 hx;obtain⟨i',rfl⟩:=V0 hy;exact key2 (.inr (nmI h))
 ·intro x hx z hz;obtain⟨y',hy',hz⟩:=dh.mp hz;obtain⟨i',rfl⟩:=V0 hz;rcases aN.mp hx with hx|hx
  ·obtain⟨y,hy,hx⟩:=dh.mp hx;obtain⟨i,rfl⟩:=Ud hx;exact key2 (.inl w1)
  ·obtain⟨y,hy,rfl⟩:=av.mp hx;exact key2 (.inl w5.symm)
 ·refine f7.mpr ⟨λy hy=>?_,SU o (j:=1) (.inl rfl) λa b h x hx y hy=>?_⟩
  ·unfold ZH;split
   ·exact .nil
   ·exact Rr λa b h=>key3 (by omega)
  ·obtain⟨i,rfl⟩:=Mi hx;obtain⟨i',rfl⟩:=Mi hy;exact key2 (.inr (nmI h))
 ·intro x hx z hz;obtain⟨y',hy',hz⟩:=dh.mp hz;obtain⟨i',rfl⟩:=Mi hz;rcases aN.mp hx with hx|hx
  ·rcases aN.mp hx with hx|hx
   ·obtain⟨y,hy,hx⟩:=dh.mp hx;obtain⟨i,rfl⟩:=Ud hx;exact key2 (.inl w2)
   ·obtain⟨y,hy,rfl⟩:=av.mp hx;exact key2 (.inl w6.symm)
  ·obtain⟨y,hy,hx⟩:=dh.mp hx;obtain⟨i,rfl⟩:=V0 hx;exact key2 (.inl w3)
theorem Qj:∀(l:List (Sx×V))(acc:List (List Key×V)),l.Pairwise (λp q=>KNe p.1 q.1)->(∀p∈l,∀q∈acc,q.1≠p.1.key)->puts l acc=acc++l.map λp=>(p.1.key,p.2)
|[],acc,_,_=>by simp[puts]
|p::l,acc,h,n=>by
  have e:putK acc p.1.key p.2=acc++[(p.1.key,p.2)]:=by unfold putK;rw[if_neg];intro z;obtain⟨q,hq,z⟩:=h_.mp z;exact n p (by simp) q hq (of_decide_eq_true z)
  show puts l (putK acc p.1.key p.2)=_;cases h with
 |cons h1 h2=>
  rw[e,Qj l _ h2 λq hq r hr=>?_,bO]
  ·rfl
  ·rcases aN.mp hr with hr|hr
   ·exact n q (by simp[hq]) r hr
   ·rw[aU]at hr;subst hr;exact h1 q hq
theorem W3{H:Hp}:∀{vs:List V}{L:List Sx},cz (λv S=>Is H v (Xk S)) vs L->L.Pairwise KNe->(L.zip vs).Pairwise λp q=>KNe p.1 q.1
|_,_,.nil,_=>.nil
|_,_,.cons _ t,h=>by
  cases h with
 |cons h1 h2=>exact .cons (λq hq=>h1 q.1 (dH hq).1) (W3 t h2)
theorem W4{H:Hp}:∀{vs:List V}{L:List Sx},cz (λv S=>Is H v (Xk S)) vs L->cz (λ(kv:List Key×V)(S:Sx)=>kv.1=S.key/\Is H kv.2 (Xk S)) ((L.zip vs).map λp=>(p.1.key,p.2)) L
|_,_,.nil=>.nil
|_,_,.cons r t=>.cons ⟨rfl,r⟩ (W4 t)
theorem Dc.ord{H:Hp}{p:Addr}{L:List Sx}(d:Dc H p L)(h:L.Pairwise KNe):∃kvs,H p=some (.dT kvs)/\cz (λ(kv:List Key×V)(S:Sx)=>kv.1=S.key/\Is H kv.2 (Xk S)) kvs L:=by obtain⟨kvs,e,_,⟨vs,r,ek⟩,_⟩:=d;refine⟨_,e,?_⟩;rw[ek,Qj _ [] (W3 r h) (λ_ _ q hq=>nomatch hq),List.nil_append];exact W4 r
end SX
namespace L2
open PySem PySem.Spec PyProof.Rows
theorem Vu{X:Cx}:Y1 X (.builtin "isinstance") (λxs H Q=>∃x C t b,xs=[x,.ref C]/\TyOf X.K H x t/\aj X.K t (.ref C)=some b/\Q (.bl b) H):=by intro pins s σ H xs us Q I r h;obtain⟨x,c,t,b,rfl,ty,e,q⟩:=h;obtain⟨u,w',rfl,ru,rw'⟩:=vals2 r;cases rw';exact ND I ru ty e λtk=>⟨.bl b,H,I.tok tk,rfl,q⟩
end L2
namespace SX
open PySem L2 PySem.Spec PyProof.Rows TB WD
theorem Lz:GS "out"/\GS "ride"/\GS "walk"/\GS "wait"/\GS "step":=by decide +kernel
theorem YD{i:Int}(h0:-1000<=i)(h1:i<=1000):Atm (.int i):=.int (by omega)
structure Small(S:Sx):Prop where
 key:RowG (S.key.map kV)
 tell:Sm (Xk S) 2 200000
theorem VI{a b:V}(ha:Atm a)(hb:Atm b):Sm (.tuple [dF a,dF b]) 1 100:=by
 refine(SmAll.tup (ds:=[dF a,dF b]) (n:=2) (SmAll.of (k:=0) (m:=12) λd hd=>?_) (Nat.le_refl 2)).mono (by decide) (by decide);simp only[au,aG,or_false]at hd;rcases hd with rfl|rfl
 ·exact ha.sm
 ·exact hb.sm
theorem G9{a b c d:PyData}(ha:Sm a 1 100)(hb:Sm b 1 100)(hc:Sm c 0 12)(hd:Sm d 0 12):Sm (.tuple [a,b,c,d]) 2 200000:=by
 refine(SmAll.tup (ds:=[a,b,c,d]) (n:=4) (SmAll.of (k:=1) (m:=100) λe he=>?_) (Nat.le_refl 4)).mono (by decide) (by decide);simp only[au,aG,or_false]at he;rcases he with rfl|rfl|rfl|rfl
 ·exact ha
 ·exact hb
 ·exact hc.mono (by decide) (by decide)
 ·exact hd.mono (by decide) (by decide)
theorem Lq{ks:List Key}(hl:ks.length<=6)(h:∀k∈ks,Atm (kV k)):RowG (ks.map kV):=⟨by rw[lm];exact hl,λy hy=>by obtain⟨k,hk,rfl⟩:=av.mp hy;exact h k hk⟩
theorem U0{a b:Str}{i:Int}(ha:GS a)(hb:GS b)(hi:Atm (.int i)):RowG ([cD a,.inr b,.inl i].map kV):=Lq (Nat.le_of_ble_eq_true rfl) λk hk=>by
 simp only[au,aG,or_false]at hk;rcases hk with rfl|rfl|rfl
 ·exact .str ha
 ·exact .str hb
 ·exact hi
theorem Xv.small{T:Tb}(o:OkTb T){vs:List V}{j:Nat}{S:Sx}(h:Xv T vs j S):Small S:=by
 obtain⟨g1,g2,g3,g4,_⟩:=Lz;have n0:=o.n0;have n1:=o.n1;rcases h with⟨y,hy,i,e,h1,h2,_,rfl⟩|⟨y,hy,e,_,rfl⟩|⟨y,hy,i,e,h1,h2,_,rfl⟩|⟨y,hy,i,e,h0,h1,h2,_,rfl⟩
 ·obtain⟨a,b,c,d,rfl,ga,gb,c0,c1,_⟩:=Xf o hy;have hi:Atm (.int i):=YD (by have:c<=i:=h1;omega) (by omega);exact⟨U0 g1 ga hi,G9 ((Atm.str ga).sm.mono (by decide) (by decide)) (VI (.str gb) hi) Atm.non.sm (YD (i:=0) (by decide) (by decide)).sm⟩
 ·obtain⟨a,b,d,c,e',f,rfl,ga,gb,gd,c0,c1,c2,f0,f1⟩:=Pk o hy;refine⟨Lq (Nat.le_of_ble_eq_true rfl) λk hk=>?_,G9 (VI (.str gb) (YD (i:=c) (by omega) (by omega))) (VI (.str gd) (YD (i:=e') (by omega) (by omega))) (YD (i:=f) (by omega) (by omega)).sm (YD (i:=e'-c) (by omega) (by omega)).sm⟩;have hk:k∈[(cD "ride":Key),.inr a]:=hk;simp only[au,aG,or_false]at hk;rcases hk with rfl|rfl
  ·exact .str g2
  ·exact .str ga
 ·obtain⟨a,b,c,d,e',rfl,ga,gb,gc,d0,d1,e0,e1⟩:=Qi o hy;have h2':i<=T.n-d:=h2;have hi:Atm (.int i):=YD (by omega) (by omega);exact⟨U0 g3 ga hi,G9 (VI (.str gb) hi) (VI (.str gc) (YD (i:=i+d) (by omega) (by omega))) (YD (i:=e') (by omega) (by omega)).sm (YD (i:=d) (by omega) (by omega)).sm⟩
 ·obtain⟨⟨z,r⟩,rfl,gz,hr⟩:=Xh o hy;have hi:Atm (.int i):=YD (by omega) (by omega);refine⟨U0 g4 gz hi,G9 (VI (.str gz) hi) (VI (.str gz) (YD (i:=i+1) (by omega) (by omega))) ?_ (YD (i:=1) (by decide) (by decide)).sm⟩;cases r with
 |none=>exact Atm.non.sm
 |some r=>have:=hr r rfl;exact(YD (i:=r) (by omega) (by omega)).sm
structure STy(K:af)(mg:Str->Option Value)(Cs:Nat->Addr):Prop where
 ty:∀j,j<4->∀(H:Hp)(a dx:Addr)(fs:List (Str×V)),H a=some (.ins (Cs j) dx fs)->TyOf K H (.ref a) (.ref (Cs j))
 kk:∀i j,i<4->j<4->aj K (.ref (Cs j)) (.ref (Cs i))=some (decide (j=i))
 m0:mg "SetOut"=some (.ref (Cs 0))
 m1:mg "Ride"=some (.ref (Cs 1))
 m2:mg "Walk"=some (.ref (Cs 2))
 m3:mg "Wait"=some (.ref (Cs 3))
noncomputable def wd:List Str:=["out","ride","walk","wait"]
theorem Dq{T:Tb}{xs:List V}{j:Nat}{S:Sx}(h:Xv T xs j S):atI xs 0=some (.str (wd.getD j "")):=by rcases h with⟨y,_,i,rfl,_,_,rfl,_⟩|⟨y,_,rfl,rfl,_⟩|⟨y,_,i,rfl,_,_,rfl,_⟩|⟨y,_,i,rfl,_,_,_,rfl,_⟩<;>exact Zv (j:=0) rfl
theorem F7:∀i,i<4->∀j,j<4->decide (wd.getD j ""=wd.getD i "")=decide (j=i):=by decide +kernel
theorem bools(a b c d:Bool):bG (.list [.bool a,.bool b,.bool c,.bool d])=true/\PyData.eqv (.list [.bool a,.bool b,.bool c,.bool d]) (.list [.bool a,.bool b,.bool c,.bool d])=true:=by cases a<;>cases b<;>cases c<;>cases d<;>decide +kernel
noncomputable def KeyL(H:Hp):List V->List Sx->Prop:=cz λv S=>∃k:Addr,v=.ref k/\H k=some (.tup (S.key.map kV))
noncomputable def QE(L:List Sx):PyData:=.list (L.map λS=>rowD (S.key.map kV))
theorem KeyL.same{H H':Hp}{ks:List V}{L:List Sx}(s:Same H H')(h:KeyL H ks L):KeyL H' ks L:=Paired.mapP h λ_ _⟨k,e,q⟩=>⟨k,e,s _ _ q⟩
theorem KeyL.len{H:Hp}{ks:List V}{L:List Sx}(h:KeyL H ks L):ks.length=L.length:=bq h
theorem KeyL.all{H:Hp}{L:List Sx}(sm:∀S∈L,RowG (S.key.map kV)){ks:List V}(h:KeyL H ks L):IsAll H ks (L.map λS=>rowD (S.key.map kV)):=by
 induction h with
|nil=>exact .nil
|@cons v S vs L q t ih=>obtain⟨k,rfl,e⟩:=q;exact .cons (.tup e (NG (sm S (by simp)).2)) (ih λS' h'=>sm S' (by simp[h']))
theorem KeyL.is{H:Hp}{p:Addr}{ks:List V}{L:List Sx}(sm:∀S∈L,RowG (S.key.map kV))(e:H p=some (.lst ks))(h:KeyL H ks L):Is H (.ref p) (QE L):=.lst e (h.all sm)
theorem QD{L:List Sx}(sm:∀S∈L,RowG (S.key.map kV)):(QE L).canLay0=true:=by show PyData.canLayAll0 (L.map λS=>rowD (S.key.map kV))=true;refine G7 λd hd=>?_;obtain⟨S,hS,rfl⟩:=av.mp hd;exact DC (sm S hS)
theorem NN{k:Nat}:∀{ds:List PyData},(∀d∈ds,d.depth<=k)->PyData.depthAll ds<=k
|[],_=>Nat.zero_le _
|d::ds,h=>by show max _ _<=k;have h1:=h d az;have h2:=NN (ds:=ds) λx hx=>h x (aq _ hx);omega
theorem YN{L:List Sx}(sm:∀S∈L,RowG (S.key.map kV)):bG (QE L)=true:=by
 unfold bG;rw[QD sm,Bool.true_and];refine decide_eq_true ?_;show PyData.depthAll (L.map λS=>rowD (S.key.map kV))+1<=64;have:=NN (k:=1) (ds:=L.map λS=>rowD (S.key.map kV)) λd hd=>by obtain⟨S,hS,rfl⟩:=av.mp hd;exact(ES (sm S hS)).dp
 omega
theorem keys_eq{L:List Sx}(sm:∀S∈L,RowG (S.key.map kV)):PyData.eqv (QE L) (QE L)=true:=SeqAt.eqv_refl _ (QD sm)
theorem GH{T:Tb}(o:OkTb T):∀S∈allS T,RowG (S.key.map kV):=λS hS=>by obtain⟨j,is⟩:=MU o hS;exact(is.small o).key
theorem Md{T:Tb}(ok:OkTb T):(allS T).length<=18200:=by have h:=Jb ok;unfold allS;simp only[ax];omega
def Ri(Cs:Nat->Addr):Sp:=λvs H Q _=>∃(l:Addr)(T:Tb)(us:List V)(L:List Sx),vs=[.ref l]/\H l=some (.lst us)/\StL H Cs T us L/\L.length<=18200 /\∀H' p ks,Same H H'->H p=none->H' p=some (.lst ks)->KeyL H' ks L->Q (.ref p) H'
section
variable {P:Program}{w:World}{K:af}{mg:Str->Option Value}{base:Heap}{Cs:Nat->Addr}
theorem X7:FnScope ["_law_steps_here","_law_found","_law_step","_law_kinds"] ["_law_steps_here"] (Ze T.f__law_keys):=scO
noncomputable def VH:Scope:=csx [(".0",.local),("_law_word",.local),("_law_step",.free)]
theorem Gv:CompScope VH (Ze T.f__law_keys):=⟨rfl,by decide +kernel,by decide +kernel,by decide +kernel⟩
theorem Gx:(["_law_word","_law_step"]:List Str).Nodup:=by decide +kernel
theorem Gw:CompNames ["_law_steps_here","_law_found","_law_step","_law_kinds"] VH ["_law_word","_law_step"] [none,some 2]:=.mk' (by decide +kernel)
theorem LX(B:∀x∈Blts,mg x=none)(ZS:∀j,j<4->SCl K (Cs j))(Y:STy K mg Cs)(CK:∀j,j<4->CanM P w K mg base CX0 1 (Cs j) "key" ["self"] (Nr K "its_key"))(D:Df K mg "_law_keys" T.f__law_keys ["_law_steps_here"]):Can P w K mg base 2 "_law_keys" ["_law_steps_here"] (Ri Cs):=by
 refine D.cn X7 λf cdv A outer s H vs Q E hr h=>?_;obtain⟨l,T,us,L,rfl,hl,sl,lM,kq⟩:=h;refine' ⟨_,(@Zd _ _ _ _ _ ?h8 (@Zd _ _ _ _ _ ?h9 (@Zj _ _ _ ?h10))),?rd⟩;case' h10=>refine' (Zn (pv 1))
 case' h9=>refine' (Yr aY rfl (Ym (pv 0)) (JA (i:=2) X7.nd rfl (dX rfl)) (@Zd _ _ _ _ _ ?h5 (@Zd _ _ _ _ _ ?h6 (@Zj _ _ _ ?h7))))
 case' h8=>refine' (@st _ _ _ _ 1 _ _ X7.nd ?h1 (by rfl) (by exact bh rfl) (by rfl) (by exact .inl rfl))
 case' h7=>refine' (ZF (JW aR cu cq XE (pv 1) (@pa1 _ _ _ (Td λj hj=>Xm (CK j hj) (ZS j hj).cl Yk hr.m (pv 2)) (by rfl))))
 case' h6=>refine' (@ZZ _ _ _ _ _ _ _ _ (@ZD _ _ _ _ _ _ _ _ (U9 hr.units) (pv 3) (YJ rfl Gv Gw (Ym ?h3) (λC s H ex pn=>(nmT 0 Gx)) (λC s H ex pn=>Z9) (λC s H ex pn=>(YC Jp (it K (Td λj hj=>Xm (CK j hj) (ZS j hj).cl Yk hr.m (pv 1)) Zc) (pv 0) (ZC _)))) (ZC _)) (@Zj _ _ _ ?h4) Zx)
 case' h5=>refine' (@st _ _ _ _ 3 _ _ X7.nd ?h2 (by rfl) (by exact bh rfl) (by rfl) (by exact .inl rfl))
 case' h4=>refine' (ZF (JW aR cu cq XE (pv 1) (@pa1 _ _ _ Z4 (by rfl))))
 case' h3=>refine' (@ZA _ _ _ _ (@Za _ _ _ _ _ Zp (@pa3 _ _ _ _ _ _ _ Zp Zp Zp (by rfl)) (by rfl)))
 case' h2=>refine' (@ZA _ _ _ _ (@Za _ _ _ _ _ (ZO Vu rfl (bm B) bK (@pa2 _ _ _ _ _ (pv 2) (ZQ (v:=.ref (Cs 0)) rfl Y.m0 rfl) (by rfl))) (@pa3 _ _ _ _ _ _ _ (ZO Vu rfl (bm B) bK (@pa2 _ _ _ _ _ (pv 2) (ZQ (v:=.ref (Cs 1)) rfl Y.m1 rfl) (by rfl))) (ZO Vu rfl (bm B) bK (@pa2 _ _ _ _ _ (pv 2) (ZQ (v:=.ref (Cs 2)) rfl Y.m2 rfl) (by rfl))) (ZO Vu rfl (bm B) bK (@pa2 _ _ _ _ _ (pv 2) (ZQ (v:=.ref (Cs 3)) rfl Y.m3 rfl) (by rfl))) (by rfl)) (by rfl)))
 case' h1=>refine' (@ZA _ _ _ _ Zh)
 refine⟨zl,λp hp=>?_⟩;have e0:upd H p (.lst []) p=some (.lst []):=Zb;have S0:Zi p H (upd H p (.lst [])):=(Zi.refl p H).new' hp;generalize upd H p (.lst [])=H0 at e0 S0 ⊢;have llen:=sl.len;refine⟨_,rfl,l,rfl,⟨us,SqL.of (S0 _ _ hl (Zf hl hp))⟩,?_⟩;refine Uj (K:=K) (a:=l) (xs:=us) (λi σ H'=>Zi p H H'/\∃ks o2 o3,H' p=some (.lst ks)/\KeyL H' ks (L.take i)/\σ=[some (.ref l),some (.ref p),o2,o3]) ⟨S0,[],_,_,e0,.nil,rfl⟩ (λi σ H' _ q=>SqL.of (q.1 _ _ hl (Zf hl hp))) (λi v σ H' hi q=>?_) (λσ H' q=>?_)
 ·obtain⟨s1,ks,o2,o3,ep,kl,rfl⟩:=q;have hlt:i<us.length:=(aw.mp hi).1;have hS:L[i]?=some (L[i]'(by omega)):=gE (by omega);obtain⟨y,j,rfl,st,is⟩:=YG sl hi hS;rw[show L.take (i+1)=L.take i++[L[i]'(by omega)] by rw[bE,hS];rfl];have klen:ks.length<=18200:=by rw[kl.len,aB];omega
  generalize L[i]'(by omega)=S at st is;generalize L.take i=M at kl ⊢;have hj:=is.key.2;obtain⟨dy,ky,vt,vh,h1,h2,_,_,f1,_⟩:=Mn st;have y1:=s1 _ _ h1 (Zf h1 hp);have k1:=s1 _ _ h2 (Zf h2 hp);have ty:TyOf K H' (.ref y) (.ref (Cs j)):=Y.ty j hj _ _ _ _ y1;dsimp only[YI];refine td λD' hdd=>?_;refine tq λD'' hkk=>?_;refine⟨_,rfl,_,Cs 0,.ref (Cs j),_,rfl,ty,Y.kk 0 j (by decide) hj,_,rfl,_,Cs 1,.ref (Cs j),_,rfl,ty,Y.kk 1 j (by decide) hj,_,rfl,_,Cs 2,.ref (Cs j),_,rfl,ty,Y.kk 2 j (by decide) hj,_,rfl,_,Cs 3,.ref (Cs j),_,rfl,ty,Y.kk 3 j (by decide) hj,zl,λc hc=>?_⟩;try dsimp only[tNil]
  refine nl2 hc λH2 S2 e2=>?_;refine hkk _ _ ?_;refine⟨_,rfl,zl,λc2 hc2=>?_⟩;try dsimp only[tNil]
  have S3:=sameNew (o:=.lst [.str "out",.str "ride",.str "walk",.str "wait"]) (Same.refl H2) hc2;have e3:upd H2 c2 (.lst [.str "out",.str "ride",.str "walk",.str "wait"]) c2=some (.lst [.str "out",.str "ride",.str "walk",.str "wait"]):=Zb;generalize upd H2 c2 (.lst [.str "out",.str "ride",.str "walk",.str "wait"])=H3 at S3 e3 ⊢;have S13:=S2.trans S3;have y3:=S13 _ _ y1;have k3:=S13 _ _ k1;have at0:=Dq is;refine⟨c2,rfl,⟨_,SqL.of e3⟩,?_⟩;refine ZY (J:=Itl K c2) 4 (by decide) (λi us τ H'=>H'=H3/\us=((aT 4).take i).map (λn=>V.bl (decide (j=n)))/\∃v,τ=[v,some (.ref y)]) ⟨rfl,rfl,none,rfl⟩ (λi us τ H' p=>by rw[p.2.1,lm,aB];omega) (λi us τ H' hi p=>?_) (λus τ H' p=>?_) (λi us τ H' x H4 hi p yl=>?_) (λus τ H' p c3 hc3=>?_)
  ·obtain⟨rfl,_⟩:=p;exact⟨_,_,SqL.of e3,gE (by exact hi)⟩
  ·obtain⟨rfl,_⟩:=p;exact⟨_,SqL.of e3,Nat.le_refl _⟩
  ·obtain⟨rfl,rfl,v,rfl⟩:=p;obtain⟨rfl,hy⟩:=yl;have hx:=hy _ (SqL.of e3);have hx:x=.str (wd.getD i ""):=by have:([V.str "out",.str "ride",.str "walk",.str "wait"]:List V)[i]?=some x:=hx;rcases(by omega:i=0\/i=1\/i=2\/i=3)with rfl|rfl|rfl|rfl<;>(cases this;rfl)
   subst hx;refine⟨j,hj,_,rfl,y,dy,_,rfl,y3,rfl,y,Cs j,dy,_,_,rfl,ZS j hj,y3,f1,ky,_,0,_,rfl,rfl,SqT.of k3,at0,_,rfl,rfl,rfl,?_,_,rfl⟩;rw[bE,List.getElem?_range hi,a8];have:decide (V.str (wd.getD j "")=V.str (wd.getD i ""))=decide (j=i):=by
    rw[<-F7 i hi j hj];by_cases q:wd.getD j ""=wd.getD i ""
    ·rw[q,decide_eq_true rfl,decide_eq_true rfl]
    ·rw[decide_eq_false q,decide_eq_false (λz=>q (by injection z))]
   rw[this];rfl
  obtain⟨rfl,rfl,v,rfl⟩:=p;rw[show((aT 4).take 4).map (λn=>V.bl (decide (j=n)))=[V.bl (decide (j=0)),.bl (decide (j=1)),.bl (decide (j=2)),.bl (decide (j=3))]from rfl];refine nl2 hc3 λH4 S4 e4=>?_;have S24:=S3.trans S4;have S14:=S13.trans S4;have bb:=bools (decide (j=0)) (decide (j=1)) (decide (j=2)) (decide (j=3));refine⟨_,_,.lst (S24 _ _ e2) (.cons (.bl _) (.cons (.bl _) (.cons (.bl _) (.cons (.bl _) .nil)))),.lst e4 (.cons (.bl _) (.cons (.bl _) (.cons (.bl _) (.cons (.bl _) .nil)))),bb.1,bb.1,_,rfl,?_⟩;rw[bb.2];refine iteF ?_;have y4:=S14 _ _ y1;refine⟨_,rfl,.inl ⟨rfl,_,SqL.of (S14 _ _ ep)⟩,j,hj,_,rfl,y,dy,_,rfl,y4,rfl,y,Cs j,dy,_,_,rfl,ZS j hj,y4,f1,p,ks,_,rfl,rfl,S14 _ _ ep,Nat.lt_of_le_of_lt klen (by decide),?_⟩;have fin:∀c o,H4 c=some o->c≠p->upd H4 p (.lst (ks++[.ref ky])) c=some o:=λc o e hc=>by rw[Zg hc];exact e
  have tp:∀{c:Addr}{xs:List V},H4 c=some (.tup xs)->c≠p:=λe=>ne_of e (S14 _ _ ep) (λz=>nomatch z);refine hdd _ _ ⟨λc o e hc=>fin _ _ (S14 _ _ (s1 _ _ e hc)) hc,_,_,_,Zb,ft (Paired.mapP (kl.same S14) λ_ _⟨k,e,q⟩=>⟨k,e,fin _ _ q (tp q)⟩) ⟨ky,rfl,fin _ _ (S14 _ _ k1) (tp (S14 _ _ k1))⟩,rfl⟩
 ·obtain⟨s1,ks,o2,o3,ep,kl,rfl⟩:=q;rw[llen,aO]at kl;exact⟨_,rfl,kq _ p ks (λc o e=>s1 _ _ e (Zf e hp)) hp ep kl⟩
end
theorem Lf{d e:PyData}(n:NL d)(m:NL e):PyData.eqv d e=decide (ZL d=ZL e):=by rcases n with⟨a,rfl⟩|⟨a,i,rfl⟩<;>rcases m with⟨b,rfl⟩|⟨b,j,rfl⟩<;>simp[PyData.eqv,PyData.eqvAll,ZL,Bool.beq_eq_decide_eq]
theorem SE{z:Str}(h:GS z):(PyData.str z).canLay0=true:=(Atm.str h).lay
theorem Ti{z:Str}(h:GS z):bG (.str z)=true:=by unfold bG;rw[SE h];rfl
theorem Jd{z:Str}{i:Int}(h:GS z):bG (.tuple [.str z,.int i])=true:=by
 unfold bG;have e:(PyData.tuple [.str z,.int i]).canLay0=true:=G7 (ds:=[.str z,.int i]) λd hd=>by
  simp only[au,aG,or_false]at hd;rcases hd with rfl|rfl
  ·exact SE h
  ·rfl
 rw[e];rfl
theorem Kj{T:Tb}(o:OkTb T){vs:List V}{j:Nat}{S:Sx}(h:Xv T vs j S):bG S.tail=true/\bG S.head=true:=by
 rcases h with⟨y,hy,i,e,h1,h2,_,rfl⟩|⟨y,hy,e,_,rfl⟩|⟨y,hy,i,e,h1,h2,_,rfl⟩|⟨y,hy,i,e,h0,h1,h2,_,rfl⟩
 ·obtain⟨a,b,c,d,rfl,ga,gb,c0,c1,_⟩:=Xf o hy;exact⟨Ti ga,Jd gb⟩
 ·obtain⟨a,b,d,c,e',f,rfl,ga,gb,gd,c0,c1,c2,f0,f1⟩:=Pk o hy;exact⟨Jd gb,Jd gd⟩
 ·obtain⟨a,b,c,d,e',rfl,ga,gb,gc,d0,d1,e0,e1⟩:=Qi o hy;exact⟨Jd gb,Jd gc⟩
 ·obtain⟨⟨z,r⟩,rfl,gz,hr⟩:=Xh o hy;exact⟨Jd gz,Jd gz⟩
theorem Lg{T:Tb}(o:OkTb T){H:Hp}{y:V}(h:Nd T H y):∃d,NL d/\Is H y d/\bG d=true:=by
 rcases h with⟨a,xs,rfl,ha,g,hg,i,rfl,_⟩|⟨g,hg,rfl⟩
 ·obtain⟨⟨z,r⟩,rfl,gz,hr⟩:=Xh o hg;exact⟨.tuple [.str z,.int i],.inr ⟨_,_,rfl⟩,.tup ha (.cons (.str _) (.cons (.int _) .nil)),Jd gz⟩
 ·obtain⟨a,b,c,d,rfl,ga,gb,c0,c1,_⟩:=Xf o hg;exact⟨.str a,.inl ⟨_,rfl⟩,.str _,Ti ga⟩
noncomputable def nodeF(f:Sx->PyData)(d:PyData)(S:Sx):Bool:=decide (ZL (f S)=ZL d)
theorem SR{H:Hp}{Cs:Nat->Addr}{T:Tb}{f:Sx->PyData}{d:PyData}{us:List V}{L:List Sx}(h:StL H Cs T us L):StL H Cs T (selV f (ZL d) us L) (L.filter (nodeF f d)):=by
 induction h with
|nil=>exact .nil
|@cons v S vs L q t ih=>
  have e:selV f (ZL d) (v::vs) (S::L)=(if ZL (f S)=ZL d then[v]else[])++selV f (ZL d) vs L:=by
   unfold selV;rw[dY,List.filter_cons];by_cases z:ZL (f S)=ZL d
   ·rw[if_pos (by simpa using z),if_pos z];rfl
   ·rw[if_neg (by simpa using z),if_neg z];rfl
  rw[e,List.filter_cons];unfold nodeF;by_cases z:ZL (f S)=ZL d
  ·rw[if_pos z,if_pos (by simpa using z)];exact .cons q ih
  ·rw[if_neg z,if_neg (by simpa using z)];exact ih
theorem VP{H H':Hp}{l:Addr}{o:HO}(s:Same H H')(hl:H l=none):Same H (upd H' l o):=λc u e=>by rw[Zg (Zf e hl)];exact s _ _ e
theorem Dm{H:Hp}{v:V}{S:Sx}(h:Is H v (Xk S)):∃a xs v0 v1,v=.ref a/\H a=some (.tup xs)/\atI xs 0=some v0/\atI xs 1=some v1/\Is H v0 S.tail/\Is H v1 S.head:=by
 unfold Xk at h;cases h with
|@tup a xs _ e r=>
  cases r with
 |cons h1 r=>
  cases r with
 |cons h2 r=>exact⟨a,_,_,_,rfl,e,Zv (j:=0) rfl,Zv (j:=1) rfl,h1,h2⟩
theorem Qq{K:af}{Hf:Hp}{d:Addr}{ob:Obj}{kvs:List (List Key×V)}{T:Tb}{f:Sx->PyData}{ix:Int}{y:V}{dd:PyData}{R:List V->Hp->Prop}{τ0:L2.St}(o:OkTb T)(hd:Hf d=some (.frz ob (.dT kvs)))(pr:cz (λ(kv:List Key×V)(S:Sx)=>kv.1=S.key/\Is Hf kv.2 (Xk S)) kvs (allS T))(hy:Is Hf y dd)(nd:NL dd)(shp:bG dd=true)(hix:(ix=0/\f=Sx.tail)\/(ix=1/\f=Sx.head))(ht:τ0=[none,none,some y])(hR:∀ys H',Same Hf H'->KeyL H' ys ((allS T).filter (nodeF f dd))->R ys H'):∃W:Nat->Nat->List V->L2.St->Hp->Prop,(∃m,W 0 m [] τ0 Hf)/\∀i m ys τ H,W i m ys τ H ->((Iti d ob kvs).stop i H/\R ys H) \/((Iti d ob kvs).go i H/\ys.length<sizeLine/\∃N:List V->L2.St->Hp->Prop,(∀ys' τ' H',N ys' τ' H'->∃m',m'<m/\W (i+1) m' ys' τ' H') /\∀x H',(Iti d ob kvs).yld i H x H'->(gTup K 2 (LB (YI 0) (LB (YI 1) gNil))) x τ H' λτ2 H2=>(Ke (tOp rEqD (tOp (rIxT K) (tVar 1) (tC (V.int ix))) (tVar 2))) τ2 H2 λb H3=>if b=true then(tVar 0) τ2 H3 λy H4=>N (ys++[y]) τ2 H4 else N ys τ2 H3):=by
 have hlen:=bq pr;have hmax:=Md o;refine Ma (J:=Iti d ob kvs) kvs.length (Nat.le_trans (by omega:_<=18200) (by decide)) (λi ys τ H'=>Same Hf H'/\KeyL H' ys (((allS T).take i).filter (nodeF f dd))/\∃o1 o2,τ=[o1,o2,some y]) ⟨Same.refl _,.nil,_,_,ht⟩ (λi ys τ H' q=>?_) (λi ys τ H' hi q=>⟨hi,q.1 _ _ hd⟩) (λys τ H' q=>⟨rfl,q.1 _ _ hd⟩) (λi ys τ H' x H2 hi q yl=>?_) (λys τ H' q=>?_)
 ·rw[q.2.1.len];exact Nat.le_trans (bQ _ _) (by rw[aB];exact Nat.min_le_left _ _)
 ·obtain⟨s1,kl,o1,o2,rfl⟩:=q;obtain⟨t,b,kv,ht',hkv,hb,rfl,rfl⟩:=yl;have hi':i<(allS T).length:=by omega
  obtain⟨ek,iv⟩:=YG pr hkv (gE hi');have hmem:(allS T)[i]∈allS T:=aH hi';obtain⟨j,is⟩:=MU o hmem;rw[bE,gE hi',gS];generalize (allS T)[i]=S at ek iv is;have hb2:H' b=some (.tup (S.key.map kV)):=by rw[<-ek];exact hb
  refine nl2 ht' λH2 S2 e2=>?_;have S02:=s1.trans S2;obtain⟨a,xs,v0,v1,ev,ha,at0,at1,i0,i1⟩:=Dm (iv.same S02);rw[ev]at e2;refine⟨t,_,rfl,SqT.of e2,rfl,_,_,rfl,_,_,rfl,rfl,?_⟩;obtain⟨sh1,sh2⟩:=Kj o is;obtain⟨n1,n2⟩:=Jq is;have fin:∀(r:Bool),r=nodeF f dd S->if r=true then(tVar 0) [some (.ref b),some (.ref a),some y] H2 (λy_1 H4=>Same Hf H4/\KeyL H4 (ys++[y_1]) (((allS T).take i).filter (nodeF f dd)++(some S).toList.filter (nodeF f dd))/\∃o1 o2,([some (.ref b),some (.ref a),some y]:L2.St)=[o1,o2,some y])else(Same Hf H2/\KeyL H2 ys (((allS T).take i).filter (nodeF f dd)++(some S).toList.filter (nodeF f dd))/\∃o1 o2,([some (.ref b),some (.ref a),some y]:L2.St)=[o1,o2,some y]):=λr er=>by
   subst er;cases hq:nodeF f dd S with
  |true=>rw[if_pos rfl,show(some S).toList.filter (nodeF f dd)=[S] by simp[hq]];exact⟨_,rfl,S02,ft (kl.same S2) ⟨b,rfl,S2 _ _ hb2⟩,_,_,rfl⟩
  |false=>rw[if_neg (by decide),show(some S).toList.filter (nodeF f dd)=[] by simp[hq],bo];exact⟨S02,kl.same S2,_,_,rfl⟩
  rcases hix with⟨rfl,rfl⟩|⟨rfl,rfl⟩
  ·refine⟨_,rfl,a,xs,0,v0,rfl,rfl,SqT.of ha,at0,_,rfl,_,_,i0,hy.same S02,sh1,shp,_,rfl,?_⟩;exact fin _ (Lf n1 nd)
  ·refine⟨_,rfl,a,xs,1,v1,rfl,rfl,SqT.of ha,at1,_,rfl,_,_,i1,hy.same S02,sh2,shp,_,rfl,?_⟩;exact fin _ (Lf n2 nd)
 ·obtain⟨s1,kl,_⟩:=q;rw[hlen,aO]at kl;exact hR ys H' s1 kl
theorem Nj{H Hf H1:Hp}{d l:Addr}{ob:Obj}{kvs:List (List Key×V)}{ys:List V}{L:List Sx}{G:Hp->Prop}(ed:H d=some (.dT kvs))(ef:Hf d=some (.frz ob (.dT kvs)))(sb:Zi d H Hf)(S1:Same Hf H1)(hl:H1 l=none)(kl:KeyL H1 ys L)(k:∀H',Same H H'->H l=none->H' l=some (.lst ys)->KeyL H' ys L->G H'):G (upd (upd H1 l (.lst ys)) d (.dT kvs)):=by
 have e1:=S1 _ _ ef;have nl:l≠d:=λz=>by rw[z,e1]at hl;cases hl
 refine k _ (λc o e=>?_) ?_ ?_ (Paired.mapP kl λ_ _⟨k,e,q⟩=>⟨k,e,?_⟩)
 ·by_cases hc:c=d
  ·subst hc;rw[ed]at e;cases e;exact Zb
  ·have:=S1 _ _ (sb c o e hc);rw[Zg hc,Zg (Zf this hl)];exact this
 ·cases hz:H l with
 |none=>rfl
 |some o=>rw[S1 _ _ (sb l o hz nl)]at hl;cases hl
 ·rw[Zg nl];exact Zb
 ·rw[Zg (ne_of q e1 (λz=>nomatch z)),Zg (Zf q hl)];exact q
theorem Ln{H:Hp}{y:V}:∀{k k':MK},KyM H k y->KyM H k' y->k=k'
|.inl a,.inl b,h,h'=>by rw[Lr ((show y=kV a from h).symm.trans h')]
|.inl a,.inr b,h,h'=>by obtain⟨c,e,_⟩:=h';have h:y=kV a:=h;rw[e]at h;rcases a with a|a<;>cases h
|.inr a,.inl b,h,h'=>by obtain⟨c,e,_⟩:=h;have h':y=kV b:=h';rw[e]at h';rcases b with b|b<;>cases h'
|.inr a,.inr b,⟨c,e,h⟩,⟨c',e',h'⟩=>by subst e;cases e';rw[h]at h';injection h' with h';injection h' with h';rw[Tv h']
theorem kt_s{K:af}:aj K (.type "str") (.type "tuple")=some false:=by kernel_rfl
theorem Lp{K:af}:aj K (.type "list") (.type "list")=some true:=by kernel_rfl
theorem Nd.same{T:Tb}{H H':Hp}{y:V}(s:Same H H')(h:Nd T H y):Nd T H' y:=by
 rcases h with⟨a,xs,rfl,ha,r⟩|h
 ·exact .inl ⟨a,xs,rfl,s _ _ ha,r⟩
 ·exact .inr h
theorem Pz{z:Str}(h:GS z):z.length<=1000:=Nat.le_trans h.1 (by decide)
theorem Nd.ask{K:af}{T:Tb}(o:OkTb T){H:Hp}{y:V}(h:Nd T H y):Askd K H y:=by
 rcases h with⟨a,xs,rfl,ha,g,hg,i,rfl,r⟩|⟨g,hg,rfl⟩
 ·obtain⟨⟨z,r⟩,rfl,gz,hr⟩:=Xh o hg;refine⟨⟨_,.tup ha⟩,.inr ⟨a,_,rfl,ha,Nat.le_of_ble_eq_true rfl,λv hv=>?_⟩⟩;simp only[au,aG,or_false]at hv;rcases hv with rfl|rfl
  ·exact⟨_,.str _ (Pz gz)⟩
  ·exact⟨_,.int _⟩
 ·obtain⟨a,b,c,d,rfl,ga,gb,c0,c1,_⟩:=Xf o hg;exact⟨⟨_,.str _ (Pz ga)⟩,.inl ⟨⟨_,.str _,kt_s⟩,λa xs e=>by cases e⟩⟩
def P4(P:Program)(w:World)(Cw C:Addr)(Cs:Nat->Addr):Sp:=λvs H Q _=>∃(x d:Addr)(y:V)(T:Tb),vs=[.ref x,.ref d,y]/\Wb P w H Cw C Cs x T/\OkTb T/\Dc H d (allS T)/\Nd T H y /\∀H',Same H H'->Q (.bl true) H'
section
variable {P:Program}{w:World}{K:af}{mg:Str->Option Value}{base:Heap}{Cw C Cn:Addr}{Cs:Nat->Addr}
theorem Yt:FnScope ["_law_web","_law_steps_here","_law_node","_law_out","_law_back","_law_turn","_law_found"] ["_law_web","_law_steps_here","_law_node"] (Ze T.f__law_of_node):=scO
noncomputable def Xa:Scope:=csx [(".0",.local),("_law_key",.local),("_law_step",.local),("_law_node",.free)]
theorem VA:CompScope Xa (Ze T.f__law_of_node):=⟨rfl,by decide +kernel,by decide +kernel,by decide +kernel⟩
theorem Xy:(["_law_key","_law_step","_law_node"]:List Str).Nodup:=by decide +kernel
theorem VB:CompNames ["_law_web","_law_steps_here","_law_node","_law_out","_law_back","_law_turn","_law_found"] Xa ["_law_key","_law_step","_law_node"] [none,none,some 2]:=.mk' (by decide +kernel)
noncomputable def Y9:Scope:=csx [(".0",.local),("_law_key",.local),("_law_step",.local),("_law_node",.free)]
theorem Vy:CompScope Y9 (Ze T.f__law_of_node):=⟨rfl,by decide +kernel,by decide +kernel,by decide +kernel⟩
theorem Xx:(["_law_key","_law_step","_law_node"]:List Str).Nodup:=by decide +kernel
theorem Vz:CompNames ["_law_web","_law_steps_here","_law_node","_law_out","_law_back","_law_turn","_law_found"] Y9 ["_law_key","_law_step","_law_node"] [none,none,some 2]:=.mk' (by decide +kernel)
theorem RY(B:∀x∈Blts,mg x=none)(Z:WCl K Cw)(CI:CanM P w K mg base (CX1 P w) 7 Cw "leading_in" ["self","node"] (JR P w K Cw C Cn Cs Sx.head))(CO:CanM P w K mg base (CX1 P w) 7 Cw "leading_out" ["self","node"] (JR P w K Cw C Cn Cs Sx.tail))(CK:Can P w K mg base 2 "_law_keys" ["_law_steps_here"] (Ri Cs))(D:Df K mg "_law_of_node" T.f__law_of_node ["_law_web","_law_steps_here","_law_node"]):Can P w K mg base 8 "_law_of_node" ["_law_web","_law_steps_here","_law_node"] (P4 P w Cw C Cs):=by
 refine D.cn Yt λf cdv A outer s H vs Q E hr h=>?_;obtain⟨x,d,y,T,rfl,wb,ok,dc,nd,kq⟩:=h;refine' ⟨_,(@Zd _ _ _ _ _ ?h9 (@Zd _ _ _ _ _ ?h10 (@Zd _ _ _ _ _ ?h11 (@Zj _ _ _ ?h12)))),?rd⟩;case' h12=>refine' (Zn JX)
 case' h11=>refine' (Yr aY rfl (Yg rfl (bm B) (@pa1 _ _ _ Zc (by rfl))) (nmT 5 Yt.nd) (@Zd _ _ _ _ _ ?h3 (@Zd _ _ _ _ _ ?h4 (@Zd _ _ _ _ _ ?h5 (@Zd _ _ _ _ _ ?h6 (@Zd _ _ _ _ _ ?h7 (@Zj _ _ _ ?h8)))))))
 case' h10=>refine' (SY (Xg (i:=4) Yt.nd rfl (bh rfl) (scope:=Y9) (N:=["_law_key","_law_step","_law_node"]) (cp:=[none,none,some 2]) rfl Vy Vz (Ql (pv 1)) (λC s H ex pn=>(Ub (K:=K) (n:=2) rfl rfl (Zo (nmT 0 Xx) (Zo (nmT 1 Xx) Yn)))) (λC s H ex pn=>(G5 (ZD (K2 hr.units) (it K (pv 1) Zc) (pv 2) (ZC _)))) (λC s H ex pn=>(pv 0))))
 case' h9=>refine' (SY (Xg (i:=3) Yt.nd rfl (bh rfl) (scope:=Xa) (N:=["_law_key","_law_step","_law_node"]) (cp:=[none,none,some 2]) rfl VA VB (Ql (pv 1)) (λC s H ex pn=>(Ub (K:=K) (n:=2) rfl rfl (Zo (nmT 0 Xy) (Zo (nmT 1 Xy) Yn)))) (λC s H ex pn=>(G5 (ZD (K2 hr.units) (it K (pv 1) Zc) (pv 2) (ZC _)))) (λC s H ex pn=>(pv 0))))
 case' h8=>refine' (ZF (Rw aR fF fE Mz (pv 6)))
 case' h7=>refine' (@ZZ _ _ _ _ _ _ _ _ (PW.pt (JJ (Yb (Z2 (YU (c:="list") (pv 6) rfl (bm B) rfl (bm B) YZ))) (Xs (@ZD _ _ _ _ _ _ _ _ (U9 hr.units) (cn CK hr (@pa1 _ _ _ (pv 6) (by rfl))) (pv 3) (ZC _))))) (@Zj _ _ _ ?h2) Zx)
 case' h6=>refine' (@st _ _ _ _ 6 _ _ Yt.nd (Yc CO Z.cl U8 hr.m (pv 0) (@pa1 _ _ _ (pv 2) (by rfl))) (by rfl) (by exact bh rfl) (by rfl) (by exact .inl rfl))
 case' h5=>refine' (ZF (Rw aR fF fE Mz (pv 6)))
 case' h4=>refine' (@ZZ _ _ _ _ _ _ _ _ (PW.pt (JJ (Yb (Z2 (YU (c:="list") (pv 6) rfl (bm B) rfl (bm B) YZ))) (Xs (@ZD _ _ _ _ _ _ _ _ (U9 hr.units) (cn CK hr (@pa1 _ _ _ (pv 6) (by rfl))) (pv 4) (ZC _))))) (@Zj _ _ _ ?h1) Zx)
 case' h3=>refine' (@st _ _ _ _ 6 _ _ Yt.nd (Yc CI Z.cl U8 hr.m (pv 0) (@pa1 _ _ _ (pv 2) (by rfl))) (by rfl) (by exact bh rfl) (by rfl) (by exact .inl rfl))
 case' h2=>refine' (Zn JX)
 case' h1=>refine' (Zn JX)
 obtain⟨dd,nl,hdd,shp⟩:=Lg ok nd;obtain⟨kvs,ed,pr⟩:=dc.ord (Sv ok);refine tq λD1 hk1=>?_;refine⟨_,rfl,d,kvs,rfl,ed,λob=>?_⟩;have hn:∀xs,H d≠some (.lst xs)/\H d≠some (.tup xs):=λxs=>⟨(λz=>by rw[ed]at z;cases z),(λz=>by rw[ed]at z;cases z)⟩;have ef:upd H d (.frz ob (.dT kvs)) d=some (.frz ob (.dT kvs)):=Zb;have sbf:Zi d H (upd H d (.frz ob (.dT kvs))):=(Zi.refl d H).put;have prf:cz (λ(kv:List Key×V)(S:Sx)=>kv.1=S.key/\Is (upd H d (.frz ob (.dT kvs))) kv.2 (Xk S)) kvs (allS T):=Paired.mapP pr λ_ _ q=>⟨q.1,J3 hn q.2⟩;have hyf:Is (upd H d (.frz ob (.dT kvs))) y dd:=J3 hn hdd;generalize upd H d (.frz ob (.dT kvs))=Hf at ef sbf prf hyf ⊢;refine Qq ok ef prf hyf nl shp (.inl ⟨rfl,rfl⟩) rfl λys H1 S1 kl1=>?_;refine λl1 hl1=>⟨d,ob,.dT kvs,(Zg (Zf (S1 _ _ ef) hl1)).trans (S1 _ _ ef),(λo' u' z=>by have z':H d=_:=z;rw[ed]at z';cases z'),?_⟩;refine Nj ed ef sbf S1 hl1 kl1 λH2 S2 n1 e1 k1=>?_;refine hk1 _ _ (tq λD2 hk2=>?_);clear ef sbf prf hyf S1 hl1 kl1;have ed2:=S2 _ _ ed;have hn2:∀xs,H2 d≠some (.lst xs)/\H2 d≠some (.tup xs):=λxs=>⟨(λz=>by rw[ed2]at z;cases z),(λz=>by rw[ed2]at z;cases z)⟩;refine⟨_,rfl,d,kvs,rfl,ed2,λob2=>?_⟩;have ef:upd H2 d (.frz ob2 (.dT kvs)) d=some (.frz ob2 (.dT kvs)):=Zb;have sbf:Zi d H2 (upd H2 d (.frz ob2 (.dT kvs))):=(Zi.refl d H2).put;have prf:cz (λ(kv:List Key×V)(S:Sx)=>kv.1=S.key/\Is (upd H2 d (.frz ob2 (.dT kvs))) kv.2 (Xk S)) kvs (allS T):=Paired.mapP pr λ_ _ q=>⟨q.1,J3 hn2 (q.2.same S2)⟩;have hyf:Is (upd H2 d (.frz ob2 (.dT kvs))) y dd:=J3 hn2 (hdd.same S2);generalize upd H2 d (.frz ob2 (.dT kvs))=Hg at ef sbf prf hyf ⊢;refine Qq ok ef prf hyf nl shp (.inr ⟨rfl,rfl⟩) rfl λzs H3 S3 kl3=>?_;refine λl2 hl2=>⟨d,ob2,.dT kvs,(Zg (Zf (S3 _ _ ef) hl2)).trans (S3 _ _ ef),(λo' u' z=>by have z':H d=_:=z;rw[ed]at z';cases z'),?_⟩;refine Nj ed2 ef sbf S3 hl2 kl3 λH4 S4 n2 e2 k2=>?_;refine hk2 _ _ ?_;clear ef sbf prf hyf S3 hl2 kl3;have S04:=S2.trans S4;have b1:=S4 _ _ e1;have kb1:=k1.same S4;clear n1 n2 e1 k1 S4 S2 ed2 hn2;have sma:=GH ok;have smf:∀{f:Sx->PyData},∀S∈(allS T).filter (nodeF f dd),RowG (S.key.map kV):=λS hS=>sma S (b9.mp hS).1;have lf:∀{f:Sx->PyData},((allS T).filter (nodeF f dd)).length<=18200:=Nat.le_trans (bQ _ _) (Md ok);have one:∀{Hn H':Hp}{f:Sx->PyData}{l:Addr}{vs us:List V}{d':PyData},Same H Hn->Same Hn H'->NL d'->Is Hn y d'->StL H' Cs T us (allS T)->H' l=some (.lst (selV f (ZL d') us (allS T)))->H' l=some (.lst (selV f (ZL dd) us (allS T)))/\StL H' Cs T (selV f (ZL dd) us (allS T)) ((allS T).filter (nodeF f dd)):=λ{Hn H' f l vs us d'}s1 s2 nl' h' sl el=>by rw[Ln (JD nl' h') (JD nl (hdd.same s1))]at el;exact⟨el,SR sl⟩
 refine⟨_,rfl,by decide,by decide,?_⟩;refine Y8 (J:=Itr 0 2) 2 (λi σ H'=>Same H4 H'/\∃o5 o6,σ=[some (.ref x),some (.ref d),some y,some (.ref l1),some (.ref l2),o5,o6]) ⟨Same.refl _,_,_,rfl⟩ (λi σ H' hi q=>hi) (λσ H' q=>Nat.le_refl _) (λi σ H' v H5 hi q yl=>?_) (λσ H' q=>?_)
 ·obtain⟨s5,o5,o6,rfl⟩:=q;obtain⟨rfl,rfl⟩:=yl;dsimp only[YI];refine td λD' hdd=>?_;have S05:=S04.trans s5;have nd5:=nd.same S05;have wb5:=wb.same S05;obtain⟨dx,t,p,d1,d2,us,q1,q2,hx,_⟩:=id wb5;refine⟨_,rfl,x,dx,_,rfl,hx,rfl,_,rfl,x,y,T,rfl,wb5,ok,nd5.ask ok,λ_ H6 l us' d' s6 hl6 nl' hd' sl6 el6=>?_,λz=>absurd nd5 z⟩;obtain⟨el6,sf6⟩:=one (vs:=us) S05 s6 nl' hd' sl6 el6;refine⟨_,rfl,_,_,_,_,rfl,.lst el6,Lp,_,rfl,?_⟩;refine iteF ?_;refine⟨_,rfl,l,T,_,_,rfl,el6,sf6,lf,λH7 p7 ks S7 hp7 ep7 kl7=>?_⟩;have S57:=s5.trans (s6.trans S7);refine⟨_,rfl,_,_,kl7.is smf ep7,(k2.same S57).is smf (S57 _ _ e2),YN smf,YN smf,_,rfl,?_⟩;rw[keys_eq smf];refine iteF ?_;refine⟨_,rfl,.inl ⟨rfl,_,SqL.of (S7 _ _ el6)⟩,l,_,rfl,rfl,S7 _ _ el6,?_⟩;have S8:Same H5 (upd H7 l (.lst [])):=VP (s6.trans S7) hl6;generalize upd H7 l (.lst [])=H8 at S8 ⊢;have s8:=s5.trans S8;have S08:=S04.trans s8;have nd8:=nd.same S08;have wb8:=wb.same S08;obtain⟨dx',t',p',d1',d2',us8,q1',q2',hx8,_⟩:=id wb8;refine⟨_,rfl,x,dx',_,rfl,hx8,rfl,_,rfl,x,y,T,rfl,wb8,ok,nd8.ask ok,λ_ H9 l us' d' s9 hl9 nl' hd' sl9 el9=>?_,λz=>absurd nd8 z⟩;obtain⟨el9,sf9⟩:=one (vs:=us) S08 s9 nl' hd' sl9 el9;refine⟨_,rfl,_,_,_,_,rfl,.lst el9,Lp,_,rfl,?_⟩;refine iteF ?_;refine⟨_,rfl,l,T,_,_,rfl,el9,sf9,lf,λHa pa ks Sa hpa epa kla=>?_⟩;have S5a:=s8.trans (s9.trans Sa);refine⟨_,rfl,_,_,kla.is smf epa,(kb1.same S5a).is smf (S5a _ _ b1),YN smf,YN smf,_,rfl,?_⟩;rw[keys_eq smf];refine iteF ?_;exact⟨_,rfl,.inl ⟨rfl,_,SqL.of (Sa _ _ el9)⟩,l,_,rfl,rfl,Sa _ _ el9,hdd _ _ ⟨s8.trans (VP (s9.trans Sa) hl9),_,_,rfl⟩⟩
 ·obtain⟨s5,o5,o6,rfl⟩:=q;exact kq _ (S04.trans s5)
end
end SX
namespace L2
open PySem PySem.Spec PyProof.Rows
def Hu(t:TA):TE:=λσ H Q=>t σ H λxs H1=>xs.length<=sizeLine/\∀l,H1 l=none->(l==sysModules)=false->Q (.ref l) (upd H1 l (.lst xs))
theorem Tc{X:Cx}{es:List Expr}{t:TA}{pos:Pos}(h:PA X es t):PE X (.List es pos) (Hu t):=by
 intro pins s σ H Q I hq;refine wpAny_List_spliced (thn (h pos pins s σ H _ I hq) λus s1⟨xs,H1,I1,r,z,q⟩=>⟨by rw[<-r.length];exact z,?_⟩);have hf:H1 s1.heap.objs.size=none:=I1.hok.fresh (Nat.le_refl _);refine⟨.ref s1.heap.objs.size,upd H1 s1.heap.objs.size (.lst xs),I1.laid (t':=s1.toks) (λb u e=>Heap.get?_push_of_some _ e) (Nat.le_refl _) ?_,rfl,q _ hf ?_⟩
 ·exact⟨z,us,0,r,Heap.get?_push_size _ rfl⟩
 ·have:=I1.big;exact beq_eq_false_iff_ne.mpr (Nat.ne_of_gt this)
noncomputable def EV:List V->Hp->VK->Prop:=λxs H Q=>∃(l:Addr)(x:V)(d:PyData),xs=[.ref l]/\H l=some (.lst [x])/\(l==sysModules)=false/\IsX H x d/\(PyData.list [d]).showable=true/\(PyData.list [d]).depth<=64/\(PyData.list [d]).shown.length<=sizeLine/\Q (.str (PyData.list [d]).shown) H
theorem MQ{X:Cx}{k:Nat}(hr:Room k X.A):Y1 X (.builtin "repr") EV:=by
 intro pins s σ H xs us Q I r h;obtain⟨l,x,d,rfl,hl,nl,hd,hs,hdp,hz,q⟩:=h;cases hd with
|of h=>exact R6 hr pins s σ H _ us Q I r ⟨_,_,rfl,.lst hl (.cons h .nil),hs,hdp,hz,q⟩
|@dk a e=>
  obtain⟨u,rfl,rx⟩:=vals1 r;cases rx;obtain⟨_,its,n1,rv,e2⟩:=(show ZE X.prog X.w H s.heap l (.lst [.ref a])from I.hok l _ hl);obtain⟨v,rfl,ev⟩:=vals1 rv;cases ev;obtain⟨rd,ns⟩:=QQ I.hok e;have rl:Reads s.heap (.ref l) (.list [.dict []]) [l,a]:=.list e2 rfl rfl (.cons (as:=[a]) (bs:=[]) rd .nil);refine repr_of_reads' rl hs (λ_ hm=>?_) hr.gd (by have:=hr.un;omega) (λ_ _ e=>e) (λh' u tk hk=>⟨.str _,H,I.kept hk,⟨u,rfl⟩,q⟩) hz;simp only[au,aG,or_false]at hm;rcases hm with hm|hm
  ·rw[<-hm]at nl;cases nl
  ·exact ns hm.symm
end L2
namespace SX
open PySem L2 PySem.Spec PyProof.Rows TB WD
def At(v:V)(d:PyData):Prop:=(v=.non/\d=.none)\/(∃x,v=.bl x/\d=.bool x)\/(∃i:Int,v=.int i/\d=.int i/\(i.natAbs<=1000\/i=10 ^ 20))\/∃z,v=.str z/\d=.str z/\GS z
noncomputable def IsB(b:Addr)(H:Hp):Nat->V->PyData->Prop
|0,v,d=>At v d
|n+1,v,d=>At v d\/∃a xs ds,v=.ref a/\a≠b/\(H a=some (.lst xs)/\d=.list ds\/H a=some (.tup xs)/\d=.tuple ds)/\xs.length<=3/\cz (IsB b H n) xs ds
def Tg(b:Addr)(H:Hp)(v:V)(d:PyData):Prop:=IsB b H 2 v d\/∃a,v=.ref a/\a≠b/\H a=some (.dK [])/\d=.dict []
section
variable {b:Addr}{H H':Hp}
theorem At.is{v:V}{d:PyData}(h:At v d):Is H v d:=by
 rcases h with⟨rfl,rfl⟩|⟨x,rfl,rfl⟩|⟨i,rfl,rfl,_⟩|⟨z,rfl,rfl,_⟩
 ·exact .non
 ·exact .bl x
 ·exact .int i
 ·exact .str z
theorem At.th{v:V}{d:PyData}(h:At v d):∃T,Th H v T:=by
 rcases h with⟨rfl,rfl⟩|⟨x,rfl,rfl⟩|⟨i,rfl,rfl,_⟩|⟨z,rfl,rfl,g⟩
 ·exact⟨_,.non⟩
 ·exact⟨_,.bl x⟩
 ·exact⟨_,.int i⟩
 ·exact⟨_,.str z (Pz g)⟩
theorem De{R:V->PyData->Prop}(hR:∀v d,R v d->Is H v d){xs:List V}{ds:List PyData}(h:cz R xs ds):IsAll H xs ds:=by
 induction h with
|nil=>exact .nil
|cons q t ih=>exact .cons (hR _ _ q) ih
theorem IsB.is:∀{n:Nat}{v:V}{d:PyData},IsB b H n v d->Is H v d
|0,_,_,h=>At.is h
|n+1,v,d,h=>by
  rcases h with h|⟨a,xs,ds,rfl,_,(⟨h,rfl⟩|⟨h,rfl⟩),_,r⟩
  ·exact h.is
  ·exact .lst h (De (λ_ _ q=>q.is) r)
  ·exact .tup h (De (λ_ _ q=>q.is) r)
theorem IsB.same(s:Zi b H H'):∀{n:Nat}{v:V}{d:PyData},IsB b H n v d->IsB b H' n v d
|0,_,_,h=>h
|n+1,v,d,h=>by
  rcases h with h|⟨a,xs,ds,rfl,na,(⟨h,rfl⟩|⟨h,rfl⟩),l,r⟩
  ·exact .inl h
  ·exact .inr ⟨a,xs,ds,rfl,na,.inl ⟨s _ _ h na,rfl⟩,l,Paired.mapP r λ_ _ q=>q.same s⟩
  ·exact .inr ⟨a,xs,ds,rfl,na,.inr ⟨s _ _ h na,rfl⟩,l,Paired.mapP r λ_ _ q=>q.same s⟩
theorem IsB.th{n:Nat}{v:V}{d:PyData}(h:IsB b H n v d):∃T,Th H v T:=by
 cases n with
|zero=>exact At.th h
|succ n=>
  rcases h with h|⟨a,xs,ds,rfl,_,(⟨h,rfl⟩|⟨h,rfl⟩),_⟩
  ·exact h.th
  ·exact⟨_,.lst h⟩
  ·exact⟨_,.tup h⟩
theorem Tg.same(s:Zi b H H'){v:V}{d:PyData}(h:Tg b H v d):Tg b H' v d:=by
 rcases h with h|⟨a,rfl,na,h,rfl⟩
 ·exact .inl (h.same s)
 ·exact .inr ⟨a,rfl,na,s _ _ h na,rfl⟩
theorem Tg.isX{v:V}{d:PyData}(h:Tg b H v d):IsX H v d:=by
 rcases h with h|⟨a,rfl,na,h,rfl⟩
 ·exact .of h.is
 ·exact .dk h
theorem QH(s:Same H H'){v:V}{d:PyData}(h:IsX H v d):IsX H' v d:=by
 cases h with
|of h=>exact .of (h.same s)
|dk e=>exact .dk (s _ _ e)
structure S3(d:PyData)(k m:Nat):Prop where
 sh:d.showable=true
 lv:d.leavesShort 30=true
 dp:d.depth<=k
 wt:d.weight<=m
structure S3s(ds:List PyData)(k m:Nat):Prop where
 sh:PyData.showableAll ds=true
 lv:PyData.leavesShortAll 30 ds=true
 dp:PyData.depthAll ds<=k
 wt:PyData.weightAll ds<=ds.length*(m+1)
theorem S3s.of{k m:Nat}:∀{ds:List PyData},(∀d∈ds,S3 d k m)->S3s ds k m
|[],_=>⟨rfl,rfl,Nat.zero_le _,Nat.zero_le _⟩
|d::ds,h=>by
  have h1:=h d az;have h2:=S3s.of (ds:=ds) λx hx=>h x (aq _ hx);refine⟨?_,?_,?_,?_⟩
  ·simp only[PyData.showableAll,h1.sh,h2.sh,Bool.and_self]
  ·simp only[PyData.leavesShortAll,h1.lv,h2.lv,Bool.and_self]
  ·simp only[PyData.depthAll];have:=h1.dp;have:=h2.dp;omega
  ·simp only[PyData.weightAll,aP,Nat.succ_mul];have:=h1.wt;have:=h2.wt;omega
theorem S3s.seq{ds:List PyData}{k m n:Nat}(h:S3s ds k m)(hl:ds.length<=n):S3 (.list ds) (k+1) (n*(m+1))/\S3 (.tuple ds) (k+1) (n*(m+1)):=by have w:PyData.weightAll ds<=n*(m+1):=Nat.le_trans h.wt (Nat.mul_le_mul_right _ hl);have dp:=h.dp;refine⟨⟨?_,?_,?_,?_⟩,⟨?_,?_,?_,?_⟩⟩<;>first|(simp only[PyData.showable,h.sh])|(simp only[PyData.leavesShort,h.lv])|(simp only[PyData.depth];omega)|(simp only[PyData.weight];exact w)
theorem So:(PyData.int (10 ^ 20)).showable=true/\(PyData.int (10 ^ 20)).leavesShort 30=true/\(PyData.int (10 ^ 20)).weight<=70:=by decide +kernel
theorem At.s3{v:V}{d:PyData}(h:At v d):S3 d 0 70:=by
 rcases h with⟨rfl,rfl⟩|⟨x,rfl,rfl⟩|⟨i,rfl,rfl,h⟩|⟨z,rfl,rfl,g⟩
 ·exact⟨rfl,rfl,Nat.le_refl _,Nat.zero_le _⟩
 ·exact⟨by cases x<;>rfl,by cases x<;>rfl,Nat.le_refl _,Nat.zero_le _⟩
 ·rcases h with h|rfl
  ·have s:=(Atm.int h).sm;refine⟨s.sh,?_,s.dp,Nat.le_trans s.wt (by decide)⟩;simp only[PyData.leavesShort,decide_eq_true_eq];exact Nat.le_trans (shown_int h) (by decide)
  ·exact⟨So.1,So.2.1,Nat.le_refl _,So.2.2⟩
 ·have s:=(Atm.str g).sm;refine⟨s.sh,?_,s.dp,Nat.le_trans s.wt (by decide)⟩;simp only[PyData.leavesShort,bV,decide_eq_true_eq];exact λc hc=>Nat.lt_of_lt_of_le (g.2 c hc) (by decide)
theorem S3.mono{d:PyData}{k m k' m':Nat}(h:S3 d k m)(hk:k<=k')(hm:m<=m'):S3 d k' m':=⟨h.sh,h.lv,Nat.le_trans h.dp hk,Nat.le_trans h.wt hm⟩
theorem Nv{R:V->PyData->Prop}{k m:Nat}(hR:∀v d,R v d->S3 d k m){xs:List V}{ds:List PyData}(h:cz R xs ds):∀d∈ds,S3 d k m:=by
 induction h with
|nil=>intro d hd;cases hd
|cons q t ih=>
  intro d hd;rcases au.mp hd with rfl|hd
  ·exact hR _ _ q
  ·exact ih d hd
theorem IsB.s1{v:V}{d:PyData}(h:IsB b H 1 v d):S3 d 1 213:=by
 rcases h with h|⟨a,xs,ds,rfl,na,h,l,r⟩
 ·exact h.s3.mono (by decide) (by decide)
 ·have s:=(S3s.of (Nv (λ_ _ q=>At.s3 q) r)).seq (n:=3) (by rw[<-bq r];exact l);rcases h with⟨h,rfl⟩|⟨h,rfl⟩
  ·exact s.1
  ·exact s.2
theorem IsB.s2{v:V}{d:PyData}(h:IsB b H 2 v d):S3 d 2 642:=by
 rcases h with h|⟨a,xs,ds,rfl,na,h,l,r⟩
 ·exact h.s3.mono (by decide) (by decide)
 ·have s:=(S3s.of (Nv (λ_ _ q=>IsB.s1 q) r)).seq (n:=3) (by rw[<-bq r];exact l);rcases h with⟨h,rfl⟩|⟨h,rfl⟩
  ·exact s.1
  ·exact s.2
theorem Tg.shw{v:V}{d:PyData}(h:Tg b H v d):Shw (.list [d]):=by
 have s:S3 d 2 642:=by
  rcases h with h|⟨a,rfl,na,h,rfl⟩
  ·exact h.s2
  ·exact⟨rfl,rfl,by decide,by decide⟩
 have s1:=((S3s.of (ds:=[d]) λe he=>by rw[aU]at he;subst he;exact s).seq (n:=1) (Nat.le_refl _)).1;refine⟨s1.sh,Nat.le_trans s1.dp (by decide),Nat.le_trans (PyData.shown_le 30 (by decide) _ s1.lv) ?_⟩;have:=s1.wt;exact Nat.le_trans (by omega:_<=32*643+30) (by decide)
theorem kt_n{K:af}:aj K (.type "NoneType") (.type "tuple")=some false:=by kernel_rfl
theorem kt_i{K:af}:aj K (.type "int") (.type "tuple")=some false:=by kernel_rfl
theorem kt_b{K:af}:aj K (.type "bool") (.type "tuple")=some false:=by kernel_rfl
theorem kt_l{K:af}:aj K (.type "list") (.type "tuple")=some false:=by kernel_rfl
theorem kt_d{K:af}:aj K (.type "dict") (.type "tuple")=some false:=by kernel_rfl
theorem At.not{K:af}{v:V}{d:PyData}(h:At v d):MW K H v/\∀a xs,v=.ref a->H a≠some (.tup xs):=by
 rcases h with⟨rfl,rfl⟩|⟨x,rfl,rfl⟩|⟨i,rfl,rfl,_⟩|⟨z,rfl,rfl,g⟩
 ·exact⟨⟨_,.non,kt_n⟩,λa xs e=>by cases e⟩
 ·exact⟨⟨_,.bl x,kt_b⟩,λa xs e=>by cases e⟩
 ·exact⟨⟨_,.int i,kt_i⟩,λa xs e=>by cases e⟩
 ·exact⟨⟨_,.str z,kt_s⟩,λa xs e=>by cases e⟩
theorem Wk{R:V->PyData->Prop}(hR:∀v d,R v d->∃T,Th H v T){xs:List V}{ds:List PyData}(h:cz R xs ds):∀v∈xs,∃T,Th H v T:=by
 induction h with
|nil=>intro d hd;cases hd
|cons q t ih=>
  intro d hd;rcases au.mp hd with rfl|hd
  ·exact hR _ _ q
  ·exact ih d hd
theorem Tg.ask{K:af}{v:V}{d:PyData}(h:Tg b H v d):Askd K H v:=by
 rcases h with(h|⟨a,xs,ds,rfl,na,(⟨h,rfl⟩|⟨h,rfl⟩),l,r⟩)|⟨a,rfl,na,h,rfl⟩
 ·exact⟨h.th,.inl h.not⟩
 ·exact⟨⟨_,.lst h⟩,.inl ⟨⟨_,.lst h,kt_l⟩,λa' xs' e q=>by cases e;rw[h]at q;cases q⟩⟩
 ·exact⟨⟨_,.tup h⟩,.inr ⟨a,xs,rfl,h,Nat.le_trans l (by decide),Wk (λ_ _ q=>q.th) r⟩⟩
 ·exact⟨⟨_,.dK h⟩,.inl ⟨⟨_,.dK h,kt_d⟩,λa' xs' e q=>by cases e;rw[h]at q;cases q⟩⟩
end
theorem RE{K:af}:aj K (.type "bool") (.type "bool")=some true:=by kernel_rfl
def U3(P:Program)(w:World)(Cw C:Addr)(Cs:Nat->Addr):Sp:=λvs H Q _=>∃(b x:Addr)(n:Int)(y:V)(d:PyData)(T:Tb),vs=[.ref x,.int n,y]/\Wb P w H Cw C Cs x T/\OkTb T/\Tg b H y d/\¬Nd T H y/\∀H',Same H H'->Q (.bl true) H'
def spIs:Sp:=λvs H Q _=>∃u v:Bool,vs=[.bl u,.bl v]/\Q (.bl (decide (u=v))) H
section
variable {P:Program}{w:World}{K:af}{mg:Str->Option Value}{base:Heap}{Cw C Cn fI Qa:Addr}{Cs:Nat->Addr}
theorem YT:FnScope ["_law_web","_law_way_here","_law_thing","_law_found","e"] ["_law_web","_law_way_here","_law_thing"] (Ze T.f__law_refused):=scO
theorem QZ(B:∀x∈Blts,mg x=none)(Z:WCl K Cw)(X:XK1 K mg "NoSpot" Cn fI Qa)(nX:Z1 K Cn "found")(CI:CanM P w K mg base (CX1 P w) 7 Cw "leading_in" ["self","node"] (JR P w K Cw C Cn Cs Sx.head))(CO:CanM P w K mg base (CX1 P w) 7 Cw "leading_out" ["self","node"] (JR P w K Cw C Cn Cs Sx.tail))(D:Df K mg "_law_refused" T.f__law_refused ["_law_web","_law_way_here","_law_thing"]):Can P w K mg base 8 "_law_refused" ["_law_web","_law_way_here","_law_thing"] (U3 P w Cw C Cs):=by
 obtain⟨f1,fd1,F1,m1,b1⟩:=CO;obtain⟨f2,fd2,F2,m2,b2⟩:=CI;refine D.cn YT λf cdv A outer s H vs Q E hr h=>?_;obtain⟨b,x,n,y,d,T,rfl,wb,ok,tg,no,kq⟩:=h;refine' ⟨_,(@Zd _ _ _ _ _ ?h2 (@Zd _ _ _ _ _ ?h3 (@Zj _ _ _ ?h4))),?rd⟩;case' h4=>refine' (Zn (YB (@YC _ _ _ _ _ _ _ _ JC (pv 3) Z4 (ZC _)) (YF (@YC _ _ _ _ _ _ _ _ Jp (ZO (MQ hr) rfl (bm B) ia (@pa1 _ _ _ (pv 3) (by rfl))) (ZO (MQ hr) rfl (bm B) ia (@pa1 _ _ _ ?h1 (by rfl))) (ZC _)))))
 case' h3=>refine' (EY ⟨rfl,rfl⟩ (λE' pn' pp E hp=>Zj (ZZ (ZD Jp (pv 1) Zc (ZC _)) (Zj (ZF (Mw (pv 0) Z.cl m1 F1 hr b1 .nil hp (Za (pv 2) Zh)))) (Zj (ZF (Mw (pv 0) Z.cl m2 F2 hr b2 .nil hp (Za (pv 2) Zh)))))) (HX (i:=4) X.xb rfl X.mg YT.nd rfl rfl (λx=>Zj (Yx (i:=3) YT.nd rfl (bh rfl) (Tc (Za (DJ (pv 4)) Zh)))) FK))
 case' h2=>refine' (@st _ _ _ _ 3 _ _ YT.nd Z4 (by rfl) (by exact bh rfl) (by rfl) (by exact .inl rfl))
 case' h1=>refine' (@Tc _ _ _ _ (@pa1 _ _ _ (pv 2) (by rfl)))
 refine⟨λc dd H'=>c=.ref Cn/\∃d,dd=some d/\H' d=some (XD d [("found",y)])/\Same H H',?_,?_⟩
 ·obtain⟨dx,t,p,d1,d2,us,q1,q2,hx,_⟩:=id wb;have go:∀{f:Sx->PyData}{Q':VK},JR P w K Cw C Cn Cs f [.ref x,y] H Q' (λc dd H'=>c=.ref Cn/\∃d,dd=some d/\H' d=some (XD d [("found",y)])/\Same H H'):=λ{f Q'}=>⟨x,y,T,rfl,wb,ok,tg.ask,λz=>absurd z no,λ_ H' dd hdd e st=>⟨rfl,dd,rfl,e,λc o q=>by rw[st c (Zf q hdd)];exact q⟩⟩;refine⟨_,rfl,rfl,_,rfl,?_⟩;refine J2 (λ_=>?_) (λ_=>?_);all_goals
   refine⟨rfl,_,rfl,x,dx,_,rfl,hx,rfl,_,rfl,?_⟩;dsimp only[tNil];exact go
 rintro c dd H' ⟨rfl,d',rfl,hd,sm⟩;refine⟨Cn,rfl,λy' hy=>⟨fI,Qa,X.xc,.inl ⟨by rw[dC];simp,?_⟩⟩⟩;have hyd:d'≠y':=Zf hd hy;have hd1:upd H' y' (ErrC y' Cn (some d')) d'=some (XD d' [("found",y)]):=by rw[Zg hyd];exact hd
 have hy1:T6 (upd H' y' (ErrC y' Cn (some d'))) y' Cn d':=.inl Zb;have sm1:Same H (upd H' y' (ErrC y' Cn (some d'))):=sameNew sm hy;generalize upd H' y' (ErrC y' Cn (some d'))=H1 at hd1 hy1 sm1 ⊢;refine⟨_,rfl,y',Cn,d',_,_,rfl,hy1,hd1,X.xr,nX,rfl,zl,λl hl nl=>?_⟩;try dsimp only[tNil]
 have S2:=sameNew (o:=.lst [y]) (Same.refl H1) hl;have e2:upd H1 l (.lst [y]) l=some (.lst [y]):=Zb;generalize upd H1 l (.lst [y])=H2 at S2 e2 ⊢;have S02:=sm1.trans S2;have isk:=tg.isX;have shw:=tg.shw;refine⟨_,rfl,rfl,true,rfl,?_⟩;refine iteT ?_;refine⟨_,rfl,l,y,d,rfl,e2,nl,QH S02 isk,shw.1,shw.2,shw.3,?_⟩;refine⟨_,rfl,zl,λl2 hl2 nl2=>?_⟩;try dsimp only[tNil]
 have S3:=sameNew (o:=.lst [y]) (Same.refl H2) hl2;have e3:upd H2 l2 (.lst [y]) l2=some (.lst [y]):=Zb;generalize upd H2 l2 (.lst [y])=H3 at S3 e3 ⊢;have S03:=S02.trans S3;refine⟨l2,y,d,rfl,e3,nl2,QH S03 isk,shw.1,shw.2,shw.3,rfl,?_⟩;show Q (.bl (decide (V.str (PyData.list [d]).shown=V.str (PyData.list [d]).shown))) H3;rw[decide_eq_true rfl];exact kq H3 S03
theorem Wc:FnScope ["_law_found","_law_due"] ["_law_found","_law_due"] (Ze T.f__law_is):=scO
theorem Eb(B:∀x∈Blts,mg x=none)(D:Df K mg "_law_is" T.f__law_is ["_law_found","_law_due"]):Can P w K mg base 1 "_law_is" ["_law_found","_law_due"] spIs:=by
 refine D.cn Wc λf cdv A outer s H vs Q E hr h=>?_;obtain⟨u,v,rfl,kq⟩:=h;refine' ⟨_,(@Zj _ _ _ ?h1),?rd⟩;case' h1=>refine' (Zn (YB (YU (c:="bool") (pv 0) rfl (bm B) rfl (bm B) PH) (YF (@YC _ _ _ _ _ _ _ _ Jp (pv 0) (pv 1) (ZC _)))))
 refine⟨_,rfl,_,_,_,_,rfl,.bl u,RE,_,rfl,?_⟩;refine iteT ?_;refine⟨_,rfl,_,rfl,rfl,?_⟩;have e:decide (V.bl u=V.bl v)=decide (u=v):=by cases u<;>cases v<;>rfl
 show Q (.bl (decide (V.bl u=V.bl v))) H;rw[e];exact kq
theorem Uh{z:Str}{rows:List (List V)}:inV (.str z) (rows.map λr=>V.str (nameOf r))=true↔∃r∈rows,z=nameOf r:=by
 unfold inV;rw[h_];constructor
 ·rintro ⟨v,hv,e⟩;obtain⟨r,hr,rfl⟩:=av.mp hv;exact⟨r,hr,(by simpa[eqV]using e:nameOf r=z).symm⟩
 ·rintro ⟨r,hr,rfl⟩;exact⟨_,av.mpr ⟨r,hr,rfl⟩,by simp[eqV]⟩
theorem MM{rows:List (List V)}:(rows.map λr=>V.str (nameOf r)).all Ul=true:=by rw[bV];intro v hv;obtain⟨r,_,rfl⟩:=av.mp hv;rfl
theorem Tn{T:Tb}{H H':Hp}{y:V}{Ty:String}(s:Same H H')(th:Th H y Ty)(h:Nd T H' y):Nd T H y:=by
 rcases h with⟨a,xs,rfl,ha,r⟩|h
 ·cases th with
 |lst e=>rw[s _ _ e]at ha;cases ha
 |tup e=>rw[s _ _ e]at ha;cases ha;exact .inl ⟨a,_,rfl,e,r⟩
 |dK e=>rw[s _ _ e]at ha;cases ha
 ·exact .inr h
def Nq(P:Program)(w:World)(Cw C:Addr)(Cs:Nat->Addr):Sp:=λvs H Q _=>∃(b t x d p l1 l2 l3 l4:Addr)(y:V)(dt:PyData)(T:Tb),vs=[.ref t,.ref x,.ref d,.ref p,y]/\Tel H C t T/\Wb P w H Cw C Cs x T/\OkTb T/\Dc H d (allS T)/\TbAt b H p T l1 l2 l3 l4/\Tg b H y dt /\∀H',Same H H'->Q (.bl true) H'
theorem YO:FnScope [q_t,"_law_web","_law_steps_here",q_w,"_law_thing","_law_names_here","_law_spot"] [q_t,"_law_web","_law_steps_here",q_w,"_law_thing"] (Ze T.f__law_of_thing):=scO
noncomputable def YX:Scope:=csx [(".0",.local),("_law_place",.local),("_law_room",.local)]
theorem J9:CompScope YX (Ze T.f__law_of_thing):=⟨rfl,by decide +kernel,by decide +kernel,by decide +kernel⟩
theorem Xq:(["_law_place","_law_room"]:List Str).Nodup:=by decide +kernel
theorem Va:CompNames [q_t,"_law_web","_law_steps_here",q_w,"_law_thing","_law_names_here","_law_spot"] YX ["_law_place","_law_room"] [none,none]:=.mk' (by decide +kernel)
noncomputable def Jf:Scope:=csx [(".0",.local),("_law_row",.local)]
theorem J6:CompScope Jf (Ze T.f__law_of_thing):=⟨rfl,by decide +kernel,by decide +kernel,by decide +kernel⟩
theorem J8:(["_law_row"]:List Str).Nodup:=by decide +kernel
theorem J7:CompNames [q_t,"_law_web","_law_steps_here",q_w,"_law_thing","_law_names_here","_law_spot"] Jf ["_law_row"] [none]:=.mk' (by decide +kernel)
theorem Q0(B:∀x∈Blts,mg x=none)(Z:WCl K Cw)(CW:CanM P w K mg base CX0 5 Cw "is_spot" ["self","thing"] (V5 P w K Cw C Cs))(CS:Can P w K mg base 4 "is_spot_of" ["table","thing"] (NZ K C))(CI:Can P w K mg base 1 "_law_is" ["_law_found","_law_due"] spIs)(CO:Can P w K mg base 8 "_law_of_node" ["_law_web","_law_steps_here","_law_node"] (P4 P w Cw C Cs))(CR:Can P w K mg base 8 "_law_refused" ["_law_web","_law_way_here","_law_thing"] (U3 P w Cw C Cs))(D:Df K mg "_law_of_thing" T.f__law_of_thing [q_t,"_law_web","_law_steps_here",q_w,"_law_thing"]):Can P w K mg base 9 "_law_of_thing" [q_t,"_law_web","_law_steps_here",q_w,"_law_thing"] (Nq P w Cw C Cs):=by
 refine D.cn YO λf cdv A outer s H vs Q E hr h=>?_;obtain⟨b,t,x,d,p,l1,l2,l3,l4,y,dt,T,rfl,tel,wb,ok,dc,tb,tg,kq⟩:=h;refine' ⟨_,(@Zd _ _ _ _ _ ?h11 (@Zd _ _ _ _ _ ?h12 (@Zd _ _ _ _ _ ?h13 (@Zd _ _ _ _ _ ?h14 (@Zd _ _ _ _ _ ?h15 (@Zj _ _ _ ?h16)))))),?rd⟩;case' h16=>refine' (Zn (YB (cn CR hr (@pa3 _ _ _ _ _ _ _ (pv 1) Zc (pv 4) (by rfl))) (YF (cn CR hr (@pa3 _ _ _ _ _ _ _ (pv 1) Zc (pv 4) (by rfl))))))
 case' h15=>refine' (@ZZ _ _ _ _ _ _ _ _ (PW.pt (JJ (Z2 (pv 6)) (Xs (PW.pt (Pm (Z2 (YU (c:="str") (pv 4) rfl (bm B) rfl (bm B) MR)) (G3 (ZD Nz (pv 4) (YJ rfl J6 J7 (Ym ?h9) (λC s H ex pn=>(nmT 0 J8)) (λC s H ex pn=>Z9) (λC s H ex pn=>(it K (pv 0) Zc))) (by with_unfolding_all rfl)))))))) (@Zj _ _ _ ?h10) Zx)
 case' h14=>refine' (@ZZ _ _ _ _ _ _ _ _ (PW.pt (JJ (Yb (Z2 (cn CI hr (@pa2 _ _ _ _ _ (Yc CW Z.cl Yk hr.m (pv 1) (@pa1 _ _ _ (pv 4) (by rfl))) (pv 6) (by rfl))))) (Xs (Yb (Z2 (cn CI hr (@pa2 _ _ _ _ _ (cn CS hr (@pa2 _ _ _ _ _ (pv 0) (pv 4) (by rfl))) (pv 6) (by rfl)))))))) (@Zj _ _ _ ?h8) Zx)
 case' h13=>refine' (KH (@st _ _ _ _ 6 _ _ YO.nd (YB (pv 6) (YB (YU (c:="int") ?h7 rfl (bm B) rfl (bm B) MS) (YB (Ru (YU (c:="bool") ?h6 rfl (bm B) rfl (bm B) PH)) (YF (Qm Ny Ny Zc ?h4 ?h5))))) (by rfl) (by exact bh rfl) (by rfl) (by exact .inl rfl)))
 case' h12=>refine' (KH (@st _ _ _ _ 6 _ _ YO.nd (YB (YU (c:="tuple") (pv 4) rfl (bm B) rfl (bm B) XY) (YB (@YC _ _ _ _ _ _ _ _ Jp (ZO (r:=rLen K) YR rfl (bm B) b6 (@pa1 _ _ _ (pv 4) (by rfl))) Zc (ZC _)) (YB (YU (c:="str") ?h3 rfl (bm B) rfl (bm B) MR) (YF (YC Nz ?h2 (pv 5) (by with_unfolding_all rfl)))))) (by rfl) (by exact bh rfl) (by rfl) (by exact .inl rfl)))
 case' h11=>refine' (Xg (i:=5) YO.nd rfl (bh rfl) (scope:=YX) (N:=["_law_place","_law_room"]) (cp:=[none,none]) rfl J9 Va (Ym ?h1) (λC s H ex pn=>(Ub (K:=K) (n:=2) rfl rfl (Zo (nmT 0 Xq) (Zo (nmT 1 Xq) Yn)))) (λC s H ex pn=>Z9) (λC s H ex pn=>(pv 0)))
 case' h10=>refine' (Zn (cn CO hr (@pa3 _ _ _ _ _ _ _ (pv 1) (pv 2) (pv 4) (by rfl))))
 case' h9=>refine' (@il _ _ _ _ _ _ K (pv 3) Zc (by rfl) (by exact λ_ _=>rfl))
 case' h8=>refine' (Zn JX)
 case' h7=>refine' (@it _ _ _ _ _ _ K (pv 4) Zc (by rfl) (by exact λ_ _=>rfl))
 case' h6=>refine' (@it _ _ _ _ _ _ K (pv 4) Zc (by rfl) (by exact λ_ _=>rfl))
 case' h5=>refine' (@il _ _ _ _ _ _ K (pv 3) Zc (by rfl) (by exact λ_ _=>rfl))
 case' h4=>refine' (@it _ _ _ _ _ _ K (pv 4) Zc (by rfl) (by exact λ_ _=>rfl))
 case' h3=>refine' (@it _ _ _ _ _ _ K (pv 4) Zc (by rfl) (by exact λ_ _=>rfl))
 case' h2=>refine' (@it _ _ _ _ _ _ K (pv 4) Zc (by rfl) (by exact λ_ _=>rfl))
 case' h1=>refine' (@il _ _ _ _ _ _ K (pv 3) Zc (by rfl) (by exact λ_ _=>rfl))
 have N1:=(Xo ok).1;have N4:=(Xo ok).2.2.2;refine tq λD1 hk1=>?_;refine ixL 1 tb.at_ rfl ⟨l1,rfl,⟨_,SqL.of tb.pl.2.choose_spec.1⟩,?_⟩;refine ZY (J:=Itl K l1) T.t1.length (Nat.le_trans N1 (by decide)) (λi ys τ H'=>H=H'/\ys=(T.t1.take i).map (λr=>V.str (nameOf r))/\∃o1 o2,τ=[o1,o2]) ⟨rfl,rfl,_,_,rfl⟩ (λi ys τ H' q=>by rw[q.2.1,lm,aB];omega) (λi ys τ H' hi q=>by rw[<-q.1];exact tb.pl.go hi) (λys τ H' q=>by rw[<-q.1];exact tb.pl.stop) (λi ys τ H' v H2 hi q yl=>?_) (λys τ H' q ln hln=>?_)
 ·obtain⟨rfl,rfl,o1,o2,rfl⟩:=q;have e1:T.t1[i]?=some T.t1[i]:=gE hi;obtain⟨rfl,a,rfl,na,ha⟩:=tb.pl.item e1 yl;rw[bE,e1,a8];obtain⟨⟨z,u⟩,ez,gz,hr⟩:=Xh ok (aH hi);rw[ez]at ha;refine⟨a,_,rfl,SqT.of ha,rfl,_,_,rfl,_,_,rfl,rfl,_,rfl,rfl,?_,_,_,rfl⟩;rw[ez];rfl
 obtain⟨rfl,rfl,o1,o2,rfl⟩:=q;rw[aO];refine nl2 hln λH2 S2 e2=>?_;refine hk1 _ _ (tq λD2 hk2=>?_);have tg2:=tg.same (b:=b) (Zi.of S2);have ask:=tg2.ask (K:=K);obtain⟨⟨Ty,thy⟩,ask⟩:=ask;refine⟨λσ' H'=>∃s1:Bool,(s1=true↔∃a z u,y=.ref a/\H2 a=some (.tup [.str z,u])/\∃g∈T.t1,z=nameOf g)/\σ'=[some (.ref t),some (.ref x),some (.ref d),some (.ref p),some y,some (.ref ln),some (.bl s1)]/\H2=H',?_,?_⟩
 ·rcases ask with⟨⟨ty,hty,kt⟩,nn⟩|⟨a,xs,rfl,ha,hlen,hit⟩
  ·refine⟨_,rfl,_,_,_,_,rfl,hty,kt,_,rfl,?_⟩;refine iteF ?_;exact⟨false,⟨(λz=>by cases z),λ⟨a,z,u,e,h,_⟩=>absurd h (nn _ _ e)⟩,rfl,rfl⟩
  refine⟨_,rfl,_,_,_,_,rfl,.tup ha,Lo,_,rfl,?_⟩;refine iteT ?_;have na:(∀z u,xs≠[.str z,u])->(false=true↔∃a' z u,V.ref a=.ref a'/\H2 a'=some (.tup [.str z,u])/\∃g∈T.t1,z=nameOf g):=λn=>⟨(λz=>by cases z),λ hZ=>by
   obtain⟨a',z,u,e,h,_⟩:=hZ
   cases e;rw[ha]at h;cases h;exact absurd rfl (n z u)⟩;refine⟨_,rfl,a,_,rfl,.inr (SqT.of ha),rfl,_,rfl,?_⟩;refine J2 (λe=>?_) (λe=>?_);case' refine_2=>
   exact⟨false,na (λz u q=>by subst q;simp at e),rfl,rfl⟩
  have h2:xs.length=2:=by have q:=of_decide_eq_true e;injection q with q;omega
  obtain⟨u,v,rfl⟩:=len2 h2;obtain⟨T0,th0⟩:=hit u (by simp);refine ixT 0 ha rfl ⟨_,_,_,_,rfl,th0.ty,th0.kitS,_,rfl,?_⟩;refine J2 (λe=>?_) (λe=>?_);case' refine_2=>exact⟨false,na (λz u q=>by cases q;cases e),rfl,rfl⟩
  obtain⟨z,rfl⟩:∃z,u=.str z:=by cases u<;>first|exact⟨_,rfl⟩|cases e
  refine ixT 0 ha rfl ⟨_,rfl,ln,_,rfl,.inl (SqL.of e2),rfl,MM,_,⟨λq=>⟨a,z,v,rfl,ha,Uh.mp q⟩,λ hZ=>?_⟩,rfl,rfl⟩;obtain⟨a',z',u',q,h,r⟩:=hZ;cases q;rw[ha]at h;cases h;exact Uh.mpr r
 rintro σ' H' ⟨s1,hs1,rfl,rfl⟩;refine hk2 _ _ (tq λD3 hk3=>?_);refine⟨λσ' H'=>∃s2:Bool,(s2=true↔∃a xs,y=.ref a/\H2 a=some (.tup xs)/\Vi T xs)/\σ'=[some (.ref t),some (.ref x),some (.ref d),some (.ref p),some y,some (.ref ln),some (.bl s2)]/\H2=H',?_,?_⟩
 ·cases s1 with
 |false=>refine⟨_,rfl,_,rfl,?_⟩;refine iteF ?_;refine⟨false,⟨(λz=>by cases z),λ hZ=>?_⟩,rfl,rfl⟩;obtain⟨a,xs,e,h,g,hg,i,ex,_⟩:=hZ;subst ex;exact absurd (hs1.mpr ⟨a,_,_,e,h,g,hg,rfl⟩) (by decide)
 |true=>
   obtain⟨a,z,u,rfl,ha,g,hg,rfl⟩:=hs1.mp rfl;refine⟨_,rfl,_,rfl,?_⟩;refine iteT ?_;rcases ask with⟨_,nn⟩|⟨a',xs,e,ha',hlen,hit⟩
   ·exact absurd ha (nn a _ rfl)
   cases e;rw[ha]at ha';cases ha';obtain⟨T1,th1⟩:=hit u (by simp);have at1:atI [V.str (nameOf g),u] 1=some u:=Zv (j:=1) rfl;have na:(∀i,u=.int i->¬(0<=i/\i<=T.n))->(false=true↔∃a' xs,V.ref a=.ref a'/\H2 a'=some (.tup xs)/\Vi T xs):=λn=>⟨(λz=>by cases z),λ hZ=>by obtain⟨a',xs,e,h,g',hg',i,ex,h0,h1⟩:=hZ;cases e;rw[ha]at h;subst ex;injection h with h;injection h with h;injection h with _ h;injection h with h;exact absurd ⟨h0,h1⟩ (n i h)⟩;refine iaT ha at1 ⟨_,_,_,_,rfl,th1.ty,th1.kitI,_,rfl,?_⟩;refine J2 (λe=>?_) (λe=>?_);case' refine_2=>exact⟨false,na (λi q=>by subst q;cases e),rfl,rfl⟩
   refine iaT ha at1 ⟨_,_,_,_,rfl,th1.ty,th1.kitB,_,rfl,?_⟩;refine⟨_,rfl,?_⟩;refine J2 (λe'=>?_) (λe'=>?_);case' refine_2=>exact⟨false,na (λi q=>by subst q;cases e'),rfl,rfl⟩
   obtain⟨i,rfl⟩:∃i,u=.int i:=by cases u<;>first|exact⟨_,rfl⟩|(cases e';done)|(cases e;done)
   refine iaT ha at1 ⟨0,i,rfl,rfl,_,rfl,?_⟩;refine J2 (λe0=>?_) (λe0=>?_);case' refine_2=>exact⟨false,na (λi' q h=>by cases q;exact absurd h.1 (of_decide_eq_false e0)),rfl,rfl⟩
   refine ixL 0 (S2 _ _ tb.at_) rfl ⟨i,T.n,rfl,rfl,_,⟨λq=>⟨a,_,rfl,ha,g,hg,i,rfl,of_decide_eq_true e0,of_decide_eq_true q⟩,λq=>?_⟩,rfl,rfl⟩;obtain⟨a',xs,eq,h,g',hg',i',ex,h0,h1⟩:=q;cases eq;rw[ha]at h;subst ex;injection h with h;injection h with h;injection h with _ h;injection h with h;injection h with h;subst h;exact decide_eq_true h1
 rintro σ' H' ⟨s2,hs2,rfl,rfl⟩;refine hk3 _ _ (tq λD4 hk4=>?_);have wb2:=wb.same S2;have tel2:=tel.same S2;obtain⟨dx,t',p',d1,d2,us,q1,q2,hx,_⟩:=id wb2;have two:∀{Q1:VK},Q1 (.bl s2) H2->((MW K H2 y/\Q1 (.bl false) H2)\/∃a xs,y=.ref a/\H2 a=some (.tup xs)/\xs.length<=1000/\(∀v∈xs,∃T,Th H2 v T)/\∀b:Bool,(b=true↔Vi T xs)->Q1 (.bl b) H2):=λ{Q1}k1=>by
  rcases ask with⟨nt,nn⟩|⟨a,xs,rfl,ha,hlen,hit⟩
  ·refine .inl ⟨nt,?_⟩;cases s2 with
  |false=>exact k1
  |true=>obtain⟨a,xs,e,h,_⟩:=hs2.mp rfl;exact absurd h (nn _ _ e)
  ·refine .inr ⟨a,xs,rfl,ha,hlen,hit,λb' hb'=>?_⟩;have:b'=s2:=by
    rw[Bool.eq_iff_iff,hb',hs2];constructor
    ·exact λh=>⟨a,xs,rfl,ha,h⟩
    ·rintro ⟨a',xs',e,h,r⟩;cases e;rw[ha]at h;cases h;exact r
   rw[this];exact k1
 have two1:∀{Q1:VK}{E1:XK},Q1 (.bl s2) H2->V5 P w K Cw C Cs [.ref x,y] H2 Q1 E1:=λk1=>⟨x,y,T,rfl,wb2,ok,two k1⟩;have two2:∀{Q1:VK}{E1:XK},Q1 (.bl s2) H2->NZ K C [.ref t,y] H2 Q1 E1:=λk1=>⟨t,y,T,rfl,tel2,ok,two k1⟩;have ss:decide (s2=s2)=true:=decide_eq_true rfl;refine⟨_,rfl,x,dx,_,rfl,hx,rfl,_,rfl,?_⟩;dsimp only[tNil];refine two1 ?_;refine⟨_,rfl,s2,s2,rfl,_,rfl,?_⟩;rw[ss];refine iteF ?_;refine⟨_,rfl,_,rfl,?_⟩;dsimp only[tNil];refine two2 ?_;refine⟨_,rfl,s2,s2,rfl,_,rfl,?_⟩;rw[ss];refine iteF ?_;refine hk4 _ _ ?_;have no:s2=false->(∀g∈T.t4,y≠.str (nameOf g))->¬Nd T H2 y:=λe n h=>by
  rcases h with h|⟨g,hg,h⟩
  ·rw[hs2.mpr h]at e;cases e
  ·exact n g hg h
 cases s2 with
|true=>refine⟨_,rfl,_,rfl,?_⟩;refine iteT ?_;refine iteT ?_;exact⟨_,rfl,_,rfl,_,rfl,x,d,y,T,rfl,wb2,ok,dc.same S2,.inl (hs2.mp rfl),λH' S'=>kq _ (S2.trans S')⟩
|false=>
  refine⟨_,rfl,_,rfl,?_⟩;refine iteF ?_;refine⟨_,rfl,_,_,_,_,rfl,thy.ty,thy.kitS,_,rfl,?_⟩;refine J2 (λe=>?_) (λe=>?_);case' refine_2=>
   refine iteF ?_;have nn:=no rfl λg hg z=>by rw[z]at e;cases e
   have S3:=Same.refl H2
  case' refine_1=>
   obtain⟨z,rfl⟩:∃z,y=.str z:=by cases y<;>first|exact⟨_,rfl⟩|(cases e;done)
   have tb2:=tb.same (Zi.of S2);refine⟨_,rfl,ixL 4 tb2.at_ rfl ⟨l4,rfl,⟨_,SqL.of tb2.gr.2.choose_spec.1⟩,?_⟩⟩;refine ZY (J:=Itl K l4) T.t4.length (Nat.le_trans N4 (by decide)) (λi ys τ H'=>H2=H'/\ys=(T.t4.take i).map (λr=>V.str (nameOf r))/\∃o1,τ=[o1]) ⟨rfl,rfl,_,rfl⟩ (λi ys τ H' q=>by rw[q.2.1,lm,aB];omega) (λi ys τ H' hi q=>by rw[<-q.1];exact tb2.gr.go hi) (λys τ H' q=>by rw[<-q.1];exact tb2.gr.stop) (λi ys τ H' v H3 hi q yl=>?_) (λys τ H' q lg hlg=>?_)
   ·obtain⟨rfl,rfl,o1,rfl⟩:=q;have e1:T.t4[i]?=some T.t4[i]:=gE hi;obtain⟨rfl,a,rfl,na,ha⟩:=tb2.gr.item e1 yl;rw[bE,e1,a8];obtain⟨a0,b0,c0,d0,ez,_⟩:=Xf ok (aH hi);rw[ez]at ha;refine ixT 0 ha rfl ⟨rfl,?_,_,rfl⟩;rw[ez];rfl
   obtain⟨rfl,rfl,o1,rfl⟩:=q;rw[aO];refine nl2 hlg λH3 S3 e3=>?_;refine⟨lg,_,rfl,.inl (SqL.of e3),rfl,MM,_,rfl,?_⟩;refine J2 (λe'=>?_) (λe'=>?_)
   ·exact⟨_,rfl,_,rfl,_,rfl,x,d,_,T,rfl,wb2.same S3,ok,(dc.same S2).same S3,.inr ((Uh.mp e').imp λg h=>⟨h.1,congrArg V.str h.2⟩),λH' S'=>kq _ ((S2.trans S3).trans S')⟩
   have nn:=no rfl λg hg q=>by injection q with q;rw[Uh.mpr ⟨g,hg,q⟩]at e';cases e'
  all_goals
   have wb3:=wb2.same S3;have tg3:=tg2.same (Zi.of S3);refine⟨_,rfl,_,rfl,b,x,0,_,dt,T,rfl,wb3,ok,tg3,λz=>nn (Tn S3 thy z),λH4 S4=>⟨true,rfl,?_⟩⟩;refine iteT ?_;exact⟨_,rfl,_,rfl,b,x,1,_,dt,T,rfl,wb3.same S4,ok,tg3.same (Zi.of S4),λz=>nn (Tn (S3.trans S4) thy z),λH5 S5=>kq _ (S2.trans ((S3.trans S4).trans S5))⟩
end
section
variable {b:Addr}{H:Hp}
theorem L8:At .non .none:=.inl ⟨rfl,rfl⟩
theorem EA(x:Bool):At (.bl x) (.bool x):=.inr (.inl ⟨x,rfl,rfl⟩)
theorem Xb{i:Int}(h:i.natAbs<=1000):At (.int i) (.int i):=.inr (.inr (.inl ⟨i,rfl,rfl,.inl h⟩))
theorem FY:At (.int (10 ^ (20:Int).toNat)) (.int (10 ^ 20)):=.inr (.inr (.inl ⟨10 ^ 20,rfl,rfl,.inr rfl⟩))
theorem Z5{z:Str}(h:GS z):At (.str z) (.str z):=.inr (.inr (.inr ⟨z,rfl,rfl,h⟩))
theorem ZT{n:Nat}{v:V}{d:PyData}(h:At v d):IsB b H n v d:=by
 cases n with
|zero=>exact h
|succ n=>exact .inl h
theorem ib_t{n:Nat}{a:Addr}{xs:List V}{ds:List PyData}(na:a≠b)(e:H a=some (.tup xs))(l:xs.length<=3)(r:cz (IsB b H n) xs ds):IsB b H (n+1) (.ref a) (.tuple ds):=.inr ⟨a,xs,ds,rfl,na,.inr ⟨e,rfl⟩,l,r⟩
theorem ib_l{n:Nat}{a:Addr}{xs:List V}{ds:List PyData}(na:a≠b)(e:H a=some (.lst xs))(l:xs.length<=3)(r:cz (IsB b H n) xs ds):IsB b H (n+1) (.ref a) (.list ds):=.inr ⟨a,xs,ds,rfl,na,.inl ⟨e,rfl⟩,l,r⟩
end
theorem Dg{p:V->Prop}:∀y∈([]:List V),p y:=λ_ h=>nomatch h
theorem Ys{p:V->Prop}{x:V}{l:List V}(h:p x)(t:∀y∈l,p y):∀y∈x::l,p y:=λy hy=>by
 rcases au.mp hy with rfl|hy
 ·exact h
 ·exact t y hy
theorem EB{p:V->Prop}{l m:List V}(h:∀y∈l,p y)(t:∀y∈m,p y):∀y∈l++m,p y:=λy hy=>(aN.mp hy).elim (h y) (t y)
theorem FL:∀k,k<52->GS (Str.ofString (toString ((k:Nat):Int))):=by decide +kernel
theorem EZ:CPow 10 20:=by unfold CPow;decide
theorem D9:GS "wait"/\GS "":=by decide +kernel
theorem QA{n:Int}(h:n.natAbs<=20000):n.natAbs.log2<1920:=by
 by_cases e:n.natAbs=0
 ·rw[e];decide
 ·exact Nat.lt_of_lt_of_le ((Nat.log2_lt e).mpr (show n.natAbs<2 ^ 20 by omega)) (by decide)
def P1:Sp:=λvs H Q _=>∃(b p sd l1 l2 l3 l4:Addr)(T:Tb)(s0 s1 s2 s3:Str),vs=[.ref b,.ref p,.ref sd]/\Zu H b/\TbAt b H p T l1 l2 l3 l4/\OkTb T/\T.t1≠[]/\sd≠b/\H sd=some (.lst [.str s0,.str s1,.str s2,.str s3])/\GS s0/\GS s3 /\∀H' l ys,Zu H' b->Zi b H H'->H' l=some (.lst ys)->l≠b->4<=ys.length->ys.length<=30->(∀y∈ys,∃d,Tg b H' y d)->Q (.ref l) H'
section
variable {P:Program}{w:World}{K:af}{mg:Str->Option Value}{base:Heap}
theorem YM:FnScope [q_b,q_w,q_s,"_law_place","_law_turn","_law_things_here"] [q_b,q_w,q_s] (Ze T.f__law_things):=scO
theorem RV(B:∀x∈Blts,mg x=none)(CK:Can P w K mg base 1 "_law_take" [q_b,"_law_many"] Xr)(D:Df K mg "_law_things" T.f__law_things [q_b,q_w,q_s]):Can P w K mg base 2 "_law_things" [q_b,q_w,q_s] P1:=by
 refine D.cn YM λf cdv A outer s H vs Q E hr h=>?_;obtain⟨b,p,sd,l1,l2,l3,l4,T,s0,s1,s2,s3,rfl,bx,tb,ok,ne,nsd,hsd,g0,g3,kq⟩:=h;refine' ⟨_,(@Zd _ _ _ _ _ ?h28 (@Zd _ _ _ _ _ ?h29 (@Zd _ _ _ _ _ ?h30 (@Zd _ _ _ _ _ ?h31 (@Zj _ _ _ ?h32))))),?rd⟩;case' h32=>refine' (Zn (Zw VS (pv 5) ?h27))
 case' h31=>refine' (@st _ _ _ _ 5 _ _ YM.nd (Zw VS (pv 5) ?h20) (by rfl) (by exact bh rfl) (by rfl) (by exact .inl rfl))
 case' h30=>refine' (@st _ _ _ _ 5 _ _ YM.nd ?h13 (by rfl) (by exact bh rfl) (by rfl) (by exact .inl rfl))
 case' h29=>refine' (@st _ _ _ _ 4 _ _ YM.nd (cn CK hr (@pa2 _ _ _ _ _ (pv 0) (Zw ZX ?h5 Zc) (by rfl))) (by rfl) (by exact bh rfl) (by rfl) (by exact .inl rfl))
 case' h28=>refine' (@st _ _ _ _ 3 _ _ YM.nd ?h4 (by rfl) (by exact bh rfl) (by rfl) (by exact .inl rfl))
 case' h27=>refine' (@ZA _ _ _ _ (@Za _ _ _ _ _ ?h26 (@Za _ _ _ _ _ ?h24 (@pa3 _ _ _ _ _ _ _ ?h23 JX ?h22 (by rfl)) (by rfl)) (by rfl)))
 case' h26=>refine' (@Zt _ _ _ _ _ (@pa2 _ _ _ _ _ ?h25 Zc (by rfl)))
 case' h25=>refine' (@Zt _ _ _ _ _ (@pa1 _ _ _ (pv 3) (by rfl)))
 case' h24=>refine' (@Zt _ _ _ _ _ (@pa2 _ _ _ _ _ (pv 3) (Zw KS Zc Zc) (by rfl)))
 case' h23=>refine' (@Zt _ _ _ _ _ (@pa2 _ _ _ _ _ (pv 3) (Z7 PF rfl (bm B) MR (@pa1 _ _ _ (pv 4) (by rfl))) (by rfl)))
 case' h22=>refine' (@Zt _ _ _ _ _ (@pa2 _ _ _ _ _ ?h21 (pv 4) (by rfl)))
 case' h21=>refine' (@ZA _ _ _ _ (@pa1 _ _ _ (pv 3) (by rfl)))
 case' h20=>refine' (@ZA _ _ _ _ (@Za _ _ _ _ _ ?h19 (@Za _ _ _ _ _ ?h17 (@Za _ _ _ _ _ ?h16 (@Za _ _ _ _ _ ?h15 (@Za _ _ _ _ _ Zc (@pa3 _ _ _ _ _ _ _ JV Zp ?h14 (by rfl)) (by rfl)) (by rfl)) (by rfl)) (by rfl)) (by rfl)))
 case' h19=>refine' (@Zt _ _ _ _ _ (@pa2 _ _ _ _ _ ?h18 (pv 4) (by rfl)))
 case' h18=>refine' (@il _ _ _ _ _ _ K (pv 2) Zc (by rfl) (by exact λ_ _=>rfl))
 case' h17=>refine' (@Zt _ _ _ _ _ (@pa3 _ _ _ _ _ _ _ Zp (pv 3) (pv 4) (by rfl)))
 case' h16=>refine' (@Zt _ _ _ _ _ (@pa2 _ _ _ _ _ (pv 4) (pv 3) (by rfl)))
 case' h15=>refine' (@Zt _ _ _ _ _ (@pa2 _ _ _ _ _ (pv 3) Z4 (by rfl)))
 case' h14=>refine' (@il _ _ _ _ _ _ K (pv 2) Zc (by rfl) (by exact λ_ _=>rfl))
 case' h13=>refine' (@ZA _ _ _ _ (@Za _ _ _ _ _ (pv 3) (@Za _ _ _ _ _ ?h12 (@Za _ _ _ _ _ ?h10 (@Za _ _ _ _ _ ?h9 (@Za _ _ _ _ _ ?h8 (@pa3 _ _ _ _ _ _ _ ?h7 ?h6 Z4 (by rfl)) (by rfl)) (by rfl)) (by rfl)) (by rfl)) (by rfl)))
 case' h12=>refine' (@Zt _ _ _ _ _ (@pa2 _ _ _ _ _ (pv 3) (Zw ZX ?h11 Zc) (by rfl)))
 case' h11=>refine' (@il _ _ _ _ _ _ K (pv 1) Zc (by rfl) (by exact λ_ _=>rfl))
 case' h10=>refine' (@Zt _ _ _ _ _ (@pa2 _ _ _ _ _ (pv 3) (En W9 Zc) (by rfl)))
 case' h9=>refine' (@Zt _ _ _ _ _ (@pa2 _ _ _ _ _ (pv 3) JX (by rfl)))
 case' h8=>refine' (@ZA _ _ _ _ (@pa2 _ _ _ _ _ (pv 3) (pv 4) (by rfl)))
 case' h7=>refine' (@Zt _ _ _ _ _ (@pa1 _ _ _ (pv 3) (by rfl)))
 case' h6=>refine' (@Zt _ _ _ _ _ (@pa3 _ _ _ _ _ _ _ (pv 3) (pv 4) Zc (by rfl)))
 case' h5=>refine' (@il _ _ _ _ _ _ K (pv 1) Zc (by rfl) (by exact λ_ _=>rfl))
 case' h4=>refine' (@it _ _ _ _ _ _ K ?h3 Zc (by rfl) (by exact λ_ _=>rfl))
 case' h3=>refine' (@il _ _ _ _ _ _ K ?h1 (cn CK hr (@pa2 _ _ _ _ _ (pv 0) (ZO (r:=rLen K) YR rfl (bm B) b6 (@pa1 _ _ _ ?h2 (by rfl))) (by rfl))) (by rfl) (by exact λ_ _=>rfl))
 case' h2=>refine' (@il _ _ _ _ _ _ K (pv 1) Zc (by rfl) (by exact λ_ _=>rfl))
 case' h1=>refine' (@il _ _ _ _ _ _ K (pv 1) Zc (by rfl) (by exact λ_ _=>rfl))
 have hn0:=ok.n0;have hn1:=ok.n1;obtain⟨nl1,as,el1,las,ras⟩:=id tb.pl;have N1:=(Xo ok).1;have pos:0<T.t1.length:=List.length_pos_iff.mpr ne;refine tq λD0 hk0=>?_;refine ixL 1 tb.at_ rfl ⟨_,rfl,ixL 1 tb.at_ rfl ⟨l1,_,rfl,.inl (SqL.of el1),b,_,rfl,bx,?_,?_,λr H1 r0 r1 B1 A1=>?_⟩⟩
 ·rw[lm,las];omega
 ·rw[lm,las];exact Nat.lt_trans (QA (by omega)) (by decide)
 rw[lm,las]at r1;have hj:r.toNat<T.t1.length:=by omega
 have ea:as[r.toNat]?=some (as[r.toNat]'(by omega)):=gE (by omega);have er:T.t1[r.toNat]?=some T.t1[r.toNat]:=gE hj;obtain⟨naa,haa⟩:=ras _ _ _ ea er;obtain⟨⟨z,u⟩,ez,gz,_⟩:=Xh ok (aH hj);rw[ez]at haa;generalize as[r.toNat]'(by omega)=aa at ea naa haa;have ati:atI (as.map V.ref) r=some (.ref aa):=by have:((r.toNat:Nat):Int)=r:=Int.toNat_of_nonneg r0;rw[<-this];exact Zv (by rw[aD,ea];rfl)
 refine⟨l1,_,r,_,rfl,rfl,SqL.of (A1 _ _ el1 nl1),ati,aa,_,0,_,rfl,rfl,SqT.of (A1 _ _ haa naa),Zv (j:=0) rfl,?_⟩;refine hk0 _ _ (tq λD3 hk3=>?_);refine⟨_,rfl,ixL 0 (A1 _ _ tb.at_ tb.ne) rfl ⟨_,_,rfl,rfl,b,_,rfl,B1,(by omega),Nat.lt_trans (QA (by omega)) (by decide),λtn H2 t0 t1 B2 S2=>?_⟩⟩;refine hk3 _ _ (tq λD1 hk1=>?_);have A2:=A1.trans S2;have t1000:tn.natAbs<=1000:=by omega
 have n1000:(T.n+1).natAbs<=1000:=by omega
 have tlog:tn.natAbs.log2<1920:=QA (by omega);have gt:GS (Str.ofString (toString tn)):=by have:=FL tn.toNat (by omega);rwa [Int.toNat_of_nonneg t0]at this
 obtain⟨gw,ge⟩:=D9;refine⟨_,rfl,_,rfl,ixL 0 (A2 _ _ tb.at_ tb.ne) rfl ⟨_,_,rfl,rfl,zl,λc3 hc3=>?_⟩⟩;refine al2 B2 hc3 λH3 B3 S3 e3 n3=>?_;have A3:=A2.trans S3;refine⟨_,rfl,_,rfl,zl,λc4 hc4=>?_⟩;refine al2 B3 hc4 λH4 B4 S4 e4 n4=>?_;have A4:=A3.trans S4;refine⟨_,rfl,zl,λc5 hc5=>?_⟩;refine al2 B4 hc5 λH5 B5 S5 e5 n5=>?_;have A5:=A4.trans S5;refine⟨_,rfl,_,rfl,zl,λc6 hc6=>?_⟩;refine al2 B5 hc6 λH6 B6 S6 e6 n6=>?_;have A6:=A5.trans S6;refine⟨_,rfl,zl,λc7 hc7=>?_⟩;refine al2 B6 hc7 λH7 B7 S7 e7 n7=>?_;have A7:=A6.trans S7;refine⟨_,rfl,_,rfl,zl,λc8 hc8=>?_⟩;refine al2 B7 hc8 λH8 B8 S8 e8 n8=>?_;have A8:=A7.trans S8;refine⟨zl,λc9 hc9=>?_⟩;refine al2 B8 hc9 λH9 B9 S9 e9 n9=>?_;refine hk1 _ _ (tq λD2 hk2=>?_);have A9:=A8.trans S9;refine⟨_,rfl,ixL 0 (A9 _ _ hsd nsd) rfl ⟨_,rfl,zl,λc10 hc10=>?_⟩⟩;refine al2 B9 hc10 λH10 B10 S10 e10 n10=>?_;have A10:=A9.trans S10;refine⟨_,rfl,_,rfl,zl,λc11 hc11=>?_⟩;refine al2 B10 hc11 λH11 B11 S11 e11 n11=>?_;have A11:=A10.trans S11;refine⟨_,rfl,_,rfl,zl,λc12 hc12=>?_⟩;refine al2 B11 hc12 λH12 B12 S12 e12 n12=>?_;have A12:=A11.trans S12;refine⟨_,rfl,zl,λc13 hc13=>?_⟩;refine al2 B12 hc13 λH13 B13 S13 e13 n13=>?_;have A13:=A12.trans S13;refine λc14 hc14=>?_;refine al2 B13 hc14 λH14 B14 S14 e14 n14=>?_;have A14:=A13.trans S14;refine ixL 3 (A14 _ _ hsd nsd) rfl ⟨zl,λc15 hc15=>?_⟩;refine al2 B14 hc15 λH15 B15 S15 e15 n15=>?_;have A15:=A14.trans S15;refine⟨c9,c15,_,_,rfl,rfl,(S10.trans (S11.trans (S12.trans (S13.trans (S14.trans (S15.trans (Zi.refl b H15))))))) _ _ e9 n9,e15,zl,λc16 hc16=>?_⟩;refine al2 B15 hc16 λH16 B16 S16 e16 n16=>?_;refine hk2 _ _ ?_;have A16:=A15.trans S16;refine⟨_,rfl,_,rfl,zl,λc17 hc17=>?_⟩;refine al2 B16 hc17 λH17 B17 S17 e17 n17=>?_;have A17:=A16.trans S17;refine⟨zl,λc18 hc18=>?_⟩;refine al2 B17 hc18 λH18 B18 S18 e18 n18=>?_;have A18:=A17.trans S18;refine⟨_,rfl,_,_,rfl,rfl,EZ,zl,λc19 hc19=>?_⟩;refine al2 B18 hc19 λH19 B19 S19 e19 n19=>?_;have A19:=A18.trans S19;refine⟨_,rfl,_,rfl,_,rfl,tlog,zl,λc20 hc20=>?_⟩;refine al2 B19 hc20 λH20 B20 S20 e20 n20=>?_;have A20:=A19.trans S20;refine⟨_,rfl,zl,λc21 hc21=>?_⟩;refine al2 B20 hc21 λH21 B21 S21 e21 n21=>?_;have A21:=A20.trans S21;refine⟨_,rfl,zl,λc22 hc22=>?_⟩;refine al2 B21 hc22 λH22 B22 S22 e22 n22=>?_;have A22:=A21.trans S22;refine⟨zl,λc23 hc23=>?_⟩;refine al2 B22 hc23 λH23 B23 S23 e23 n23=>?_;have A23:=A22.trans S23;refine⟨c16,c23,_,_,rfl,rfl,(S17.trans (S18.trans (S19.trans (S20.trans (S21.trans (S22.trans (S23.trans (Zi.refl b H23)))))))) _ _ e16 n16,e23,zl,λc24 hc24=>?_⟩;refine al (G:=Q _) B23 hc24 λH24 B24 S24 e24 n24=>?_;have A24:=A23.trans S24;have K24:=Zi.refl b H24;have K23:=S24.trans K24;have K22:=S23.trans K23;have K21:=S22.trans K22;have K20:=S21.trans K21;have K19:=S20.trans K20;have K18:=S19.trans K19;have K17:=S18.trans K18;have K16:=S17.trans K17;have K15:=S16.trans K16;have K14:=S15.trans K15;have K13:=S14.trans K14;have K12:=S13.trans K13;have K11:=S12.trans K12;have K10:=S11.trans K11;have K9:=S10.trans K10;have K8:=S9.trans K9;have K7:=S8.trans K8;have K6:=S7.trans K7;have K5:=S6.trans K6;have K4:=S5.trans K5;have K3:=S4.trans K4;refine kq H24 c24 _ B24 A24 e24 n24 (Nat.le_of_ble_eq_true rfl) (Nat.le_of_ble_eq_true rfl) (EB (EB (Ys ⟨_,.inl (ZT (Z5 gz))⟩ (Ys ⟨_,.inl (IsB.same K3 (ib_t n3 e3 (Nat.le_of_ble_eq_true rfl) (.cons (ZT (Z5 gz)) (.cons (ZT (Xb n1000)) .nil))))⟩ (Ys ⟨_,.inl (IsB.same K4 (ib_t n4 e4 (Nat.le_of_ble_eq_true rfl) (.cons (ZT (Z5 gz)) (.cons (ZT (Xb (i:=-1) (by decide))) .nil))))⟩ (Ys ⟨_,.inl (IsB.same K5 (ib_t n5 e5 (Nat.le_of_ble_eq_true rfl) (.cons (ZT (Z5 gz)) (.cons (ZT (EA true)) .nil))))⟩ (Ys ⟨_,.inl (IsB.same K6 (ib_l n6 e6 (Nat.le_of_ble_eq_true rfl) (.cons (ZT (Z5 gz)) (.cons (ZT (Xb t1000)) .nil))))⟩ (Ys ⟨_,.inl (IsB.same K7 (ib_t n7 e7 (Nat.le_of_ble_eq_true rfl) (.cons (ZT (Z5 gz)) .nil)))⟩ (Ys ⟨_,.inl (IsB.same K8 (ib_t n8 e8 (Nat.le_of_ble_eq_true rfl) (.cons (ZT (Z5 gz)) (.cons (ZT (Xb t1000)) (.cons (ZT (Xb (i:=0) (by decide))) .nil)))))⟩ (Ys ⟨_,.inl (ZT (L8))⟩ Dg)))))))) (Ys ⟨_,.inl (IsB.same K10 (ib_t n10 e10 (Nat.le_of_ble_eq_true rfl) (.cons (ZT (Z5 g0)) (.cons (ZT (Xb t1000)) .nil))))⟩ (Ys ⟨_,.inl (IsB.same K11 (ib_t n11 e11 (Nat.le_of_ble_eq_true rfl) (.cons (ZT (Z5 gw)) (.cons (ZT (Z5 gz)) (.cons (ZT (Xb t1000)) .nil)))))⟩ (Ys ⟨_,.inl (IsB.same K12 (ib_t n12 e12 (Nat.le_of_ble_eq_true rfl) (.cons (ZT (Xb t1000)) (.cons (ZT (Z5 gz)) .nil))))⟩ (Ys ⟨_,.inl (IsB.same K13 (ib_t n13 e13 (Nat.le_of_ble_eq_true rfl) (.cons (ZT (Z5 gz)) (.cons (ZT (L8)) .nil))))⟩ (Ys ⟨_,.inl (ZT (Xb (i:=7) (by decide)))⟩ (Ys ⟨_,.inr ⟨c14,rfl,n14,K14 _ _ e14 n14,rfl⟩⟩ (Ys ⟨_,.inl (ZT (Z5 ge))⟩ (Ys ⟨_,.inl (ZT (Z5 g3))⟩ Dg))))))))) (Ys ⟨_,.inl (IsB.same K18 (ib_t n18 e18 (Nat.le_of_ble_eq_true rfl) (.cons (IsB.same S18 (ib_t n17 e17 (Nat.le_of_ble_eq_true rfl) (.cons (ZT (Z5 gz)) .nil))) (.cons (ZT (Xb (i:=0) (by decide))) .nil))))⟩ (Ys ⟨_,.inl (IsB.same K19 (ib_t n19 e19 (Nat.le_of_ble_eq_true rfl) (.cons (ZT (Z5 gz)) (.cons (ZT (FY)) .nil))))⟩ (Ys ⟨_,.inl (IsB.same K20 (ib_t n20 e20 (Nat.le_of_ble_eq_true rfl) (.cons (ZT (Z5 gz)) (.cons (ZT (Z5 gt)) .nil))))⟩ (Ys ⟨_,.inl (ZT (EA true))⟩ (Ys ⟨_,.inl (IsB.same K22 (ib_t n22 e22 (Nat.le_of_ble_eq_true rfl) (.cons (IsB.same S22 (ib_l n21 e21 (Nat.le_of_ble_eq_true rfl) (.cons (ZT (Z5 gz)) .nil))) (.cons (ZT (Xb t1000)) .nil))))⟩ Dg))))))
end
end SX
namespace WD
open PySem L2 PySem.Spec PyProof.Rows TB
section
variable {b:Addr}{H H':Hp}
theorem Zu.tup{H:Hp}{b p:Addr}{xs:List V}(h:Zu H b)(hp:H p=some (.tup xs)):p≠b:=by obtain⟨x,y,z,e⟩:=h;exact ne_of hp e (by intro z;cases z)
theorem Zu.ins{p C dx:Addr}{fs:List (Str×V)}(h:Zu H b)(hp:H p=some (.ins C dx fs)):p≠b:=by obtain⟨x,y,z,e⟩:=h;exact ne_of hp e (by intro z;cases z)
theorem Zu.dK{p:Addr}{k:Kv}(h:Zu H b)(hp:H p=some (.dK k)):p≠b:=by obtain⟨x,y,z,e⟩:=h;exact ne_of hp e (by intro z;cases z)
theorem Uc(hb:Zu H b)(s:Zi b H H'){fs:List (Str×V)}{f g:Str}{r:PR}{k:Kv}(h:Z6 H fs f g r k):Z6 H' fs f g r k:=by obtain⟨l,d,xs,rs,a1,a2,a3,a4,a5⟩:=h;exact⟨l,d,xs,rs,a1,a2,a3,s _ _ a4 (hb.tup a4),s _ _ a5 (hb.dK a5)⟩
theorem V7(hb:Zu H b)(s:Zi b H H'){xs:List V}{t:List (List V)}(hf:∀ys∈t,∀y∈ys,Flat y)(h:Ye H xs (t.map some)):Ye H' xs (t.map some):=⟨h.1,λi x r e1 e2=>by have h0:=h.2 i x r e1 e2;rw[aD]at e2;obtain⟨q,hq,rfl⟩:=a_.mp e2;obtain⟨p,e,hp,_⟩:=h0;exact⟨p,e,s _ _ hp (hb.tup hp),λy hy=>RN (hf q (aQ hq) y hy)⟩⟩
theorem Tel.box{C t:Addr}{T:Tb}(hb:Zu H b)(o:OkTb T)(s:Zi b H H')(h:Tel H C t T):Tel H' C t T:=by
 obtain⟨fs,x1,x2,x3,x4,k,tp,d⟩:=h;refine⟨fs,x1,x2,x3,x4,k,⟨⟨⟨let ⟨dx,e⟩:=tp.tab.tab.at_;⟨dx,s _ _ e (hb.ins e)⟩,tp.tab.tab.only⟩,tp.tab.turns,Uc hb s tp.tab.p,Uc hb s tp.tab.r,Uc hb s tp.tab.w,Uc hb s tp.tab.g⟩,λr hr xs rs er=>?_⟩,d⟩;have rr:=tp.rows r hr xs rs er;rcases hr with rfl|rfl|rfl|rfl
 ·cases er;exact V7 hb s (o.flat (.inl rfl)) rr
 ·cases er;exact V7 hb s (o.flat (.inr (.inl rfl))) rr
 ·cases er;exact V7 hb s (o.flat (.inr (.inr (.inl rfl)))) rr
 ·cases er;exact V7 hb s (o.flat (.inr (.inr (.inr rfl)))) rr
end
def P6(C:Addr):Sp:=λvs H Q _=>∃(b p l1 l2 l3 l4:Addr)(T:Tb),vs=[.ref p]/\TbAt b H p T l1 l2 l3 l4/\OkTb T/\∀H' t,Same H H'->Tel H' C t T->Q (.ref t) H'
section
variable {P:Program}{w:World}{K:af}{mg:Str->Option Value}{base:Heap}{C Cb:Addr}
theorem Pb:FnScope [q_w] [q_w] (Ze T.f__law_table):=scO
theorem RZ(B:∀x∈Blts,mg x=none)(M:TMk P w K mg base C Cb)(D:Df K mg "_law_table" T.f__law_table [q_w]):Can P w K mg base 9 "_law_table" [q_w] (P6 C):=by obtain⟨fm,fdm,hM,FM,bM⟩:=M.made;refine D.cn Pb λf cdv A outer s H vs Q E hr h=>?_;obtain⟨b,p,l1,l2,l3,l4,T,rfl,tb,ok,k⟩:=h;refine⟨_,(Zj (Zn (Xi hM FM hr rfl M.mg bM .nil U8 (Za (il K (pv 0) Zc) (Za (Z7 YY rfl (bm B) YZ (Za (il K (pv 0) Zc) Zh)) (Za (Z7 Jk rfl (bm B) XY (Za (il K (pv 0) Zc) Zh)) (Za (Z7 YY rfl (bm B) YZ (Za (il K (pv 0) Zc) Zh)) (Za (Z7 Jk rfl (bm B) XY (Za (il K (pv 0) Zc) Zh)) Zh)))))))),?_⟩;obtain⟨x1,_,h1,_,r1⟩:=tb.pl.part (ok.flat (.inl rfl));obtain⟨x2,_,h2,_,r2⟩:=tb.rd.part (ok.flat (.inr (.inl rfl)));obtain⟨x3,_,h3,_,r3⟩:=tb.wy.part (ok.flat (.inr (.inr (.inl rfl))));obtain⟨x4,_,h4,_,r4⟩:=tb.gr.part (ok.flat (.inr (.inr (.inr rfl))));refine ixL 0 tb.at_ rfl (ixL 1 tb.at_ rfl ⟨l1,x1,rfl,.inl (SqL.of h1),λc1 hc1=>?_⟩);have S1:Same H (upd H c1 (.lst x1)):=sameNew (Same.refl _) hc1;have e1:upd H c1 (.lst x1) c1=some (.lst x1):=Zb;generalize upd H c1 (.lst x1)=H1 at S1 e1 ⊢;refine ixL 2 (S1 _ _ tb.at_) rfl ⟨l2,x2,rfl,.inl ⟨SqL.of (S1 _ _ h2),λc2 hc2=>?_⟩⟩;have S2:Same H1 (upd H1 c2 (.tup x2)):=sameNew (Same.refl _) hc2;have e2:upd H1 c2 (.tup x2) c2=some (.tup x2):=Zb;generalize upd H1 c2 (.tup x2)=H2 at S2 e2 ⊢;have S02:=S1.trans S2;refine ixL 3 (S02 _ _ tb.at_) rfl ⟨l3,x3,rfl,.inl (SqL.of (S02 _ _ h3)),λc3 hc3=>?_⟩;have S3:Same H2 (upd H2 c3 (.lst x3)):=sameNew (Same.refl _) hc3;have e3:upd H2 c3 (.lst x3) c3=some (.lst x3):=Zb;generalize upd H2 c3 (.lst x3)=H3 at S3 e3 ⊢;have S03:=S02.trans S3;refine ixL 4 (S03 _ _ tb.at_) rfl ⟨l4,x4,rfl,.inl ⟨SqL.of (S03 _ _ h4),λc4 hc4=>?_⟩⟩;have S4:Same H3 (upd H3 c4 (.tup x4)):=sameNew (Same.refl _) hc4;have e4:upd H3 c4 (.tup x4) c4=some (.tup x4):=Zb;generalize upd H3 c4 (.tup x4)=H4 at S4 e4 ⊢;have S04:=S03.trans S4;have q1:YE H4 (.ref c1) (prs x1 T.t1):=⟨⟨c1,rfl,.inl (S4 _ _ (S3 _ _ (S2 _ _ e1)))⟩,r1.same S04⟩;have q2:YE H4 (.ref c2) (prs x2 T.t2):=⟨⟨c2,rfl,.inr (S4 _ _ (S3 _ _ e2))⟩,r2.same S04⟩;have q3:YE H4 (.ref c3) (prs x3 T.t3):=⟨⟨c3,rfl,.inl (S4 _ _ e3)⟩,r3.same S04⟩;have q4:YE H4 (.ref c4) (prs x4 T.t4):=⟨⟨c4,rfl,.inr e4⟩,r4.same S04⟩;exact Qv (.int T.n) q1 q2 q3 q4 (Qx ok (r1.same S04) (r2.same S04) (r3.same S04) (r4.same S04) λH' x s _ tl=>k H' x (S04.trans s) tl)
end
end WD
namespace SX
open PySem L2 PySem.Spec PyProof.Rows TB WD
mutual
noncomputable def noL:PyData->Bool
|.list _=>false
|.dict _=>false
|.tuple ds=>noLs ds
|_=>true
noncomputable def noLs:List PyData->Bool
|[]=>true
|d::ds=>noL d&&noLs ds
end
mutual
theorem Ls{b:Addr}{H H':Hp}(hb:Zu H b)(s:Zi b H H'):∀{v:V}{d:PyData},Is H v d->noL d=true->Is H' v d
|_,_,.non,_=>.non
|_,_,.bl b,_=>.bl b
|_,_,.int i,_=>.int i
|_,_,.str z,_=>.str z
|_,_,.lst e r,h=>by simp[noL]at h
|_,_,.tup e r,h=>.tup (s _ _ e (hb.tup e)) (NF hb s r (by simpa[noL]using h))
theorem NF{b:Addr}{H H':Hp}(hb:Zu H b)(s:Zi b H H'):∀{v:List V}{d:List PyData},IsAll H v d->noLs d=true->IsAll H' v d
|_,_,.nil,_=>.nil
|_,_,.cons x r,h=>by have h':=h;simp only[noLs,Bool.and_eq_true]at h';exact .cons (Ls hb s x h'.1) (NF hb s r h'.2)
end
theorem Kc{T:Tb}(o:OkTb T){xs:List V}{j:Nat}{S:Sx}(h:Xv T xs j S):noL (Xk S)=true:=by
 rcases h with⟨y,hy,i,_,_,_,_,rfl⟩|⟨y,hy,_,_,rfl⟩|⟨y,hy,i,_,_,_,_,rfl⟩|⟨y,hy,i,_,_,_,_,_,rfl⟩
 ·rfl
 ·rfl
 ·rfl
 ·obtain⟨⟨z,r⟩,rfl,_⟩:=Xh o hy;cases r<;>rfl
theorem Rx{α β:Type}{R R':α->β->Prop}{a:List α}{c:List β}(h:cz R a c)(k:∀x y,y∈c->R x y->R' x y):cz R' a c:=by
 induction h with
|nil=>exact .nil
|@cons x y a c q t ih=>exact .cons (k _ _ (by simp) q) (ih λx y hy=>k x y (by simp[hy]))
theorem Dc.box{b p:Addr}{H H':Hp}{T:Tb}(o:OkTb T)(hb:Zu H b)(s:Zi b H H')(h:Dc H p (allS T)):Dc H' p (allS T):=by
 obtain⟨kvs,e,l,⟨vs,r,q⟩,_⟩:=h;have np:p≠b:=by obtain⟨x,y,z,eb⟩:=hb;exact ne_of e eb (by intro z;cases z)
 refine⟨kvs,s _ _ e np,l,⟨vs,Rx r λx S hS i=>?_,q⟩,trivial⟩;obtain⟨j,is⟩:=MU o hS;exact Ls hb s i (Kc o is)
theorem StL.ref{H:Hp}{Cs:Nat->Addr}{T:Tb}{vs:List V}{L:List Sx}(h:StL H Cs T vs L):∀v∈vs,∃x,v=.ref x:=by
 induction h with
|nil=>intro v hv;cases hv
|cons q t ih=>
  intro v hv;rcases au.mp hv with rfl|hv
  ·obtain⟨x,j,e,_⟩:=q;exact⟨x,e⟩
  ·exact ih v hv
theorem L6{b:Addr}{H:Hp}{p:Addr}{vs:List V}(hb:Zu H b)(e:H p=some (.lst vs))(h:∀v∈vs,∃x:Addr,v=.ref x):p≠b:=λz=>by subst z;obtain⟨x,y,u,eb⟩:=hb;rw[e]at eb;cases eb;obtain⟨a,ha⟩:=h _ (az);cases ha
theorem Du{f:Sx->PyData}{k:MK}{vs:List V}{L:List Sx}{v:V}(h:v∈selV f k vs L):v∈vs:=by unfold selV at h;obtain⟨p,hp,rfl⟩:=av.mp h;exact(dH (b9.mp hp).1).1
theorem StL.box{b:Addr}{H H':Hp}{Cs:Nat->Addr}{T:Tb}(hb:Zu H b)(s:Zi b H H'){vs:List V}{L:List Sx}(h:StL H Cs T vs L):StL H' Cs T vs L:=Paired.mapP h λ_ _ hZ=>by obtain⟨y,j,e,⟨dy,ky,vt,vh,h1,h2,h3,h4⟩,i⟩:=hZ;have ht:∀c ys,H c=some (.tup ys)->H' c=some (.tup ys):=λc ys e=>s _ _ e (hb.tup e);exact⟨y,j,e,⟨dy,ky,vt,vh,s _ _ h1 (hb.ins h1),ht _ _ h2,VD (Jq i).1 ht h3,VD (Jq i).2 ht h4⟩,i⟩
theorem Grp.box{P:Program}{w:World}{b:Addr}{H H':Hp}{d:Addr}{f:Sx->PyData}{vs:List V}{L:List Sx}{kvs:List (MK×V)}(hb:Zu H b)(s:Zi b H H')(hv:∀v∈vs,∃x:Addr,v=.ref x)(g:Grp P w H d f vs L kvs):Grp P w H' d f vs L kvs:=by
 obtain⟨φ,ed⟩:=DMw.isExt g.dm;have nd:d≠b:=by obtain⟨x,y,z,eb⟩:=hb;exact ne_of ed eb (by intro z;cases z)
 refine g.keep ((s _ _ ed nd).trans ed.symm) (λc ys e=>s _ _ e (hb.tup e)) λk a h=>?_;obtain⟨c,ec,e⟩:=g.yes k _ h;cases ec;exact(s _ _ e (L6 hb e λv h=>hv v (Du h))).trans e.symm
theorem Wb.box{P:Program}{w:World}{b:Addr}{H H':Hp}{Cw C:Addr}{Cs:Nat->Addr}{x:Addr}{T:Tb}(o:OkTb T)(hb:Zu H b)(s:Zi b H H')(h:Wb P w H Cw C Cs x T):Wb P w H' Cw C Cs x T:=by obtain⟨dx,t,p,d1,d2,us,k1,k2,hx,tel,hp,sl,g1,g2⟩:=h;exact⟨dx,t,p,d1,d2,us,k1,k2,s _ _ hx (hb.ins hx),tel.box hb o s,s _ _ hp (L6 hb hp sl.ref),sl.box hb s,g1.box hb s sl.ref,g2.box hb s sl.ref⟩
theorem IsB.keep{b:Addr}{H H':Hp}(kl:∀a xs,a≠b->H a=some (.lst xs)->xs.length<=3->H' a=some (.lst xs))(kt:∀a xs,a≠b->H a=some (.tup xs)->H' a=some (.tup xs)):∀{n:Nat}{v:V}{d:PyData},IsB b H n v d->IsB b H' n v d
|0,_,_,h=>h
|n+1,v,d,h=>by
  rcases h with h|⟨a,xs,ds,rfl,na,(⟨h,rfl⟩|⟨h,rfl⟩),l,r⟩
  ·exact .inl h
  ·exact .inr ⟨a,xs,ds,rfl,na,.inl ⟨kl _ _ na h l,rfl⟩,l,Paired.mapP r λ_ _ q=>q.keep kl kt⟩
  ·exact .inr ⟨a,xs,ds,rfl,na,.inr ⟨kt _ _ na h,rfl⟩,l,Paired.mapP r λ_ _ q=>q.keep kl kt⟩
theorem Tg.app{b l:Addr}{H:Hp}{ys:List V}{o:HO}(hl:H l=some (.lst ys))(h4:4<=ys.length){v:V}{d:PyData}(h:Tg b H v d):Tg b (upd H l o) v d:=by
 rcases h with h|⟨a,rfl,na,h,rfl⟩
 ·refine .inl (h.keep (λa xs _ e hx=>?_) λa xs _ e=>?_)
  ·rw[Zg (λz=>by subst z;rw[hl]at e;cases e;omega)];exact e
  ·rw[Zg (ne_of e hl (λz=>nomatch z))];exact e
 ·exact .inr ⟨a,rfl,na,by rw[Zg (ne_of h hl (λz=>nomatch z))];exact h,rfl⟩
noncomputable def ps0:Pl:=[("a",some 1),("b",none)]
noncomputable def rd0:Rd:=⟨"r","a",0,"b",1,3⟩
noncomputable def gr0:Gr:=⟨"g","a",1,2⟩
noncomputable def T0:Tb:=⟨2,ps0.map ZG,[X9 rd0],[],[grRow gr0]⟩
noncomputable def T1:Tb:=⟨5,[],[],[],[]⟩
theorem nm0:Z0 false (.str "a")=true/\Z0 false (.str "b")=true/\Z0 false (.str "r")=true/\Z0 true (.str "g")=true/\("a":Str)≠"b":=by refine⟨?_,?_,?_,?_,?_⟩<;>decide +kernel
theorem len0:("a":Str).length<=1000/\("b":Str).length<=1000:=by constructor<;>decide +kernel
theorem QO{j:Nat}{n:Int}{t1:List (List V)}:PM j n t1 []:=⟨Nat.zero_le _,fh,(λ_ h=>nomatch h),λ_=>by decide⟩
theorem ok1:OkTb T1:=⟨by decide,by decide,λj hj=>by rcases hj with rfl|rfl|rfl|rfl<;>exact QO⟩
theorem ok0:OkTb T0:=by
 obtain⟨na,nb,nr,ng,ab⟩:=nm0;have sh:∀p∈ps0,p.1.length<=1000:=λp hp=>by
  simp only[ps0,au,aG,or_false]at hp;rcases hp with rfl|rfl
  ·exact len0.1
  ·exact len0.2
 refine⟨by decide,by decide,λj hj=>?_⟩;rcases hj with rfl|rfl|rfl|rfl
 ·refine⟨by show 2<=14;decide,?_,λys hy=>?_,(λz=>by cases z)⟩
  ·show(["a","b"]:List Str).Nodup;simp[ab]
  ·obtain⟨p,hp,rfl⟩:=av.mp hy;simp only[ps0,au,aG,or_false]at hp;rcases hp with rfl|rfl
   ·exact KL na (λi h=>by cases h;decide)
   ·exact KL nb (λi h=>by cases h)
 ·refine⟨by show 1<=80;decide,?_,λys hy=>?_,(λz=>by cases z)⟩
  ·show(["r"]:List Str).Nodup;simp
  ·have hy:ys∈[X9 rd0]:=hy;rw[aU]at hy;subst hy;exact El sh ⟨⟨⟨1,by simp[ps0,rd0]⟩,⟨none,by simp[ps0,rd0]⟩,ab⟩,by decide,by decide,by decide,by decide,by decide,by decide⟩ nr
 ·exact QO
 ·refine⟨by show 1<=300;decide,?_,λys hy=>?_,(λ_=>by show(2:Int)+0<=300;decide)⟩
  ·show(["g"]:List Str).Nodup;simp
  ·have hy:ys∈[grRow gr0]:=hy;rw[aU]at hy;subst hy;exact Ex (v:=.non) ⟨ZG ("a",some 1),by simp[T0,ps0],rfl⟩ len0.1 (by decide) (by decide) (by decide) (by decide) ng
theorem all1:allS T1=[]:=rfl
noncomputable def nd0:PyData:=.tuple [.str "b",.int 1]
theorem sel0:(allS T0).filter (nodeF Sx.head nd0)=[Xw (X9 rd0)]:=by kernel_rfl
theorem nn1{H:Hp}{y:V}:¬Nd T1 H y:=by rintro (⟨a,xs,_,_,g,hg,_⟩|⟨g,hg,_⟩)<;>cases hg
theorem nd_0{H:Hp}{c:Addr}(h:H c=some (.tup [.str "b",.int 1])):Nd T0 H (.ref c):=.inl ⟨c,_,rfl,h,ZG ("b",none),by simp[T0,ps0],1,rfl,by decide,by decide⟩
def P5(K:af):Sp:=λvs H Q _=>∃(a:Addr)(ns:List Int),vs=[.ref a]/\SqL K H a (ns.map V.int)/\ns.length<=63/\∀H',Q (.bl true) H'
theorem LJ(ns:List Int)(lo hi:Option Int):∀v∈cutV (ns.map V.int) lo hi,∃c,v=.int c:=by intro v hv;unfold cutV at hv;have h1:=List.mem_of_mem_drop (gk hv);obtain⟨c,_,e⟩:=av.mp h1;exact⟨c,e.symm⟩
structure WMk(P:Program)(w:World)(K:af)(mg:Str->Option Value)(base:Heap)(Cw C:Addr)(Cs:Nat->Addr):Prop where
 made:∃f fd,Mk K Cw f/\FnOk P w K mg base CX0 7 f fd ["self","table"] (NY P w Cw C Cs)/\Binds K fd ["self","table"] []
 mg:mg "Web"=some (.ref Cw)
theorem tn{σ:L2.St}{H:Hp}{Q:List V->Hp->Prop}(h:Q [] H):tNil σ H Q:=h
theorem Mh{P:Program}{w:World}{Cw C:Addr}{Cs:Nat->Addr}{H:Hp}{t:Addr}{T:Tb}{R:Addr->Hp->Prop}{E:XK}(tel:Tel H C t T)(o:OkTb T)(k:∀H' x,Same H H'->Wb P w H' Cw C Cs x T->R x H'):∀x dx,H x=none->H dx=none->dx≠x->NY P w Cw C Cs [.ref x,.ref t] (upd (upd H dx (.own x)) x (.ins Cw dx [])) (λv H'=>v=.non/\R x H') E:=λx dx hx hdx _=>⟨x,dx,t,T,H,rfl,λc o e=>by rw[Zg (Zf e hx),Zg (Zf e hdx)];exact e,hx,Zb,tel,o,λH' s wb=>⟨rfl,k H' x s wb⟩⟩
theorem PZ{C Cb:Addr}{H:Hp}{R:Addr->Hp->Prop}{E:XK}{T:Tb}(o:OkTb T){v1 v2 v3 v4:V}{x1 x2 x3 x4:List V}(p1:YE H v1 (prs x1 T.t1))(p2:YE H v2 (prs x2 T.t2))(p3:YE H v3 (prs x3 T.t3))(p4:YE H v4 (prs x4 T.t4))(r1:Ye H x1 (T.t1.map some))(r2:Ye H x2 (T.t2.map some))(r3:Ye H x3 (T.t3.map some))(r4:Ye H x4 (T.t4.map some))(k:∀H' x,Same H H'->Tel H' C x T->R x H'):∀x dx,H x=none->H dx=none->dx≠x->G0 C Cb [.ref x,.int T.n,v1,v2,v3,v4] (upd (upd H dx (.own x)) x (.ins C dx [])) (λv H'=>v=.non/\R x H') E:=λx dx hx hdx ne=>by
 have h:=Qv (Q:=λu H'=>∃x',u=.ref x'/\R x' H') (E:=E) (C:=C) (Cb:=Cb) (.int T.n) p1 p2 p3 p4 (Qx o r1 r2 r3 r4 λH' x s _ tl=>⟨x,rfl,k H' x s tl⟩) x dx hx hdx ne;have e:(λ(v:V)(H':Hp)=>v=.non/\∃x',V.ref x=.ref x'/\R x' H')=λv H'=>v=.non/\R x H':=by funext v H';simp
 rw[e]at h;exact h
theorem Xl{H:Hp}{t:List (List V)}(hf:∀ys∈t,∀y∈ys,Flat y){xs:List V}(h:cz (λx y=>∃a:Addr,x=.ref a/\H a=some (.tup y)) xs t):Ye H xs (t.map some):=⟨by rw[bq h,lm],λi x r e1 e2=>by rw[aD]at e2;obtain⟨q,hq,rfl⟩:=a_.mp e2;obtain⟨a,rfl,ha⟩:=YG h e1 hq;exact⟨a,rfl,ha,λy hy=>RN (hf q (aQ hq) y hy)⟩⟩
theorem Xn{H:Hp}{l:Addr}{xs:List V}{t:List (List V)}(e:H l=some (.lst xs))(r:Ye H xs (t.map some)):YE H (.ref l) (prs xs t):=⟨⟨l,rfl,.inl e⟩,r⟩
theorem Nx{α β:Type}{R:α->β->Prop}:∀{a:List α}{c:List β},a.length=c.length->(∀(i:Nat)x y,a[i]?=some x->c[i]?=some y->R x y)->cz R a c
|[],[],_,_=>.nil
|[],_::_,h,_=>by cases h
|_::_,[],h,_=>by cases h
|x::a,y::c,h,k=>.cons (k 0 x y rfl rfl) (Nx (by simpa using h) λi x y h1 h2=>k (i+1) x y (by simpa using h1) (by simpa using h2))
theorem NB{H:Hp}{T:Tb}{kvs:List (List Key×V)}{bs:List Addr}(pr:cz (λ(kv:List Key×V)(S:Sx)=>kv.1=S.key/\Is H kv.2 (Xk S)) kvs (allS T))(hl:bs.length=kvs.length)(hb:∀(i:Nat)b kv,bs[i]?=some b->kvs[i]?=some kv->H b=some (.tup (kv.1.map kV))):KeyL H (bs.map V.ref) (allS T):=by
 have hp:=bq pr;refine Nx (by rw[lm,hl,hp]) λi x S hx hS=>?_;rw[aD]at hx;obtain⟨b,hb',rfl⟩:=a_.mp hx;have hi:i<kvs.length:=by rw[hp];exact(aw.mp hS).1
 have hk:=gE hi;have:=hb i b _ hb' hk;rw[(YG pr hk hS).1]at this;exact⟨b,rfl,this⟩
theorem Nb{P:Program}{w:World}{H:Hp}{Cw C:Addr}{Cs:Nat->Addr}{x:Addr}{T:Tb}(h:Wb P w H Cw C Cs x T):∃dx t p d1 d2,H x=some (.ins Cw dx (wfl t p d1 d2)):=by obtain⟨dx,t,p,d1,d2,_,_,_,hx,_⟩:=h;exact⟨dx,t,p,d1,d2,hx⟩
theorem KJ{b l:Addr}{H:Hp}{T:Tb}(ok:OkTb T)(h:RowsAt b H l T.t1):∃as:List Addr,H l=some (.lst (as.map V.ref))/\as.length=T.t1.length/\∀r:Int,0<=r->r<(T.t1.length:Int)->∃(a:Addr)(z:Str)(u:V),atI (as.map V.ref) r=some (.ref a)/\a≠b/\H a=some (.tup [.str z,u])/\GS z:=by
 obtain⟨n,as,e,hl,ra⟩:=h;refine⟨as,e,hl,λr r0 r1=>?_⟩;have hj:r.toNat<T.t1.length:=by omega
 have ea:as[r.toNat]?=some (as[r.toNat]'(by omega)):=gE (by omega);obtain⟨na,ha⟩:=ra _ _ _ ea (gE hj);obtain⟨⟨z,u⟩,ez,gz,_⟩:=Xh ok (aH hj);rw[ez]at ha;generalize as[r.toNat]'(by omega)=aa at ea na ha;refine⟨aa,z,_,?_,na,ha,gz⟩;have:((r.toNat:Nat):Int)=r:=Int.toNat_of_nonneg r0;rw[<-this];exact Zv (by rw[aD,ea];rfl)
section
variable {P:Program}{w:World}{K:af}{mg:Str->Option Value}{base:Heap}{Cw C Cb Cn:Addr}{Cs:Nat->Addr}
theorem Y4:FnScope ["_law_script","_law_beside","_law_cell_here",q_b,q_w,q_s,q_t,"_law_steps_here","_law_web","_law_things_here","_law_k","_law_thing","_law_bare"] ["_law_script"] (Ze T.f_law):=scO
noncomputable def QU:Scope:=csx [(".0",.local),("_law_row",.local)]
theorem QR:CompScope QU (Ze T.f_law):=⟨rfl,by decide +kernel,by decide +kernel,by decide +kernel⟩
theorem QT:(["_law_row"]:List Str).Nodup:=by decide +kernel
theorem QS:CompNames ["_law_script","_law_beside","_law_cell_here",q_b,q_w,q_s,q_t,"_law_steps_here","_law_web","_law_things_here","_law_k","_law_thing","_law_bare"] QU ["_law_row"] [none]:=.mk' (by decide +kernel)
theorem E5{f:Addr}{fd:bH}(B:∀x∈Blts,mg x=none)(Z:WCl K Cw)(M:TMk P w K mg base C Cb)(WM:WMk P w K mg base Cw C Cs)(CB:Can P w K mg base 1 "_law_box" ["_law_cell_here"] Ej)(CK:Can P w K mg base 1 "_law_take" [q_b,"_law_many"] Xr)(CW:Can P w K mg base 4 "_law_world" [q_b] SG)(CT:Can P w K mg base 9 "_law_table" [q_w] (P6 C))(CS:Can P w K mg base 1 "_law_steps" [q_w] P7)(CY:Can P w K mg base 2 "_law_keys" ["_law_steps_here"] (Ri Cs))(CH:Can P w K mg base 2 "_law_things" [q_b,q_w,q_s] P1)(CO:Can P w K mg base 9 "_law_of_thing" [q_t,"_law_web","_law_steps_here",q_w,"_law_thing"] (Nq P w Cw C Cs))(CR:Can P w K mg base 8 "_law_refused" ["_law_web","_law_way_here","_law_thing"] (U3 P w Cw C Cs))(CI:CanM P w K mg base (CX1 P w) 7 Cw "leading_in" ["self","node"] (JR P w K Cw C Cn Cs Sx.head))(CP:CanM P w K mg base CX0 5 Cw "is_spot" ["self","thing"] (V5 P w K Cw C Cs))(CA:CanM P w K mg base CX0 1 Cw "all_steps" ["self"] (Kk P w Cw C Cs))(F:Fun K "law" "law" T.f_law f fd):FnOk P w K mg base CX0 10 f fd ["_law_script"] (P5 K):=by
 obtain⟨fm,fdm,hM,FM,bM⟩:=M.made;obtain⟨fw,fdw,hW,FW,bW⟩:=WM.made;refine F.ok Y4 (λvs H Q E h=>?_) (λcdv A outer s H vs Q E hr h=>?_)
 ·obtain⟨a,ns,rfl,_⟩:=h;rfl
 ·obtain⟨a,ns,rfl,hS,hlen,k⟩:=h;refine' ⟨_,(@Zd _ _ _ _ _ ?h43 (@Zd _ _ _ _ _ ?h44 (@Zd _ _ _ _ _ ?h45 (@Zj _ _ _ ?h46)))),?rd⟩;case' h46=>refine' (Zn (YB (@YC _ _ _ _ _ _ _ _ (K0 hr.units) (Xm CA Z.cl Yk hr.m (pv 12)) ?h42 (ZC _)) (YB (Ru (Yc CP Z.cl Yk hr.m (pv 12) (@pa1 _ _ _ ?h41 (by rfl)))) (YF (cn CR hr (@pa3 _ _ _ _ _ _ _ (pv 12) Zc ?h40 (by rfl)))))))
  case' h45=>refine' (@st _ _ _ _ 12 _ _ Y4.nd (Xi hW FW hr.m rfl WM.mg bW .nil Yk (@pa1 _ _ _ (Xi hM FM hr.m rfl M.mg bM .nil U8 (@Za _ _ _ _ _ Zc (@Za _ _ _ _ _ ?h39 (@pa3 _ _ _ _ _ _ _ ?h38 ?h37 ?h36 (by rfl)) (by rfl)) (by rfl))) (by rfl))) (by rfl) (by exact bh rfl) (by rfl) (by exact .inl rfl))
  case' h44=>refine' (Yr aY rfl (Ym (Zw VS (XM (r:=rSlL K) G2 (pv 0) Jz (Jy Zc)) ?h9)) (nmT 2 Y4.nd) (@Zd _ _ _ _ _ ?h25 (@Zd _ _ _ _ _ ?h26 (@Zd _ _ _ _ _ ?h27 (@Zd _ _ _ _ _ ?h28 (@Zd _ _ _ _ _ ?h29 (@Zd _ _ _ _ _ ?h30 (@Zd _ _ _ _ _ ?h31 (@Zd _ _ _ _ _ ?h32 (@Zd _ _ _ _ _ ?h33 (@Zd _ _ _ _ _ ?h34 (@Zj _ _ _ ?h35))))))))))))
  case' h43=>refine' (@st _ _ _ _ 1 _ _ Y4.nd (Xi hW FW hr.m rfl WM.mg bW .nil Yk (@pa1 _ _ _ (Xi hM FM hr.m rfl M.mg bM .nil U8 (@Za _ _ _ _ _ Zc (@Za _ _ _ _ _ ?h8 (@pa3 _ _ _ _ _ _ _ ?h5 ?h3 ?h2 (by rfl)) (by rfl)) (by rfl))) (by rfl))) (by rfl) (by exact bh rfl) (by rfl) (by exact .inl rfl))
  case' h42=>refine' (@ZA _ _ _ _ Zh)
  case' h41=>refine' (@Zt _ _ _ _ _ (@pa2 _ _ _ _ _ Zp Zc (by rfl)))
  case' h40=>refine' (@Zt _ _ _ _ _ (@pa2 _ _ _ _ _ Zp Zc (by rfl)))
  case' h39=>refine' (@ZA _ _ _ _ Zh)
  case' h38=>refine' (@ZA _ _ _ _ Zh)
  case' h37=>refine' (@ZA _ _ _ _ Zh)
  case' h36=>refine' (@ZA _ _ _ _ Zh)
  case' h35=>refine' (@ZZ _ _ _ _ _ _ _ _ (PW.pt (JJ (@ZD _ _ _ _ _ _ _ _ (U9 hr.units) (cn CY hr (@pa1 _ _ _ (Xm CA Z.cl Yk hr.m (pv 8)) (by rfl))) (Z7 (UU rfl) rfl (bm B) YZ (@pa1 _ _ _ (pv 7) (by rfl))) (ZC _)) (Xs (@ZD _ _ _ _ _ _ _ _ (U9 hr.units) (cn CY hr (@pa1 _ _ _ (Yc CI Z.cl U8 hr.m (pv 1) (@pa1 _ _ _ ?h21 (by rfl))) (by rfl))) ?h23 (ZC _))))) (@Zj _ _ _ ?h24) Zx)
  case' h34=>refine' (Yr aY rfl (Ym (pv 9)) (nmT 11 Y4.nd) (@Zj _ _ _ ?h20))
  case' h33=>refine' (Yr aY rfl (Yg rfl (bm B) (@pa1 _ _ _ Zc (by rfl))) (nmT 10 Y4.nd) (@Zj _ _ _ ?h18))
  case' h32=>refine' (@st _ _ _ _ 9 _ _ Y4.nd (Zw VS (YJ rfl QR QS (Ym ?h11) (λC s H ex pn=>(nmT 0 QT)) (λC s H ex pn=>Z9) (λC s H ex pn=>(it K (pv 0) Zc))) (cn CH hr (@pa3 _ _ _ _ _ _ _ (pv 3) (pv 4) (pv 5) (by rfl)))) (by rfl) (by exact bh rfl) (by rfl) (by exact .inl rfl))
  case' h31=>refine' (ZF (Rw aR fF fE Mz (Xm CA Z.cl Yk hr.m (pv 8))))
  case' h30=>refine' (@ZZ _ _ _ _ _ _ _ _ (@ZD _ _ _ _ _ _ _ _ (U9 hr.units) (cn CY hr (@pa1 _ _ _ (Xm CA Z.cl Yk hr.m (pv 8)) (by rfl))) (Z7 (UU rfl) rfl (bm B) YZ (@pa1 _ _ _ (pv 7) (by rfl))) (ZC _)) (@Zj _ _ _ ?h10) Zx)
  case' h29=>refine' (@st _ _ _ _ 8 _ _ Y4.nd (Xi hW FW hr.m rfl WM.mg bW .nil Yk (@pa1 _ _ _ (pv 6) (by rfl))) (by rfl) (by exact bh rfl) (by rfl) (by exact .inl rfl))
  case' h28=>refine' (@st _ _ _ _ 7 _ _ Y4.nd (cn CS hr (@pa1 _ _ _ (pv 4) (by rfl))) (by rfl) (by exact bh rfl) (by rfl) (by exact .inl rfl))
  case' h27=>refine' (@st _ _ _ _ 6 _ _ Y4.nd (cn CT hr (@pa1 _ _ _ (pv 4) (by rfl))) (by rfl) (by exact bh rfl) (by rfl) (by exact .inl rfl))
  case' h26=>refine' (VR (cn CW hr (@pa1 _ _ _ (pv 3) (by rfl))) (Rt rfl (Zo (nmT 4 Y4.nd) (Zo (nmT 5 Y4.nd) Yn))))
  case' h25=>refine' (@st _ _ _ _ 3 _ _ Y4.nd (cn CB hr (@pa1 _ _ _ (pv 2) (by rfl))) (by rfl) (by exact bh rfl) (by rfl) (by exact .inl rfl))
  case' h24=>refine' (Zn JX)
  case' h23=>refine' (@ZA _ _ _ _ (@pa1 _ _ _ ?h22 (by rfl)))
  case' h22=>refine' (@Zt _ _ _ _ _ (@pa2 _ _ _ _ _ Zp Zp (by rfl)))
  case' h21=>refine' (@Zt _ _ _ _ _ (@pa2 _ _ _ _ _ Zp Zc (by rfl)))
  case' h20=>refine' (@ZZ _ _ _ _ _ _ _ _ (Yb (Z2 (cn CO hr (@Za _ _ _ _ _ (pv 6) (@Za _ _ _ _ _ (pv 8) (@pa3 _ _ _ _ _ _ _ (pv 7) (pv 4) (pv 11) (by rfl)) (by rfl)) (by rfl))))) (@Zj _ _ _ ?h19) Zx)
  case' h19=>refine' (Zn JX)
  case' h18=>refine' (ZF (JW aR cu cq XE (pv 9) (@pa1 _ _ _ ?h17 (by rfl))))
  case' h17=>refine' (@Zt _ _ _ _ _ (@pa2 _ _ _ _ _ ?h16 (cn CK hr (@pa2 _ _ _ _ _ (pv 3) (Zw ZX ?h12 Zc) (by rfl))) (by rfl)))
  case' h16=>refine' (@it _ _ _ _ _ _ K ?h15 Zc (by rfl) (by exact λ_ _=>rfl))
  case' h15=>refine' (@il _ _ _ _ _ _ K ?h13 (cn CK hr (@pa2 _ _ _ _ _ (pv 3) (ZO (r:=rLen K) YR rfl (bm B) b6 (@pa1 _ _ _ ?h14 (by rfl))) (by rfl))) (by rfl) (by exact λ_ _=>rfl))
  case' h14=>refine' (@il _ _ _ _ _ _ K (pv 4) Zc (by rfl) (by exact λ_ _=>rfl))
  case' h13=>refine' (@il _ _ _ _ _ _ K (pv 4) Zc (by rfl) (by exact λ_ _=>rfl))
  case' h12=>refine' (@il _ _ _ _ _ _ K (pv 4) Zc (by rfl) (by exact λ_ _=>rfl))
  case' h11=>refine' (@il _ _ _ _ _ _ K (pv 4) Zc (by rfl) (by exact λ_ _=>rfl))
  case' h10=>refine' (Zn JX)
  case' h9=>refine' (@ZA _ _ _ _ (@pa1 _ _ _ Zc (by rfl)))
  case' h8=>refine' (@ZA _ _ _ _ (@pa2 _ _ _ _ _ ?h7 ?h6 (by rfl)))
  case' h7=>refine' (@Zt _ _ _ _ _ (@pa2 _ _ _ _ _ Zp Zc (by rfl)))
  case' h6=>refine' (@Zt _ _ _ _ _ (@pa2 _ _ _ _ _ Zp Z4 (by rfl)))
  case' h5=>refine' (@ZA _ _ _ _ (@pa1 _ _ _ ?h4 (by rfl)))
  case' h4=>refine' (@Zt _ _ _ _ _ (@Za _ _ _ _ _ Zp (@Za _ _ _ _ _ Zp (@Za _ _ _ _ _ Zc (@pa3 _ _ _ _ _ _ _ Zp Zc Zc (by rfl)) (by rfl)) (by rfl)) (by rfl)))
  case' h3=>refine' (@ZA _ _ _ _ Zh)
  case' h2=>refine' (@ZA _ _ _ _ (@pa1 _ _ _ ?h1 (by rfl)))
  case' h1=>refine' (@Zt _ _ _ _ _ (@Za _ _ _ _ _ Zp (@pa3 _ _ _ _ _ _ _ Zp Zc Zc (by rfl)) (by rfl)))
  refine tq λk0 hk0=>?_;refine⟨zl,λc1 h1=>?_⟩;refine nl2 h1 λH1 S1 e1=>?_;refine⟨zl,λc2 h2=>?_⟩;refine nl2 h2 λH2 S2 e2=>?_;refine⟨zl,λc3 h3=>?_⟩;refine nl2 h3 λH3 S3 e3=>?_;refine⟨zl,λc4 h4=>?_⟩;refine nl2 h4 λH4 S4 e4=>?_;refine⟨zl,λc5 h5=>?_⟩;refine nl2 h5 λH5 S5 e5=>?_;refine⟨zl,λc6 h6=>?_⟩;refine nl2 h6 λH6 S6 e6=>?_;refine⟨zl,λc7 h7=>?_⟩;refine nl2 h7 λH7 S7 e7=>?_;refine⟨zl,λc8 h8=>?_⟩;refine nl2 h8 λH8 S8 e8=>?_;have A7:=S8;have A6:=S7.trans A7;have A5:=S6.trans A6;have A4:=S5.trans A5;have A3:=S4.trans A4;have A2:=S3.trans A3;have A1:=S2.trans A2;have A0:=S1.trans A1;have r1:Ye H8 [.ref c1,.ref c2] (T0.t1.map some):=Xl (ok0.flat (.inl rfl)) (.cons ⟨c1,rfl,A1 _ _ e1⟩ (.cons ⟨c2,rfl,A2 _ _ e2⟩ .nil));have r2:Ye H8 [.ref c4] (T0.t2.map some):=Xl (ok0.flat (.inr (.inl rfl))) (.cons ⟨c4,rfl,A4 _ _ e4⟩ .nil);have r3:Ye H8 [] (T0.t3.map some):=Xl (ok0.flat (.inr (.inr (.inl rfl)))) .nil;have r4:Ye H8 [.ref c7] (T0.t4.map some):=Xl (ok0.flat (.inr (.inr (.inr rfl)))) (.cons ⟨c7,rfl,A7 _ _ e7⟩ .nil);refine tn ?_;refine PZ ok0 (Xn (A3 _ _ e3) r1) (Xn (A5 _ _ e5) r2) (Xn (A6 _ _ e6) r3) (Xn e8 r4) r1 r2 r3 r4 λH9 t9 S9 tel9=>?_;refine tn ?_;refine Mh tel9 ok0 λHa xb Sa wb0=>?_;refine hk0 _ _ ?_;dsimp only[gi];refine tq λk1 hk1=>?_;have Sxa:=A0.trans (S9.trans Sa);have hSa:=Sxa.seq hS;clear r1 r2 r3 r4 A0 A1 A2 A3 A4 A5 A6 A7 e1 e2 e3 e4 e5 e6 e7 e8 S1 S2 S3 S4 S5 S6 S7 S8 S9 Sa tel9 h1 h2 h3 h4 h5 h6 h7 h8;refine⟨_,rfl,_,rfl,a,_,rfl,hSa,λp1 e1=>?_⟩;refine⟨zl,λp2 e2=>?_⟩;have n12:p1≠p2:=Zf (Zb (H:=Ha) (a:=p1)) e2;have hcl:(cutV (ns.map V.int) none (some 8)).length+1<=sizeLine:=by
   have h1:=GV (ns.map V.int) none (some 8);rw[lm]at h1;have:(100:Nat)<=sizeLine:=by decide
   omega
  refine⟨p1,p2,_,_,rfl,rfl,(by rw[Zg n12,Zb]),Zb,hcl,λp3 e3=>⟨p3,rfl,⟨_,SqL.of Zb⟩,?_⟩⟩;have hxs:∀v∈cutV (ns.map V.int) none (some 8)++[V.int 4],∃c,v=.int c:=λv hv=>by
   rcases aN.mp hv with hv|hv
   ·exact LJ ns _ _ v hv
   ·rw[aU]at hv;exact⟨_,hv⟩
  have S0:Same Ha (upd (upd (upd Ha p1 (.lst (cutV (ns.map V.int) none (some 8)))) p2 (.lst [V.int 4])) p3 (.lst (cutV (ns.map V.int) none (some 8)++[V.int 4]))):=sameNew (sameNew (sameNew (Same.refl _) e1) e2) e3;have L0:upd (upd (upd Ha p1 (.lst (cutV (ns.map V.int) none (some 8)))) p2 (.lst [V.int 4])) p3 (.lst (cutV (ns.map V.int) none (some 8)++[V.int 4])) p3=some (.lst (cutV (ns.map V.int) none (some 8)++[V.int 4])):=Zb;generalize upd (upd (upd Ha p1 (.lst (cutV (ns.map V.int) none (some 8)))) p2 (.lst [V.int 4])) p3 (.lst (cutV (ns.map V.int) none (some 8)++[V.int 4]))=H0 at L0 S0;generalize cutV (ns.map V.int) none (some 8)++[V.int 4]=xs at L0 hxs;have wbb:=wb0.same S0;clear S0 e1 e2 e3 n12 hcl wb0 hSa;refine Uj (K:=K) (a:=p3) (xs:=xs) (λi σ H1=>H1 p3=some (.lst xs)/\Wb P w H1 Cw C Cs xb T0/\∃o:Nat->Option V,σ=[some (.ref a),some (.ref xb),o 2,o 3,o 4,o 5,o 6,o 7,o 8,o 9,o 10,o 11,o 12]) ⟨L0,wbb,shp rfl⟩ (λi σ H1 _ p=>SqL.of p.1) (λi v σ H1 hi p=>?_) (λσ H1 p=>?_)
  ·obtain⟨L1,wb1,o,rfl⟩:=p;obtain⟨cl,rfl⟩:=hxs v (aQ hi);dsimp only[YI];refine td λD' hdd=>?_;refine⟨_,rfl,cl,rfl,λb H2 hb bx sm2=>?_⟩;refine⟨_,rfl,b,rfl,bx,λH3 q pw sd l1 l2 l3 l4 W bs s0 s1 s2 s3 bx3 sm3 nq hq nsd hsd wa gw sg=>⟨q,_,rfl,SqL.of hq,rfl,_,_,rfl,_,_,rfl,rfl,?_⟩⟩;have s13:Same H1 H3:=λc o e=>sm3 _ _ (sm2 _ _ e) (Zf e hb);have ok:=(drawn gw sg).ok;have tb:=wa.tb;have ne1:(tbOf W).t1≠[]:=λz=>by
    have:(W.ps.map ZG).length=0:=by rw[show W.ps.map ZG=[]from z];rfl
    rw[lm]at this;have:=gw.pl.lo;omega
   have g0:=sg.p.1.gs;have g3:=sg.g.snm.gs;generalize tbOf W=T at ok tb ne1;refine⟨_,rfl,b,pw,l1,l2,l3,l4,T,rfl,tb,ok,λH4 t S4 tel=>?_⟩;refine⟨_,rfl,b,pw,l1,l2,l3,l4,T,rfl,tb.same (Zi.of S4),ok,λH5 d S5 hd dc=>?_⟩;refine⟨_,rfl,?_⟩;refine tn ?_;refine Mh (tel.same S5) ok λH6 xw S6 wb=>?_;have S36:=S4.trans (S5.trans S6);have bx6:=bx3.same S36;have tb6:=tb.same (Zi.of S36);have tel6:=tel.same (S5.trans S6);have dc6:=dc.same S6;have s16:=s13.trans S36;have hsd6:=S36 _ _ hsd;have np3:p3≠b:=Zf L1 hb;have nxb:∀{H':Hp},Same H1 H'->Wb P w H' Cw C Cs xb T0:=λs=>wb1.same s;clear S36 bx3 tb tel dc hsd s13 S4 S5 S6 hd wa gw sg hq nq sm3 sm2 bx;have sma:=GH ok;have lal:=Md ok;obtain⟨kvs,ed,pr⟩:=dc6.ord (Sv ok);obtain⟨dx,t',p',d1,d2,hx⟩:=Nb wb;dsimp only[YI];refine tq λk2 hk2=>?_;refine⟨_,rfl,xw,dx,_,rfl,hx,rfl,?_⟩;refine tn ?_;refine⟨xw,T,rfl,wb,λH7 l7 us7 S7 hl7 e7 sl7=>?_⟩;refine tn ?_;refine⟨l7,T,us7,_,rfl,e7,sl7,lal,λH8 p8 ks8 S8 hp8 e8 kl8=>?_⟩;have S68:=S7.trans S8;refine⟨_,rfl,d,kvs,rfl,S68 _ _ ed,λl9 bs9 hl9 len9 hb9=>?_⟩;have kl9:=NB (Paired.mapP pr λ_ _ q=>⟨q.1,q.2.same S68⟩) len9 hb9;have S9:=sameNew (o:=.lst (bs9.map V.ref)) (Same.refl H8) hl9;have e9:upd H8 l9 (.lst (bs9.map V.ref)) l9=some (.lst (bs9.map V.ref)):=Zb;generalize upd H8 l9 (.lst (bs9.map V.ref))=H9 at S9 e9 ⊢;refine⟨_,_,(kl8.same S9).is sma (S9 _ _ e8),(kl9.same S9).is sma e9,YN sma,YN sma,_,rfl,?_⟩;rw[keys_eq sma];refine iteF ?_;refine hk2 _ _ ?_;dsimp only[gi];refine tq λk3 hk3=>?_;have S69:=S68.trans S9;have wb9:=wb.same S69;have tel9:=tel6.same S69;have dc9:=dc6.same S69;have bx9:=bx6.same S69;have tb9:=tb6.same (Zi.of S69);have s19:=s16.trans S69;have hsd9:=S69 _ _ hsd6;clear S69 S68 S7 S8 S9 e9 e8 kl8 kl9 len9 hb9 hl9 sl7 e7 hl7 hp8 pr ed hx d1 d2 p' t' wb tel6 dc6 bx6 tb6 s16 hsd6;obtain⟨dx',t',p',d1,d2,hx⟩:=Nb wb9;refine⟨_,rfl,xw,dx',_,rfl,hx,rfl,?_⟩;refine tn ?_;refine⟨xw,T,rfl,wb9,λHa la usa Sa hla ea sla=>?_⟩;refine⟨.inl ⟨rfl,_,SqL.of ea⟩,la,_,rfl,rfl,ea,?_⟩;have Sb:Same H9 (upd Ha la (.lst [])):=VP Sa hla;generalize upd Ha la (.lst [])=Hb at Sb ⊢;refine hk3 _ _ ?_;refine tq λk4 hk4=>?_;clear Sa hla ea sla;have wbc:=wb9.same Sb;have telc:=tel9.same Sb;have dcc:=dc9.same Sb;have bxc:=bx9.same Sb;have tbc:=tb9.same (Zi.of Sb);have s1c:=s19.trans Sb;have hsdc:=Sb _ _ hsd9;clear Sb wb9 tel9 dc9 bx9 tb9 s19 hsd9 hx d1 d2 p' t' dx';have N4:=(Xo ok).2.2.2;have N1:=(Xo ok).1;have hn0:=ok.n0;have hn1:=ok.n1;refine ixL 4 tbc.at_ rfl ⟨l4,rfl,⟨_,SqL.of tbc.gr.2.choose_spec.1⟩,?_⟩;refine ZY (J:=Itl K l4) T.t4.length (Nat.le_trans N4 (by decide)) (λi ys τ H'=>Hb=H'/\ys=(T.t4.take i).map (λr=>V.str (nameOf r))/\∃o1,τ=[o1]) ⟨rfl,rfl,_,rfl⟩ (λi ys τ H' q=>by rw[q.2.1,lm,aB];omega) (λi ys τ H' hi q=>by rw[<-q.1];exact tbc.gr.go hi) (λys τ H' q=>by rw[<-q.1];exact tbc.gr.stop) (λi ys τ H' v H3 hi q yl=>?_) (λys τ H' q lg hlg=>?_)
   ·obtain⟨rfl,rfl,o1,rfl⟩:=q;have e1:T.t4[i]?=some T.t4[i]:=gE hi;obtain⟨rfl,a,rfl,na,ha⟩:=tbc.gr.item e1 yl;rw[bE,e1,a8];obtain⟨a0,b0,c0,d0,ez,_⟩:=Xf ok (aH hi);rw[ez]at ha;refine ixT 0 ha rfl ⟨rfl,?_,_,rfl⟩;rw[ez];rfl
   obtain⟨rfl,rfl,o1,rfl⟩:=q;rw[aO];refine al2 bxc hlg λHd Bd Sd ed nd=>?_;refine⟨_,rfl,_,rfl,_,rfl,b,pw,sd,l1,l2,l3,l4,T,s0,s1,s2,s3,rfl,Bd,tbc.same Sd,ok,ne1,nsd,Sd _ _ hsdc nsd,g0,g3,λHe lt ys Be Se ee ne h4 h30 tg=>?_⟩;have Sbe:=Sd.trans Se;refine⟨lg,lt,_,_,rfl,rfl,Se _ _ ed nd,ee,Nat.le_trans (by rw[lm];omega:_<=330) (by decide),λlz hlz=>?_⟩;have nz:=Be.ne hlz;have hzb:Hb lz=none:=by
    cases hz:Hb lz with
   |none=>rfl
   |some o=>rw[Sbe _ _ hz nz]at hlz;cases hlz
   show YI 9 (V.ref lz) _ (upd He lz _) _;refine al2 Be hlz λHf Bf Sf ef _=>?_;refine hk4 _ _ ?_;dsimp only[gi];refine tq λk5 hk5=>?_;have Sbf:=Sbe.trans Sf;have tgf:∀y∈T.t4.map (λr=>V.str (nameOf r))++ys,∃d,Tg b Hf y d:=λy hy=>by
    rcases aN.mp hy with hy|hy
    ·obtain⟨r,hr,rfl⟩:=av.mp hy;obtain⟨a0,b0,c0,d0,rfl,ga,_⟩:=Xf ok hr;exact⟨_,.inl (ZT (Z5 ga))⟩
    ·obtain⟨d,h⟩:=tg y hy;exact⟨d,h.same Sf⟩
   have z4:4<=(T.t4.map (λr=>V.str (nameOf r))++ys).length:=by rw[ax];omega
   have z330:(T.t4.map (λr=>V.str (nameOf r))++ys).length<=330:=by rw[ax,lm];omega
   generalize T.t4.map (λr=>V.str (nameOf r))++ys=zs at tgf z4 z330 ef;clear Sbe Se Sd ed nd ee ne h4 h30 tg Bd Be hlg hlz Sf;refine⟨15,rfl,by decide,by decide,?_⟩;refine Y8 (J:=Itr 0 15) 15 (λi σ H'=>Zu H' b/\Zi b Hb H'/\∃zs oa ob oc,H' lz=some (.lst zs)/\4<=zs.length/\zs.length<=330+i/\(∀y∈zs,∃d,Tg b H' y d)/\σ=[some (.ref a),some (.ref xb),some (.int cl),some (.ref b),some (.ref pw),some (.ref sd),some (.ref t),some (.ref d),some (.ref xw),some (.ref lz),oa,ob,oc]) ⟨Bf,Sbf,zs,_,_,_,ef,z4,z330,tgf,rfl⟩ (λi σ H' hi q=>hi) (λσ H' q=>Nat.le_refl _) (λi σ H' v H2 hi q yl=>?_) (λσ H' q=>?_)
   ·obtain⟨Bg,Sg,zs,oa,ob,oc,eg,z4,zl',tgg,rfl⟩:=q;obtain⟨rfl,rfl⟩:=yl;have tbg:=tbc.same Sg;obtain⟨as,eas,las,ras⟩:=KJ ok tbg.pl;have nl1:=tbg.pl.1;have pos:0<T.t1.length:=List.length_pos_iff.mpr ne1;dsimp only[YI];refine td λD'' hde=>?_;refine⟨_,rfl,.inl ⟨rfl,_,SqL.of eg⟩,?_⟩;refine ixL 1 tbg.at_ rfl ⟨_,rfl,ixL 1 tbg.at_ rfl ⟨l1,_,rfl,.inl (SqL.of eas),b,_,rfl,Bg,?_,?_,λr Hh r0 r1 Bh Sh=>?_⟩⟩
    ·rw[lm,las];omega
    ·rw[lm,las];exact Nat.lt_trans (QA (by omega)) (by decide)
    rw[lm,las]at r1;obtain⟨aa,z,u,ati,naa,haa,gz⟩:=ras r r0 r1;refine⟨l1,_,r,_,rfl,rfl,SqL.of (Sh _ _ eas nl1),ati,aa,_,0,_,rfl,rfl,SqT.of (Sh _ _ haa naa),Zv (j:=0) rfl,?_⟩;refine⟨_,rfl,ixL 0 (Sh _ _ tbg.at_ tbg.ne) rfl ⟨_,_,rfl,rfl,b,_,rfl,Bh,(by omega),Nat.lt_trans (QA (by omega)) (by decide),λtn' Hi t0 t1 Bi Si=>?_⟩⟩;refine⟨zl,λc hc=>?_⟩;refine al2 Bi hc λHj Bj Sj ej nj=>?_;have Sgj:=Sh.trans (Si.trans Sj);have ejz:=Sgj _ _ eg nz;refine⟨lz,zs,_,rfl,rfl,ejz,Nat.lt_of_le_of_lt (by omega:_<=400) (by decide),hde _ _ ⟨Zu.same_ne Bj nz,?_,_,_,_,_,Zb,?_,?_,?_,rfl⟩⟩
    ·exact λc' o e hc'=>by rw[Zg (Zf e hzb)];exact Sgj _ _ (Sg _ _ e hc') hc'
    ·rw[ax];omega
    ·rw[ax];show zs.length+1<=_;omega
    ·intro y hy;rcases aN.mp hy with hy|hy
     ·obtain⟨d',h⟩:=tgg y hy;exact⟨d',(h.same Sgj).app ejz z4⟩
     ·rw[aU]at hy;subst hy;exact⟨_,Tg.app ejz z4 (.inl (ib_t nj ej (Nat.le_of_ble_eq_true rfl) (.cons (ZT (Z5 gz)) (.cons (ZT (Xb (by omega))) .nil))))⟩
   obtain⟨Bg,Sg,zs',oa,ob,oc,eg,z4',zl',tgg,rfl⟩:=q;have wbg:=wbc.box ok bxc Sg;have telg:=telc.box bxc ok Sg;have dcg:=dcc.box ok bxc Sg;have tbg:=tbc.same Sg;have s1g:Same H1 H':=λc o e=>Sg _ _ (s1c _ _ e) (Zf e hb);clear Sg wbc telc dcc tbc s1c bxc Bf Sbf ef z4 z330 tgf hsdc hzb;refine hk5 _ _ ?_;refine tq λk6 hk6=>?_;refine⟨_,rfl,lz,rfl,⟨_,SqL.of eg⟩,?_⟩;refine Uj (K:=K) (a:=lz) (xs:=zs') (λj σ H2=>Same H' H2/\∃ob,σ=[some (.ref a),some (.ref xb),some (.int cl),some (.ref b),some (.ref pw),some (.ref sd),some (.ref t),some (.ref d),some (.ref xw),some (.ref lz),oa,ob,oc]) ⟨Same.refl _,_,rfl⟩ (λj σ H2 _ q=>SqL.of (q.1 _ _ eg)) (λj v σ H2 hj q=>?_) (λσ H2 q=>?_)
   ·obtain⟨s2,ob,rfl⟩:=q;obtain⟨dt,tgv⟩:=tgg v (aQ hj);refine⟨_,rfl,_,rfl,_,rfl,_,rfl,_,rfl,b,t,xw,d,pw,l1,l2,l3,l4,v,dt,T,rfl,telg.same s2,wbg.same s2,ok,dcg.same s2,tbg.same (Zi.of s2),tgv.same (Zi.of s2),λH3 S3=>⟨true,rfl,?_⟩⟩;refine iteF ?_;exact⟨s2.trans S3,_,rfl⟩
   obtain⟨s2,ob,rfl⟩:=q;have wb2:=wbg.same s2;have dc2:=dcg.same s2;have s12:=s1g.trans s2;obtain⟨kvs,ed,pr⟩:=dc2.ord (Sv ok);obtain⟨dx,t',p',d1,d2,hx⟩:=Nb wb2;refine hk6 _ _ ?_;refine⟨_,rfl,xw,dx,_,rfl,hx,rfl,?_⟩;refine tn ?_;refine⟨xw,T,rfl,wb2,λH7 l7 us7 S7 hl7 e7 sl7=>?_⟩;refine tn ?_;refine⟨l7,T,us7,_,rfl,e7,sl7,lal,λH8 p8 ks8 S8 hp8 e8 kl8=>?_⟩;have S68:=S7.trans S8;refine⟨_,rfl,d,kvs,rfl,S68 _ _ ed,λl9 bs9 hl9 len9 hb9=>?_⟩;have kl9:=NB (Paired.mapP pr λ_ _ q=>⟨q.1,q.2.same S68⟩) len9 hb9;have S9:=sameNew (o:=.lst (bs9.map V.ref)) (Same.refl H8) hl9;have e9:upd H8 l9 (.lst (bs9.map V.ref)) l9=some (.lst (bs9.map V.ref)):=Zb;generalize upd H8 l9 (.lst (bs9.map V.ref))=H9 at S9 e9 ⊢;refine⟨_,_,(kl8.same S9).is sma (S9 _ _ e8),(kl9.same S9).is sma e9,YN sma,YN sma,_,rfl,?_⟩;rw[keys_eq sma];refine iteF ?_;have s19:=s12.trans (S68.trans S9);have wbb9:=wb1.same s19;obtain⟨dx',t'',p'',d1',d2',hx'⟩:=Nb wbb9;refine⟨_,rfl,xb,dx',_,rfl,hx',rfl,zl,λc hc=>?_⟩;refine nl2 hc λHc Sc ec=>?_;have wbbc:=wbb9.same Sc;have nd:=nd_0 ec;have isd:Is Hc (.ref c) nd0:=.tup ec (.cons (.str _) (.cons (.int _) .nil));refine⟨xb,_,T0,rfl,wbbc,ok0,nd.ask ok0,λ_ Hk lk usk d' Sk hlk nlk hdk slk elk=>?_,λz=>absurd nd z⟩;rw[Ln (JD nlk hdk) (JD (.inr ⟨_,_,rfl⟩) isd)]at elk;have sf:=SR (d:=nd0) (f:=Sx.head) slk;have smf:∀S∈(allS T0).filter (nodeF Sx.head nd0),RowG (S.key.map kV):=λS hS=>GH ok0 S (b9.mp hS).1;refine tn ?_;refine⟨lk,T0,_,_,rfl,elk,sf,Nat.le_trans (bQ _ _) (Md ok0),λHl pl ksl Sl hpl epl kll=>?_⟩;refine⟨zl,λc2 hc2=>?_⟩;refine nl2 hc2 λHm Sm' em=>?_;refine⟨zl,λc3 hc3=>?_⟩;refine nl2 hc3 λHn Sn en=>?_;have Smn:=Sm'.trans Sn;have kd:KeyL Hn [.ref c2] ((allS T0).filter (nodeF Sx.head nd0)):=by rw[sel0];exact .cons ⟨c2,rfl,Sn _ _ em⟩ .nil
   refine⟨_,_,(kll.same Smn).is smf (Smn _ _ epl),kd.is smf en,YN smf,YN smf,_,rfl,?_⟩;rw[keys_eq smf];refine iteF ?_;have s1n:=s19.trans (Sc.trans (Sk.trans (Sl.trans Smn)));exact hdd _ _ ⟨s1n _ _ L1,wb1.same s1n,shp rfl⟩
  ·obtain⟨L1,wb1,o,rfl⟩:=p;clear L1 wb1;refine hk1 _ _ ?_;refine tq λk7 hk7=>?_;refine⟨zl,λc1 h1=>?_⟩;refine nl2 h1 λH2 S2 e2=>?_;refine⟨zl,λc2 h2=>?_⟩;refine nl2 h2 λH3 S3 e3=>?_;refine⟨zl,λc3 h3=>?_⟩;refine nl2 h3 λH4 S4 e4=>?_;refine⟨zl,λc4 h4=>?_⟩;refine nl2 h4 λH5 S5 e5=>?_;have r0:Ye H5 [] (([]:List (List V)).map some):=Xl (t:=[]) (λ_ h=>by cases h) .nil;refine tn ?_;refine PZ (T:=T1) ok1 (Xn (S5 _ _ (S4 _ _ (S3 _ _ e2))) r0) (Xn (S5 _ _ (S4 _ _ e3)) r0) (Xn (S5 _ _ e4) r0) (Xn e5 r0) r0 r0 r0 r0 λH9 t9 S9 tel9=>?_;refine tn ?_;refine Mh tel9 ok1 λHb xw Sb wb=>?_;refine hk7 _ _ ?_;clear S2 S3 S4 S5 e2 e3 e4 e5 h1 h2 h3 h4 r0 S9 Sb tel9;obtain⟨dx,t',p',d1,d2,hx⟩:=Nb wb;refine⟨_,rfl,xw,dx,_,rfl,hx,rfl,?_⟩;refine tn ?_;refine⟨xw,T1,rfl,wb,λHc lc usc Sc hlc ec slc=>?_⟩;have us0:usc=[]:=by have:=slc.len;rw[all1]at this;exact eJ this
   refine⟨zl,λld hld=>?_⟩;refine nl2 hld λHd Sd ed=>?_;have wbd:=wb.same (Sc.trans Sd);obtain⟨dx',t'',p'',d1',d2',hxd⟩:=Nb wbd;refine⟨lc,ld,usc,rfl,rfl,SqL.of (Sd _ _ ec),ed,true,?_,?_⟩
   ·rw[us0];rfl
   refine iteT ?_;refine⟨_,rfl,xw,dx',_,rfl,hxd,rfl,zl,λc hc=>?_⟩;refine nl2 hc λHe Se ee=>?_;have ga:GS "a":=by decide +kernel
   refine⟨xw,_,T1,rfl,wbd.same Se,ok1,.inr ⟨c,_,rfl,ee,Nat.le_of_ble_eq_true rfl,λv hv=>?_,λbb hbb=>?_⟩⟩
   ·simp only[au,aG,or_false]at hv;rcases hv with rfl|rfl
    ·exact⟨_,.str _ (Pz ga)⟩
    ·exact⟨_,.int _⟩
   have bf:bb=false:=by
    cases bb with
   |false=>rfl
   |true=>obtain⟨g,hg,_⟩:=hbb.mp rfl;cases hg
   subst bf;refine⟨_,rfl,true,rfl,?_⟩;refine iteT ?_;refine⟨_,rfl,zl,λc5 hc5=>?_⟩;refine nl2 hc5 λHf Sf ef=>?_;exact⟨c5+1,xw,0,_,_,T1,rfl,(wbd.same Se).same Sf,ok1,.inl (ib_t (Nat.ne_of_lt (Nat.lt_succ_self c5)) ef (Nat.le_of_ble_eq_true rfl) (.cons (ZT (Z5 ga)) (.cons (ZT (Xb (i:=0) (by decide))) .nil))),nn1,λH' _=>k H'⟩
end
end SX
namespace L2
open PySem PySem.Spec PyProof.Rows
section
variable {K:af}{h:Heap}{mg:Str->Option Value}{x:Str}
theorem HZ{st:Stmt}{ps:List Str}{f:Addr}{oc:Value}{od an:Option Addr}{osl:Array (Option Value)}{kV doc pm cdv ct:Value}(X:K.In h)(G:h.Ns aK mg)(a:aX K aK x=some (some (.ref f)))(l:K.lookup f=some ⟨oc,od,.func (a9 x x (Yo st) (Zz st) (Ze st) .none kV doc pm an cdv ct),osl⟩)(c:bN K cdv x=true)(k:aJ K (.ref f)=true)(hb:∀(kV doc pm:Value)(an:Option Addr)(cdv ct:Value)(us:List Value),us.length=ps.length->bindArgs (a9 x x (Yo st) (Zz st) (Ze st) .none kV doc pm an cdv ct) ⟨us,[]⟩=pure (ps.zip us)):Df K mg x st ps:=⟨f,_,XN l c k,cj X G a,(XN l c k).binds hb⟩
theorem LH{C:Addr}{m qual:Str}{st:Stmt}{ps:List Str}{f:Addr}{oc:Value}{od an:Option Addr}{osl:Array (Option Value)}{kV doc pm cdv ct:Value}(a:ak K (.ref C) m=some (some (.ref f)))(i:dZ K (.ref f)=true)(l:K.lookup f=some ⟨oc,od,.func (a9 m qual (Yo st) (Zz st) (Ze st) .none kV doc pm an cdv ct),osl⟩)(c:bN K cdv qual=true)(k:aJ K (.ref f)=true)(hb:∀(kV doc pm:Value)(an:Option Addr)(cdv ct:Value)(us:List Value),us.length=ps.length->bindArgs (a9 m qual (Yo st) (Zz st) (Ze st) .none kV doc pm an cdv ct) ⟨us,[]⟩=pure (ps.zip us)):DfM K C m qual st ps:=⟨f,_,XN l c k,⟨a,i,k⟩,(XN l c k).binds hb⟩
theorem str_mk{z:Str}{t:Tok}(X:K.In h)(G:h.Ns aK mg)(a:aX K aK x=some (some (.str z t))):∃t,mg x=some (.str z t):=⟨t,cj X G a⟩
theorem int_mk{z:Int}{t:Tok}(X:K.In h)(G:h.Ns aK mg)(a:aX K aK x=some (some (.int z t))):∃t,mg x=some (.int z t):=⟨t,cj X G a⟩
theorem TH{w:World}{a:Addr}{es:Array DictEntry}{n:Nat}{n1 n2 n3 n4:Int}{t1 t2 t3 t4:Tok}(X:K.In h)(G:h.Ns aK mg)(ha:aX K aK x=some (some (.ref a)))(hl:K.lookup a=some ⟨.type "dict",none,.dict es n,#[]⟩)(hk:PySem.W.KeysLit w.params es.toList)(h1:aX K a "places"=some (some (.int n1 t1)))(h2:aX K a "rides"=some (some (.int n2 t2)))(h3:aX K a "ways"=some (some (.int n3 t3)))(h4:aX K a "groups"=some (some (.int n4 t4))):∃a,mg x=some (.ref a)/\X0 K w a "places" (.int n1)/\X0 K w a "rides" (.int n2)/\X0 K w a "ways" (.int n3)/\X0 K w a "groups" (.int n4):=⟨a,cj X G ha,⟨es,n,_,hl,hk,h1,⟨t1,rfl⟩⟩,⟨es,n,_,hl,hk,h2,⟨t2,rfl⟩⟩,⟨es,n,_,hl,hk,h3,⟨t3,rfl⟩⟩,⟨es,n,_,hl,hk,h4,⟨t4,rfl⟩⟩⟩
end
end L2
namespace SX
open PySem L2 PySem.Spec PyProof.Rows TB WD
theorem HC:FnScope ["self","part","at","why"] ["self","part","at","why"] (Ze T.m_BadTable___init__):=scO
structure BadF(K:af)(mg:Str->Option Value)(Cb:Addr):Prop where
 at_:∃fI Qa fd,XK1 K mg "BadTable" Cb fI Qa/\Fun K "__init__" "BadTable.__init__" T.m_BadTable___init__ fI fd/\Binds K fd ["self","part","at","why"] []
 na:Z1 K Cb "part"/\Z1 K Cb "at"/\Z1 K Cb "why"
section
variable {P:Program}{w:World}{K:af}{mg:Str->Option Value}{base:Heap}{C Cb:Addr}
theorem BadF.err(b:BadF K mg Cb):Err P w K mg base "BadTable" ["part","at","why"] Cb:=by obtain⟨fI,Qa,fd,X,F,bd⟩:=b.at_;exact⟨⟨fI,Qa,fd,["self","part","at","why"],X.xc,HR F HC rfl ⟨by decide,by decide⟩ ⟨by decide,by decide⟩ ⟨by decide,by decide⟩ X.xc b.na.1 b.na.2.1 b.na.2.2 (by decide) (by decide) (by decide),by decide,bd⟩,X.xr,X.mg,X.kp⟩
structure NoF(K:af)(mg:Str->Option Value)(x qual:Str)(st:Stmt)(C Qa:Addr):Prop where
 at_:∃fI fd,XK1 K mg x C fI Qa/\Fun K "__init__" qual st fI fd/\Binds K fd ["self","found"] []
 na:Z1 K C "found"
theorem NoF.err{x qual:Str}{st:Stmt}{Qa:Addr}{p1 p2 p3 p4:Pos}(b:NoF K mg x qual st C Qa)(S:FnScope ["self","found"] ["self","found"] (Ze st))(hb:Zz st=[V9 "found" "found" p1 p2 p3 p4]):Err P w K mg base x ["found"] C:=by obtain⟨fI,fd,X,F,bd⟩:=b.at_;exact⟨⟨fI,Qa,fd,["self","found"],X.xc,HS F S hb ⟨by decide,by decide⟩ X.xc b.na,by decide,bd⟩,X.xr,X.mg,X.kp⟩
theorem Kw:FnScope ["self","found"] ["self","found"] (Ze T.m_NoSpot___init__):=scO
structure Meths(K:af)(C:Addr):Prop where
 take_places:DfM K C "take_places" "Table.take_places" T.m_Table_take_places ["self","places"]
 take_rides:DfM K C "take_rides" "Table.take_rides" T.m_Table_take_rides ["self","rides"]
 take_ways:DfM K C "take_ways" "Table.take_ways" T.m_Table_take_ways ["self","ways"]
 take_groups:DfM K C "take_groups" "Table.take_groups" T.m_Table_take_groups ["self","groups"]
 is_place:DfM K C "is_place" "Table.is_place" T.m_Table_is_place ["self","thing"]
 is_home:DfM K C "is_home" "Table.is_home" T.m_Table_is_home ["self","thing"]
 is_group:DfM K C "is_group" "Table.is_group" T.m_Table_is_group ["self","thing"]
structure TabF(K:af)(mg:Str->Option Value)(C:Addr):Prop where
 cl:TCl K C
 init:∃f fd,Mk K C f/\Fun K "__init__" "Table.__init__" T.m_Table___init__ f fd/\Binds K fd ["self","turns","places","rides","ways","groups"] []
 mg:mg "Table"=some (.ref C)
 ms:Meths K C
structure SMeths(K:af)(C:Addr):Prop where
 key:DfM K C "key" "Step.key" T.m_Step_key ["self"]
 tail:DfM K C "tail" "Step.tail" T.m_Step_tail ["self"]
 head:DfM K C "head" "Step.head" T.m_Step_head ["self"]
structure StF(K:af)(mg:Str->Option Value)(x qual:Str)(st:Stmt)(ps:List Str)(C:Addr):Prop where
 cl:SCl K C
 ty:∀(H:Hp)(a dx:Addr)(fs:List (Str×V)),H a=some (.ins C dx fs)->TyOf K H (.ref a) (.ref C)
 init:∃f fd,Mk K C f/\Fun K "__init__" qual st f fd/\Binds K fd ps []
 mg:mg x=some (.ref C)
 ms:SMeths K C
structure WMeths(K:af)(C:Addr):Prop where
 all_steps:DfM K C "all_steps" "Web.all_steps" T.m_Web_all_steps ["self"]
 is_spot:DfM K C "is_spot" "Web.is_spot" T.m_Web_is_spot ["self","thing"]
 refuse_no_node:DfM K C "refuse_no_node" "Web.refuse_no_node" T.m_Web_refuse_no_node ["self","thing"]
 leading_out:DfM K C "leading_out" "Web.leading_out" T.m_Web_leading_out ["self","node"]
 leading_in:DfM K C "leading_in" "Web.leading_in" T.m_Web_leading_in ["self","node"]
structure WebF(K:af)(mg:Str->Option Value)(C:Addr):Prop where
 cl:WCl K C
 init:∃f fd,Mk K C f/\Fun K "__init__" "Web.__init__" T.m_Web___init__ f fd/\Binds K fd ["self","table"] []
 mg:mg "Web"=some (.ref C)
 ms:WMeths K C
structure AllSt(K:af)(mg:Str->Option Value)(c0 c1 c2 c3 cb cw:Addr):Prop where
 s0:StF K mg "SetOut" "SetOut.__init__" T.m_SetOut___init__ ["self","row","turn"] c0
 s1:StF K mg "Ride" "Ride.__init__" T.m_Ride___init__ ["self","row"] c1
 s2:StF K mg "Walk" "Walk.__init__" T.m_Walk___init__ ["self","row","turn"] c2
 s3:StF K mg "Wait" "Wait.__init__" T.m_Wait___init__ ["self","row","turn"] c3
 k00:aj K (.ref c0) (.ref c0)=some true
 k10:aj K (.ref c1) (.ref c0)=some false
 k20:aj K (.ref c2) (.ref c0)=some false
 k30:aj K (.ref c3) (.ref c0)=some false
 k01:aj K (.ref c0) (.ref c1)=some false
 k11:aj K (.ref c1) (.ref c1)=some true
 k21:aj K (.ref c2) (.ref c1)=some false
 k31:aj K (.ref c3) (.ref c1)=some false
 k02:aj K (.ref c0) (.ref c2)=some false
 k12:aj K (.ref c1) (.ref c2)=some false
 k22:aj K (.ref c2) (.ref c2)=some true
 k32:aj K (.ref c3) (.ref c2)=some false
 k03:aj K (.ref c0) (.ref c3)=some false
 k13:aj K (.ref c1) (.ref c3)=some false
 k23:aj K (.ref c2) (.ref c3)=some false
 k33:aj K (.ref c3) (.ref c3)=some true
 base:∃f fd,Fun K "__init__" "Step.__init__" T.m_Step___init__ f fd/\BaseM K cb "__init__" f/\Binds K fd ["self","key","tail","head","room","price"] []
 mb:mg "Step"=some (.ref cb)
 web:WebF K mg cw
 n0:c0≠cw
 n1:c1≠cw
 n2:c2≠cw
 n3:c3≠cw
structure Defs(K:af)(mg:Str->Option Value):Prop where
 is_whole:Df K mg "is_whole" T.f_is_whole ["thing"]
 is_within:Df K mg "is_within" T.f_is_within ["thing","low","high"]
 is_text_of:Df K mg "is_text_of" T.f_is_text_of ["thing","longest","signs"]
 is_name:Df K mg "is_name" T.f_is_name ["thing"]
 is_group_name:Df K mg "is_group_name" T.f_is_group_name ["thing"]
 is_known:Df K mg "is_known" T.f_is_known ["thing","names"]
 rows_of:Df K mg "rows_of" T.f_rows_of ["part","rows"]
 wrong_beginning:Df K mg "wrong_beginning" T.f_wrong_beginning ["part","row","names_ahead"]
 wrong_ends:Df K mg "wrong_ends" T.f_wrong_ends ["table","start","goal"]
 wrong_place:Df K mg "wrong_place" T.f_wrong_place ["row"]
 wrong_ride:Df K mg "wrong_ride" T.f_wrong_ride ["table","row"]
 wrong_way:Df K mg "wrong_way" T.f_wrong_way ["table","row"]
 wrong_group:Df K mg "wrong_group" T.f_wrong_group ["table","row","people_ahead"]
 refuse_row:Df K mg "refuse_row" T.f_refuse_row ["part","at","why"]
 set_outs_of:Df K mg "set_outs_of" T.f_set_outs_of ["table"]
 walks_of:Df K mg "walks_of" T.f_walks_of ["table"]
 waits_of:Df K mg "waits_of" T.f_waits_of ["table"]
 moves_of:Df K mg "moves_of" T.f_moves_of ["table"]
 steps_of:Df K mg "steps_of" T.f_steps_of ["table"]
 is_spot_of:Df K mg "is_spot_of" T.f_is_spot_of ["table","thing"]
 _law_box:Df K mg "_law_box" T.f__law_box ["_law_cell_here"]
 _law_take:Df K mg "_law_take" T.f__law_take [q_b,"_law_many"]
 _law_names:Df K mg "_law_names" T.f__law_names [q_b,"_law_many"]
 _law_places:Df K mg "_law_places" T.f__law_places [q_b]
 _law_size:Df K mg "_law_size" T.f__law_size [q_b]
 _law_ends:Df K mg "_law_ends" T.f__law_ends [q_b,q_p]
 _law_ride:Df K mg "_law_ride" T.f__law_ride [q_b,"_law_name","_law_turns",q_p]
 _law_way:Df K mg "_law_way" T.f__law_way [q_b,"_law_name",q_p]
 _law_group:Df K mg "_law_group" T.f__law_group [q_b,"_law_name","_law_turns",q_p]
 _law_world:Df K mg "_law_world" T.f__law_world [q_b]
 _law_steps:Df K mg "_law_steps" T.f__law_steps [q_w]
 _law_table:Df K mg "_law_table" T.f__law_table [q_w]
 _law_keys:Df K mg "_law_keys" T.f__law_keys ["_law_steps_here"]
 _law_of_node:Df K mg "_law_of_node" T.f__law_of_node ["_law_web","_law_steps_here","_law_node"]
 _law_refused:Df K mg "_law_refused" T.f__law_refused ["_law_web","_law_way_here","_law_thing"]
 _law_is:Df K mg "_law_is" T.f__law_is ["_law_found","_law_due"]
 _law_of_thing:Df K mg "_law_of_thing" T.f__law_of_thing [q_t,"_law_web","_law_steps_here",q_w,"_law_thing"]
 _law_things:Df K mg "_law_things" T.f__law_things [q_b,q_w,q_s]
theorem Rb(W:K1.Txt K mg)(G:TB.Txt K mg)(Zs:Sizes K w mg)(Zm:Mosts K w mg)(he:mg "enumerate"=none)(D:Defs K mg)(t:TabF K mg C)(b:BadF K mg Cb):TMk P w K mg base C Cb:=by obtain⟨f,fd,M,F,bd⟩:=t.init;have B:=b.err (P:=P) (w:=w) (base:=base);have cW:=K1.NP (P:=P) (w:=w) (base:=base) W D.is_whole;have cI:=K1.MO (P:=P) (w:=w) (base:=base) D.is_within cW;have cX:=K1.RW (P:=P) (w:=w) (base:=base) W D.is_text_of;have cN:=K1.LU (P:=P) (w:=w) (base:=base) W D.is_name cX;have cG:=K1.WY (P:=P) (w:=w) (base:=base) W D.is_group_name cX;have cK:=NR (P:=P) (w:=w) (base:=base) G D.is_known;have cP:=GW (P:=P) (w:=w) (base:=base) t.cl t.ms.is_place cK;have cH:=R5 (P:=P) (w:=w) (base:=base) t.cl t.ms.is_home cP;have cE:=LY (P:=P) (w:=w) (base:=base) t.cl D.wrong_ends cP cH;have cB:=RU (P:=P) (w:=w) (base:=base) G Zs D.wrong_beginning cN cG;have cR:=TB.VX (P:=P) (w:=w) (base:=base) B D.refuse_row;have cRo:=LQ (P:=P) (w:=w) (base:=base) G Zm B D.rows_of;have c1:=WR (P:=P) (w:=w) (base:=base) t.cl he t.ms.take_places cB (RS G D.wrong_place cI) cR;have c2:=WQ (P:=P) (w:=w) (base:=base) t.cl he t.ms.take_rides cB (LR G t.cl D.wrong_ride cI cE) cR;have c3:=WO (P:=P) (w:=w) (base:=base) t.cl he t.ms.take_ways cB (Ea G t.cl D.wrong_way cI cE) cR;have c4:=WS (P:=P) (w:=w) (base:=base) t.cl he t.ms.take_groups cB (RT G t.cl D.wrong_group cI cP) cR;refine⟨⟨f,fd,M,F.okX Dy (λvs H Q E h=>?_) λcdv A outer s H vs Q E hr h=>R9 G t.cl B (cI.mono (by decide)) (cRo.mono (by decide)) (c1.mono (by decide)) (c2.mono (by decide)) (c3.mono (by decide)) (c4.mono (by decide)) hr h,bd⟩,t.mg⟩;obtain⟨t',dx,vT,T',v1,v2,v3,v4,r1,r2,r3,r4,rfl,_⟩:=h;rfl
theorem all4{R:Nat->Prop}(h0:R 0)(h1:R 1)(h2:R 2)(h3:R 3):∀j,j<4->R j:=λj hj=>by
 have e:j=0\/j=1\/j=2\/j=3:=by omega
 rcases e with rfl|rfl|rfl|rfl<;>assumption
noncomputable def c4(c0 c1 c2 c3:Addr)(i:Nat):Addr:=[c0,c1,c2,c3].getD i 0
theorem AllSt.sty{c0 c1 c2 c3 cb cw:Addr}(a:AllSt K mg c0 c1 c2 c3 cb cw):STy K mg (c4 c0 c1 c2 c3) where
 ty:=all4 a.s0.ty a.s1.ty a.s2.ty a.s3.ty
 kk:=λi j hi hj=>by
  revert i
  refine all4 (R:=λj=>∀i,i<4->aj K (.ref (c4 c0 c1 c2 c3 j)) (.ref (c4 c0 c1 c2 c3 i))=some (decide (j=i))) ?_ ?_ ?_ ?_ j hj
  ·exact all4 a.k00 a.k01 a.k02 a.k03
  ·exact all4 a.k10 a.k11 a.k12 a.k13
  ·exact all4 a.k20 a.k21 a.k22 a.k23
  ·exact all4 a.k30 a.k31 a.k32 a.k33
 m0:=a.s0.mg
 m1:=a.s1.mg
 m2:=a.s2.mg
 m3:=a.s3.mg
theorem DZ{f Cn c0 c1 c2 c3 cb cw:Addr}{fd:bH}(W:K1.Txt K mg)(G:TB.Txt K mg)(Zs:Sizes K w mg)(Zm:Mosts K w mg)(B:∀x∈Blts,mg x=none)(D:Defs K mg)(t:TabF K mg C)(b:BadF K mg Cb){Qa:Addr}(ns:NoF K mg "NoSpot" "NoSpot.__init__" T.m_NoSpot___init__ Cn Qa)(a:AllSt K mg c0 c1 c2 c3 cb cw)(F:Fun K "law" "law" T.f_law f fd):FnOk P w K mg base CX0 10 f fd ["_law_script"] (P5 K):=by have tm:=Rb (P:=P) (base:=base) W G Zs Zm (bm B) D t b;have Z:=t.cl;have ZW:=a.web.cl;have cT:=LL (P:=P) (w:=w) (base:=base) (mg:=mg) D._law_take;have cS:=LP (P:=P) (w:=w) (base:=base) (mg:=mg) cT D._law_size;have cN:=WU (P:=P) (w:=w) (base:=base) (mg:=mg) B cT D._law_names;have cE:=WX (P:=P) (w:=w) (base:=base) (mg:=mg) B cT D._law_ends;have cWo:=WK (P:=P) (w:=w) (base:=base) (mg:=mg) B cT cN (RX B cT cN cS D._law_places) (WW B cT cS cE D._law_ride) (LV B cT cS cE D._law_way) (R4 B cT D._law_group) D._law_world;have cI:=K1.MO (P:=P) (w:=w) (base:=base) (mg:=mg) D.is_within (K1.NP W D.is_whole);have cK:=NR (P:=P) (w:=w) (base:=base) (mg:=mg) G D.is_known;have cP:=GW (P:=P) (w:=w) (base:=base) (mg:=mg) Z t.ms.is_place cK;have cG:=PD (P:=P) (w:=w) (base:=base) (mg:=mg) Z t.ms.is_group cK;have ZS:∀j,j<4->SCl K (c4 c0 c1 c2 c3 j):=all4 a.s0.cl a.s1.cl a.s2.cl a.s3.cl;have ne:∀j,j<4->c4 c0 c1 c2 c3 j≠cw:=all4 a.n0 a.n1 a.n2 a.n3;obtain⟨fb,fdb,Fb,bm,bb⟩:=a.base;have CB:CanB P w K mg base cb:=⟨⟨fb,fdb,Lb Fb,bm,bb⟩,a.mb⟩;obtain⟨f0,g0,M0,F0,b0⟩:=a.s0.init;obtain⟨f1,g1,M1,F1,b1⟩:=a.s1.init;obtain⟨f2,g2,M2,F2,b2⟩:=a.s2.init;obtain⟨f3,g3,M3,F3,b3⟩:=a.s3.init;obtain⟨f4,g4,M4,F4,b4⟩:=a.web.init;have m0:SMk P w K mg base "SetOut" (c4 c0 c1 c2 c3 0) ["self","row","turn"] (spMk K (c4 c0 c1 c2 c3) 0 KD):=⟨⟨f0,g0,M0,E4 CB F0,b0⟩,a.s0.mg⟩;have m1:SMk P w K mg base "Ride" (c4 c0 c1 c2 c3 1) ["self","row"] (spMk K (c4 c0 c1 c2 c3) 1 Rq):=⟨⟨f1,g1,M1,DQ CB F1,b1⟩,a.s1.mg⟩;have m2:SMk P w K mg base "Walk" (c4 c0 c1 c2 c3 2) ["self","row","turn"] (spMk K (c4 c0 c1 c2 c3) 2 Ro):=⟨⟨f2,g2,M2,DO CB F2,b2⟩,a.s2.mg⟩;have m3:SMk P w K mg base "Wait" (c4 c0 c1 c2 c3 3) ["self","row","turn"] (spMk K (c4 c0 c1 c2 c3) 3 Rp):=⟨⟨f3,g3,M3,DP CB F3,b3⟩,a.s3.mg⟩;have cSt:=WT (P:=P) (w:=w) (base:=base) (mg:=mg) (LS B Z ZS m0 D.set_outs_of) (WV B Z ZS m1 (WL B Z ZS m2 D.walks_of) (WN B Z ZS m3 D.waits_of) D.moves_of) D.steps_of;have cSp:=LM (P:=P) (w:=w) (base:=base) (mg:=mg) B Z cP cI D.is_spot_of;have wm:WMk P w K mg base cw C (c4 c0 c1 c2 c3):=⟨⟨f4,g4,M4,La ZW ne ZS cSt (all4 (Vs a.s0.ms.tail) (Vs a.s1.ms.tail) (Vs a.s2.ms.tail) (Vs a.s3.ms.tail)) (all4 (Vt a.s0.ms.head) (Vt a.s1.ms.head) (Vt a.s2.ms.head) (Vt a.s3.ms.head)) F4,b4⟩,a.web.mg⟩;have cWs:=WJ (P:=P) (w:=w) (base:=base) (mg:=mg) (Cs:=c4 c0 c1 c2 c3) ZW cSp a.web.ms.is_spot;have cWa:=LK (P:=P) (w:=w) (base:=base) (mg:=mg) (C:=C) (Cs:=c4 c0 c1 c2 c3) B ZW a.web.ms.all_steps;have cRf:=VX (P:=P) (w:=w) (base:=base) (mg:=mg) ZW Z (ns.err Kw rfl) cWs cG a.web.ms.refuse_no_node;have cLo:=LW (P:=P) (w:=w) (base:=base) (mg:=mg) B ZW cRf a.web.ms.leading_out;have cLi:=Ec (P:=P) (w:=w) (base:=base) (mg:=mg) B ZW cRf a.web.ms.leading_in;have cKy:=LX (P:=P) (w:=w) (base:=base) (mg:=mg) B ZS a.sty (all4 (UT a.s0.ms.key) (UT a.s1.ms.key) (UT a.s2.ms.key) (UT a.s3.ms.key)) D._law_keys;obtain⟨fI,fd',X,_,_⟩:=ns.at_;have cRe:=QZ (P:=P) (w:=w) (base:=base) (mg:=mg) B ZW X ns.na cLi cLo D._law_refused;exact E5 B ZW tm wm (Ed B D._law_box) cT cWo (RZ B tm D._law_table) (R0 B D._law_steps) cKy (RV B cT D._law_things) (Q0 B ZW cWs cSp (Eb B D._law_is) (RY B ZW cLi cLo cKy D._law_of_node) cRe D._law_of_thing) cRe cLi cWs cWa F
theorem law_fd{l:hG}{h:Heap}{fa f:Addr}(X:K.In h)(G:h.Ns aK mg)(hfa:mg "law"=some (.ref fa))(Wt:K1.Txt K mg)(Gt:TB.Txt K mg)(Zs:Sizes K w mg)(Zm:Mosts K w mg)(B:∀x∈Blts,mg x=none)(D:Defs K mg)(ht:∃C,TabF K mg C)(hb:∃Cb,BadF K mg Cb)(hn:∃Cn Qa,NoF K mg "NoSpot" "NoSpot.__init__" T.m_NoSpot___init__ Cn Qa)(hS:∃c0 c1 c2 c3 cb cw,AllSt K mg c0 c1 c2 c3 cb cw){oc:Value}{od an:Option Addr}{osl:Array (Option Value)}{kV doc pm cdv ct:Value}(a:aX K aK "law"=some (some (.ref f)))(lk:K.lookup f=some ⟨oc,od,.func (a9 "law" "law" (Yo T.f_law) (Zz T.f_law) (Ze T.f_law) .none kV doc pm an cdv ct),osl⟩)(c:bN K cdv "law"=true)(k:aJ K (.ref f)=true):∃fd:bH,(∀(s:ah)(v:Value),BindsTo s fd ⟨[v],[]⟩ [("_law_script",v)])/\∀base:Heap,K.In base->base.Ns aK mg->FnOk l.prog w K mg base CX0 10 fa fd ["_law_script"] (P5 K):=by have e:=hfa.symm.trans (cj X G a);cases e;obtain⟨C,t⟩:=ht;obtain⟨Cb,b⟩:=hb;obtain⟨Cn,Qa,nf⟩:=hn;obtain⟨c0,c1,c2,c3,cb,cw,sa⟩:=hS;have F:=XN (st:=T.f_law) lk c k;exact⟨a9 "law" "law" (Yo T.f_law) (Zz T.f_law) (Ze T.f_law) .none kV doc pm an cdv ct,λs v=>.of_eq rfl,λbase _ _=>DZ Wt Gt Zs Zm B D t b nf sa F⟩
end
theorem bad_mk{K:af}{h:Heap}{mg:Str->Option Value}{C fI Qa N:Addr}{nm q:Str}{bs:List Value}{sn:List Str}{sub:List Value}{ab:Bool}{col:Option Bool}{dd:Option Addr}{k0 k1 k2 k3 k5:Option Value}{c1 c2 c3 oc:Value}{d1 d2 d3 od an:Option Addr}{es1 es3:Array DictEntry}{ep1 ep3:Nat}{sl1 sl2 sl3 osl:Array (Option Value)}{cdQ:ClassData}{NQ:Addr}{kV doc pm cdv ct:Value}(KX:K.In h)(G:h.Ns aK mg)(a:aX K aK "BadTable"=some (some (.ref C)))(l:K.lookup C=some (excClassObj nm q C N bs (.ref Qa::bmV) true sn sub ab col dd k0 k1 k2 k3 k5 "ValueError.__new__"))(n1:K.lookup N=some ⟨c1,d1,.dict es1 ep1,sl1⟩)(n1e:(es1.toList.all λe=>match e.key with|.str _ _=>true|_=>false)=true)(n2:aX K N "__init__"=some (some (.ref fI)))(lq:K.lookup Qa=some ⟨c2,d2,.cls cdQ,sl2⟩)(eq:cdQ.ns=NQ)(nq:K.lookup NQ=some ⟨c3,d3,.dict es3 ep3,sl3⟩)(nqe:(es3.toList.all λe=>match e.key with|.str _ _=>true|_=>false)=true)(iq:aX K NQ "__init__"=some none)(lf:K.lookup fI=some ⟨oc,od,.func (a9 "__init__" "BadTable.__init__" (Yo T.m_BadTable___init__) (Zz T.m_BadTable___init__) (Ze T.m_BadTable___init__) .none kV doc pm an cdv ct),osl⟩)(cf:oc=.type "function")(cc:bN K cdv "BadTable.__init__"=true)(ck:aJ K (.ref fI)=true)(sa:ak K (.ref C) "__setattr__"=some (some (.builtin "object.__setattr__")))(ob:cL K C (.type "object")=some true)(ga:ak K (.ref C) "__getattribute__"=some (some (.builtin "BaseException.__getattribute__")))(gg:ak K (.ref C) "__getattr__"=some none)(hd:bZ K C=true)(be:cL K C (.type "BaseException")=some true)(kp:aJ K (.ref C)=true)(y1:ak K (.ref C) "part"=some none)(y2:ak K (.ref C) "at"=some none)(y3:ak K (.ref C) "why"=some none):∃C,BadF K mg C:=by
 have n1':cO K N=true:=by unfold cO;rw[n1];dsimp only;rw[<-fM];exact n1e
 have nq':cO K NQ=true:=by unfold cO;rw[nq];dsimp only;rw[<-fM];exact nqe
 have tl:da K bmV (.ref Qa::bmV)=true:=by subst eq;unfold da;rw[Bool.or_eq_true];refine .inr ?_;dsimp only;rw[lq];dsimp only;rw[nq',iq];unfold da;rw[show(bmV==bmV)=true from by decide];rfl
 have F:=XN (st:=T.m_BadTable___init__) lf cc ck;have X:XK1 K mg "BadTable" C fI Qa:=⟨⟨⟨nm,q,N,bs,sn,sub,ab,col,dd,k0,k1,k2,k3,k5,l,n1',n2⟩,tl,⟨_,lf,cf⟩,sa,ob⟩,⟨ga,gg,hd,be⟩,⟨nm,q,N,bs,_,true,sn,sub,ab,col,dd,k0,k1,k2,k3,k5,_,l,by rw[dC];exact Bool.or_eq_true_iff.mpr (.inr (by decide))⟩,cj KX G a,kp⟩;exact⟨C,⟨fI,Qa,_,X,F,F.binds λ_ _ _ _ _ _ us hl=>by obtain⟨_,_,_,_,rfl⟩:=len4 hl;rfl⟩,y1,y2,y3⟩
theorem tail_mk{K:af}{Qa NQ:Addr}{c2 c3:Value}{d2 d3:Option Addr}{cdQ:ClassData}{sl2 sl3:Array (Option Value)}{es3:Array DictEntry}{ep3:Nat}(lq:K.lookup Qa=some ⟨c2,d2,.cls cdQ,sl2⟩)(eq:cdQ.ns=NQ)(nq:K.lookup NQ=some ⟨c3,d3,.dict es3 ep3,sl3⟩)(nqe:(es3.toList.all λe=>match e.key with|.str _ _=>true|_=>false)=true)(iq:aX K NQ "__init__"=some none):da K bmV (.ref Qa::bmV)=true:=by
 have nq':cO K NQ=true:=by unfold cO;rw[nq];dsimp only;rw[<-fM];exact nqe
 subst eq;unfold da;rw[Bool.or_eq_true];refine .inr ?_;dsimp only;rw[lq];dsimp only;rw[nq',iq];unfold da;rw[show(bmV==bmV)=true from by decide];rfl
theorem no_one{K:af}{h:Heap}{mg:Str->Option Value}{x qual:Str}{st:Stmt}{C fI Qa N:Addr}{nm q:Str}{bs:List Value}{sn:List Str}{sub:List Value}{ab:Bool}{col:Option Bool}{dd:Option Addr}{k0 k1 k2 k3 k5:Option Value}{c1 oc:Value}{d1 od an:Option Addr}{es1:Array DictEntry}{ep1:Nat}{sl1 osl:Array (Option Value)}{kV doc pm cdv ct:Value}(KX:K.In h)(G:h.Ns aK mg)(a:aX K aK x=some (some (.ref C)))(l:K.lookup C=some (excClassObj nm q C N bs (.ref Qa::bmV) true sn sub ab col dd k0 k1 k2 k3 k5 "ValueError.__new__"))(n1:K.lookup N=some ⟨c1,d1,.dict es1 ep1,sl1⟩)(n1e:(es1.toList.all λe=>match e.key with|.str _ _=>true|_=>false)=true)(n2:aX K N "__init__"=some (some (.ref fI)))(tl:da K bmV (.ref Qa::bmV)=true)(lf:K.lookup fI=some ⟨oc,od,.func (a9 "__init__" qual (Yo st) (Zz st) (Ze st) .none kV doc pm an cdv ct),osl⟩)(cf:oc=.type "function")(cc:bN K cdv qual=true)(ck:aJ K (.ref fI)=true)(sa:ak K (.ref C) "__setattr__"=some (some (.builtin "object.__setattr__")))(ob:cL K C (.type "object")=some true)(ga:ak K (.ref C) "__getattribute__"=some (some (.builtin "BaseException.__getattribute__")))(gg:ak K (.ref C) "__getattr__"=some none)(hd:bZ K C=true)(be:cL K C (.type "BaseException")=some true)(kp:aJ K (.ref C)=true)(y1:ak K (.ref C) "found"=some none)(hb:∀(kV doc pm:Value)(an:Option Addr)(cdv ct:Value)(us:List Value),us.length=2->bindArgs (a9 "__init__" qual (Yo st) (Zz st) (Ze st) .none kV doc pm an cdv ct) ⟨us,[]⟩=pure ((["self","found"]:List Str).zip us)):NoF K mg x qual st C Qa:=by
 have n1':cO K N=true:=by unfold cO;rw[n1];dsimp only;rw[<-fM];exact n1e
 have F:=XN (st:=st) lf cc ck;have X:XK1 K mg x C fI Qa:=⟨⟨⟨nm,q,N,bs,sn,sub,ab,col,dd,k0,k1,k2,k3,k5,l,n1',n2⟩,tl,⟨_,lf,cf⟩,sa,ob⟩,⟨ga,gg,hd,be⟩,⟨nm,q,N,bs,_,true,sn,sub,ab,col,dd,k0,k1,k2,k3,k5,_,l,by rw[dC];exact Bool.or_eq_true_iff.mpr (.inr (by decide))⟩,cj KX G a,kp⟩;exact⟨⟨fI,_,X,F,F.binds hb⟩,y1⟩
theorem tab_mk{K:af}{h:Heap}{mg:Str->Option Value}{C f1:Addr}{oc1:Value}{od1 an1:Option Addr}{osl1:Array (Option Value)}{kV1 doc1 pm1 cdv1 ct1:Value}(X:K.In h)(G:h.Ns aK mg)(aC:aX K aK "Table"=some (some (.ref C)))(pg:de K C Str.empty=true)(hd:bZ K C=true)(po:d5 K C=true)(sa:ak K (.ref C) "__setattr__"=some (some (.builtin "object.__setattr__")))(mk:eB K C=true)(kc:aJ K (.ref C)=true)(y1:ak K (.ref C) "turns"=some none)(y2:ak K (.ref C) "places"=some none)(y3:ak K (.ref C) "room_by_place"=some none)(y4:ak K (.ref C) "rides"=some none)(y5:ak K (.ref C) "ride_by_name"=some none)(y6:ak K (.ref C) "ways"=some none)(y7:ak K (.ref C) "way_by_name"=some none)(y8:ak K (.ref C) "groups"=some none)(y9:ak K (.ref C) "group_by_name"=some none)(a1:ak K (.ref C) "__init__"=some (some (.ref f1)))(i1:dZ K (.ref f1)=true)(l1:K.lookup f1=some ⟨oc1,od1,.func (a9 "__init__" "Table.__init__" (Yo T.m_Table___init__) (Zz T.m_Table___init__) (Ze T.m_Table___init__) .none kV1 doc1 pm1 an1 cdv1 ct1),osl1⟩)(c1:bN K cdv1 "Table.__init__"=true)(k1:aJ K (.ref f1)=true)(ms:Meths K C):∃C,TabF K mg C:=by have F:=XN (st:=T.m_Table___init__) l1 c1 k1;refine⟨C,⟨⟨pg,hd,po,sa⟩,λf hf=>?_⟩,⟨f1,_,⟨mk,a1,i1,kc⟩,F,F.binds λ_ _ _ _ _ _ us hl=>by obtain⟨_,_,_,_,_,_,rfl⟩:=len6 hl;rfl⟩,cj X G aC,ms⟩;unfold fields at hf;simp only[au,aG,or_false]at hf;rcases hf with rfl|rfl|rfl|rfl|rfl|rfl|rfl|rfl|rfl<;>assumption
theorem kit_mk{K:af}{t:Value}{C:Addr}{b:Bool}(hne:(t==.ref C)=false)(hm:cL K C (.type "object")=some true)(ht:PySem.W.typeIn K (.ref C)=some (.type "type"))(hs:PySem.W.subIn K t (.ref C)=some b):aj K t (.ref C)=some b:=by
 have hc:(PySem.W.clsIn K C).isSome=true:=by
  unfold cL at hm;cases h:PySem.W.clsIn K C with
 |none=>rw[h]at hm;cases hm
 |some _=>rfl
 unfold aj PySem.W.kitCls;rw[if_neg (by rw[hne];exact Bool.false_ne_true)];dsimp only;rw[hc,ht,if_pos (by decide)];exact hs
theorem st_mk{K:af}{h:Heap}{mg:Str->Option Value}{x qual:Str}{st:Stmt}{ps:List Str}{C f1:Addr}{oc1:Value}{od1 an1:Option Addr}{osl1:Array (Option Value)}{kV1 doc1 pm1 cdv1 ct1:Value}(X:K.In h)(G:h.Ns aK mg)(aC:aX K aK x=some (some (.ref C)))(pg:de K C Str.empty=true)(hd:bZ K C=true)(po:d5 K C=true)(sa:ak K (.ref C) "__setattr__"=some (some (.builtin "object.__setattr__")))(mk:eB K C=true)(kc:aJ K (.ref C)=true)(y1:ak K (.ref C) "its_key"=some none)(y2:ak K (.ref C) "its_tail"=some none)(y3:ak K (.ref C) "its_head"=some none)(y4:ak K (.ref C) "its_room"=some none)(y5:ak K (.ref C) "its_price"=some none)(a1:ak K (.ref C) "__init__"=some (some (.ref f1)))(i1:dZ K (.ref f1)=true)(l1:K.lookup f1=some ⟨oc1,od1,.func (a9 "__init__" qual (Yo st) (Zz st) (Ze st) .none kV1 doc1 pm1 an1 cdv1 ct1),osl1⟩)(c1:bN K cdv1 qual=true)(k1:aJ K (.ref f1)=true)(hb:∀(kV doc pm:Value)(an:Option Addr)(cdv ct:Value)(us:List Value),us.length=ps.length->bindArgs (a9 "__init__" qual (Yo st) (Zz st) (Ze st) .none kV doc pm an cdv ct) ⟨us,[]⟩=pure (ps.zip us))(ha:ak K (.ref C) "__class__"=some (some (.builtin "object.__class__")))(hn:fj K (.builtin "object.__class__") "__get__"=some (some (.builtin "getset_descriptor.__get__")))(htk:PySem.W.takesIn K (.builtin "object.__class__")=some true)(hm:cL K C (.type "object")=some true)(ms:SMeths K C):StF K mg x qual st ps C:=by have F:=XN (st:=st) l1 c1 k1;refine⟨⟨⟨pg,hd,po,sa⟩,λf hf=>?_⟩,λH a dx fs e=>.ins e ⟨pg,hd,po,sa⟩ ha hn htk hm,⟨f1,_,⟨mk,a1,i1,kc⟩,F,F.binds hb⟩,cj X G aC,ms⟩;unfold fnames at hf;simp only[au,aG,or_false]at hf;rcases hf with rfl|rfl|rfl|rfl|rfl<;>assumption
theorem base_mk{K:af}{C f1:Addr}{oc1:Value}{od1 an1:Option Addr}{osl1:Array (Option Value)}{kV1 doc1 pm1 cdv1 ct1 mc:Value}(ga:fj K (.ref C) "__getattribute__"=some (some (.builtin "type.__getattribute__")))(rd:PySem.W.readsIn K C mc=true)(fc:PySem.W.findCls K (.ref C) mc "__init__"=some (.val (.ref f1)))(l1:K.lookup f1=some ⟨oc1,od1,.func (a9 "__init__" "Step.__init__" (Yo T.m_Step___init__) (Zz T.m_Step___init__) (Ze T.m_Step___init__) .none kV1 doc1 pm1 an1 cdv1 ct1),osl1⟩)(c1:bN K cdv1 "Step.__init__"=true)(k1:aJ K (.ref f1)=true):∃f fd,Fun K "__init__" "Step.__init__" T.m_Step___init__ f fd/\BaseM K C "__init__" f/\Binds K fd ["self","key","tail","head","room","price"] []:=by have F:=XN (st:=T.m_Step___init__) l1 c1 k1;exact⟨f1,_,F,⟨ga,⟨mc,rd,fc⟩,k1⟩,F.binds λ_ _ _ _ _ _ us hl=>by obtain⟨_,_,_,_,_,_,rfl⟩:=len6 hl;rfl⟩
theorem web_mk{K:af}{h:Heap}{mg:Str->Option Value}{C f1:Addr}{oc1:Value}{od1 an1:Option Addr}{osl1:Array (Option Value)}{kV1 doc1 pm1 cdv1 ct1:Value}(X:K.In h)(G:h.Ns aK mg)(aC:aX K aK "Web"=some (some (.ref C)))(pg:de K C Str.empty=true)(hd:bZ K C=true)(po:d5 K C=true)(sa:ak K (.ref C) "__setattr__"=some (some (.builtin "object.__setattr__")))(mk:eB K C=true)(kc:aJ K (.ref C)=true)(y1:ak K (.ref C) "table"=some none)(y2:ak K (.ref C) "steps"=some none)(y3:ak K (.ref C) "steps_by_tail"=some none)(y4:ak K (.ref C) "steps_by_head"=some none)(a1:ak K (.ref C) "__init__"=some (some (.ref f1)))(i1:dZ K (.ref f1)=true)(l1:K.lookup f1=some ⟨oc1,od1,.func (a9 "__init__" "Web.__init__" (Yo T.m_Web___init__) (Zz T.m_Web___init__) (Ze T.m_Web___init__) .none kV1 doc1 pm1 an1 cdv1 ct1),osl1⟩)(c1:bN K cdv1 "Web.__init__"=true)(k1:aJ K (.ref f1)=true)(ms:WMeths K C):WebF K mg C:=by have F:=XN (st:=T.m_Web___init__) l1 c1 k1;refine⟨⟨⟨pg,hd,po,sa⟩,λf hf=>?_⟩,⟨f1,_,⟨mk,a1,i1,kc⟩,F,F.binds λ_ _ _ _ _ _ us hl=>by obtain⟨_,_,rfl⟩:=len2 hl;rfl⟩,cj X G aC,ms⟩;unfold wnames at hf;simp only[au,aG,or_false]at hf;rcases hf with rfl|rfl|rfl|rfl<;>assumption
theorem walk{l:hG}{q:Program}{loose:List Str}{XP:(Str->Option Value)->Heap->Prop}{YP:World->Heap->Prop}{d:DefRec}{K:Params->af}(hn:l.most=some 63)(hdf:d.params.defaults=[])(hY:∀(w:World)(h:Heap),YP w h->(K w.params).In h)(F:∀(w:World)(mg:Str->Option Value)(fa:Addr)(h:Heap),(K w.params).In h->h.Ns aK mg->mg d.name=some (.ref fa) ->∃fd:bH,(∀(s:ah)(u:Value),BindsTo s fd ⟨[u],[]⟩ [("_law_script",u)])/\∀base:Heap,(K w.params).In base->base.Ns aK mg->FnOk l.prog w (K w.params) mg base CX0 10 fa fd ["_law_script"] (P5 (K w.params))):PySem.W.WalkO q loose XP YP l.row.toRowW d [] (λf vs=>PySem.call f vs):=L2.Dj (n:=63) (k:=10) (x:="_law_script") (CX:=λ_=>CX0) (sp:=λw=>P5 (K w.params)) hn (by decide) hdf ⟨rfl,by decide,by decide,rfl⟩ hY F (λ_ _ a ns hl _ hS=>⟨a,ns,rfl,hS,hl,λ_=>rfl⟩) λ_ _ _ _ _ z=>z
end SX
open PySem PySem.W PyProof.Rows
set_option hygiene false in
local macro_rules
|`(tactic| o_head $H)=>`(tactic| (
   refine holds_open (q:=RG.QV) (loose:=RG.LO) (Xt:=RG.XT) (XP:=XL RG.QV [])
    (Yf:=Hook.obs $H) (Ya:=Hook.val $H) (YP:=Hook.says $H) (N:=12000) ?hl (Hook.of $H) (Hook.keeps $H) (λs e=>xl_of s (Bool.and_eq_true_iff.mp e).1)
    XL.keeps (by rfl) (by rfl) (by rfl) (λs e=>recFacts_of (Bool.and_eq_true_iff.mp e).2) (by rfl) (by first|assumption|decide +kernel) (by decide +kernel)
    ⟨rfl,rfl,rfl,rfl,rfl,by decide +kernel⟩ ?hw ?hc
   case' hl=>exact RG.HP (by kernel_rfl) (λs=>by kernel_rfl) RG.kfE (λw=>rfl)))
set_option maxRecDepth 100000 in
set_option maxHeartbeats 0 in
theorem PySem.Challenge.cw_homequay_k13_webs_holds : PySem.Challenge.rw_homequay_k13_webs.Holds := by
 w_on;o_law;o_head (kHook RG.hk.heap_39 RG.AS RG.eK);(case hw=>w_witness2);k_fill;refine SX.walk (l:=cv) rfl rfl (λw h Y=>PySem.W.kIn_of Y) ?F;case F=>
  intro w mg fa h KX G hmg;have D:SX.Defs (L2.KOf KX) mg:=by dsimp only[L2.KOf];constructor<;>(refine' L2.HZ KX G ?a ?l ?c ?k ?b;(case a|l|c|k=>k_is);(case b=>exact λ_ _ _ _ _ _ us hl=>by first|(obtain⟨_,rfl⟩:=L2.len1 hl;rfl)|(obtain⟨_,_,rfl⟩:=L2.len2 hl;rfl)|(obtain⟨_,_,_,rfl⟩:=L2.len3 hl;rfl)|(obtain⟨_,_,_,_,rfl⟩:=L2.len4 hl;rfl)|(obtain⟨_,_,_,_,_,rfl⟩:=L2.len5 hl;rfl)))
  have B:∀x∈WD.Blts,mg x=none:=by intro x hx;unfold WD.Blts at hx;simp only[au,aG,or_false]at hx;rcases hx with rfl|rfl|rfl|rfl|rfl|rfl|rfl|rfl|rfl|rfl|rfl|rfl|rfl<;>(refine' gB KX G ?a;(case a=>k_is))
  have W:K1.Txt (L2.KOf KX) mg:=by constructor<;>((first|refine' gB KX G ?a|refine' L2.str_mk KX G ?a|refine' L2.int_mk KX G ?a);(case a=>k_is))
  have Gt:TB.Txt (L2.KOf KX) mg:=by constructor<;>((first|refine' gB KX G ?a|refine' L2.str_mk KX G ?a|refine' L2.int_mk KX G ?a);(case a=>k_is))
  have Zs:TB.Sizes (L2.KOf KX) w mg:=by refine⟨?_⟩;dsimp only[L2.KOf];refine' L2.TH KX G ?a ?l ?k ?h1 ?h2 ?h3 ?h4;(case a|l=>k_is);(case k=>k_keys);(case h1|h2|h3|h4=>k_is)
  have Zm:TB.Mosts (L2.KOf KX) w mg:=by refine⟨?_⟩;dsimp only[L2.KOf];refine' L2.TH KX G ?a ?l ?k ?h1 ?h2 ?h3 ?h4;(case a|l=>k_is);(case k=>k_keys);(case h1|h2|h3|h4=>k_is)
  have hb:∃C,SX.BadF (L2.KOf KX) mg C:=by dsimp only[L2.KOf];refine' SX.bad_mk KX G ?a ?l ?n1 ?n1e ?n2 ?lq ?eq ?nq ?nqe ?iq ?lf ?cf ?cc ?ck ?sa ?ob ?ga ?gg ?hd ?be ?kp ?y1 ?y2 ?y3;(case a|l|n1=>k_is);(case n1e=>rfl);(case n2|lq=>k_is);(case eq=>rfl);(case nq=>k_is);(case nqe=>rfl);(case iq|lf=>k_is);(case cf=>rfl);(case cc|ck|sa|ob|ga|gg|hd|be|kp|y1|y2|y3=>k_is)
  have hn:∃Cn Qa,SX.NoF (L2.KOf KX) mg "NoSpot" "NoSpot.__init__" T.m_NoSpot___init__ Cn Qa:=by
   dsimp only[L2.KOf];refine' ⟨_,_,SX.no_one KX G ?a ?l ?n1 ?n1e ?n2 ?tl ?lf ?cf ?cc ?ck ?sa ?ob ?ga ?gg ?hd ?be ?kp ?y1 ?bb⟩;(case a|l|n1=>k_is);(case n1e=>rfl);(case n2|lf=>k_is);(case cf=>rfl);(case cc|ck|sa|ob|ga|gg|hd|be|kp|y1=>k_is)
   (case bb=>exact λ_ _ _ _ _ _ us hl=>by obtain⟨_,_,rfl⟩:=L2.len2 hl;rfl);(case tl=>refine' SX.tail_mk ?lq ?eq ?nq ?nqe ?iq;(case lq=>k_is);(case eq=>rfl);(case nq=>k_is);(case nqe=>rfl);(case iq=>k_is))
  have ht:∃C,SX.TabF (L2.KOf KX) mg C:=by
   dsimp only[L2.KOf];refine' SX.tab_mk KX G ?aC ?pg ?hd ?po ?sa ?mk ?kc ?y1 ?y2 ?y3 ?y4 ?y5 ?y6 ?y7 ?y8 ?y9 ?a1 ?i1 ?l1 ?c1 ?k1 ?ms;(case aC|pg|hd|po|sa|mk|kc|y1|y2|y3|y4|y5|y6|y7|y8|y9|a1|i1|l1|c1|k1=>k_is)
   (case ms=>constructor<;>(refine' L2.LH ?za ?zi ?zl ?zc ?zk ?zb;(case za|zi|zl|zc|zk=>k_is);(case zb=>exact λ_ _ _ _ _ _ us hl=>by first|(obtain⟨_,rfl⟩:=L2.len1 hl;rfl)|(obtain⟨_,_,rfl⟩:=L2.len2 hl;rfl)|(obtain⟨_,_,_,rfl⟩:=L2.len3 hl;rfl)|(obtain⟨_,_,_,_,rfl⟩:=L2.len4 hl;rfl)|(obtain⟨_,_,_,_,_,rfl⟩:=L2.len5 hl;rfl))))
  have hS:∃c0 c1 c2 c3 cb cw,SX.AllSt (L2.KOf KX) mg c0 c1 c2 c3 cb cw:=by
   dsimp only[L2.KOf];refine' ⟨_,_,_,_,_,_,⟨SX.st_mk KX G ?aC_0 ?pg_0 ?hd_0 ?po_0 ?sa_0 ?mk_0 ?kc_0 ?y1_0 ?y2_0 ?y3_0 ?y4_0 ?y5_0 ?a1_0 ?i1_0 ?l1_0 ?c1_0 ?k1_0 ?bb_0 ?ha_0 ?hn_0 ?htk_0 ?hm_0 ?ms_0,SX.st_mk KX G ?aC_1 ?pg_1 ?hd_1 ?po_1 ?sa_1 ?mk_1 ?kc_1 ?y1_1 ?y2_1 ?y3_1 ?y4_1 ?y5_1 ?a1_1 ?i1_1 ?l1_1 ?c1_1 ?k1_1 ?bb_1 ?ha_1 ?hn_1 ?htk_1 ?hm_1 ?ms_1,SX.st_mk KX G ?aC_2 ?pg_2 ?hd_2 ?po_2 ?sa_2 ?mk_2 ?kc_2 ?y1_2 ?y2_2 ?y3_2 ?y4_2 ?y5_2 ?a1_2 ?i1_2 ?l1_2 ?c1_2 ?k1_2 ?bb_2 ?ha_2 ?hn_2 ?htk_2 ?hm_2 ?ms_2,SX.st_mk KX G ?aC_3 ?pg_3 ?hd_3 ?po_3 ?sa_3 ?mk_3 ?kc_3 ?y1_3 ?y2_3 ?y3_3 ?y4_3 ?y5_3 ?a1_3 ?i1_3 ?l1_3 ?c1_3 ?k1_3 ?bb_3 ?ha_3 ?hn_3 ?htk_3 ?hm_3 ?ms_3,?kk_0,SX.kit_mk ?e_10 ?hm_0 ?t_0 ?u_10,SX.kit_mk ?e_20 ?hm_0 ?t_0 ?u_20,SX.kit_mk ?e_30 ?hm_0 ?t_0 ?u_30,SX.kit_mk ?e_01 ?hm_1 ?t_1 ?u_01,?kk_1,SX.kit_mk ?e_21 ?hm_1 ?t_1 ?u_21,SX.kit_mk ?e_31 ?hm_1 ?t_1 ?u_31,SX.kit_mk ?e_02 ?hm_2 ?t_2 ?u_02,SX.kit_mk ?e_12 ?hm_2 ?t_2 ?u_12,?kk_2,SX.kit_mk ?e_32 ?hm_2 ?t_2 ?u_32,SX.kit_mk ?e_03 ?hm_3 ?t_3 ?u_03,SX.kit_mk ?e_13 ?hm_3 ?t_3 ?u_13,SX.kit_mk ?e_23 ?hm_3 ?t_3 ?u_23,?kk_3,SX.base_mk (mc:=.type "type") ?bga ?brd ?bfc ?bl1 ?bc1 ?bk1,cj KX G ?mb,SX.web_mk KX G ?aC_w ?pg_w ?hd_w ?po_w ?sa_w ?mk_w ?kc_w ?y1_w ?y2_w ?y3_w ?y4_w ?a1_w ?i1_w ?l1_w ?c1_w ?k1_w ?ms_w,?n_0,?n_1,?n_2,?n_3⟩⟩;(case aC_0|aC_1|aC_2|aC_3|aC_w=>k_is)
   (case ms_0|ms_1|ms_2|ms_3|ms_w=>constructor<;>(refine' L2.LH ?za ?zi ?zl ?zc ?zk ?zb;(case za|zi|zl|zc|zk=>k_is);(case zb=>exact λ_ _ _ _ _ _ us hl=>by first|(obtain⟨_,rfl⟩:=L2.len1 hl;rfl)|(obtain⟨_,_,rfl⟩:=L2.len2 hl;rfl)|(obtain⟨_,_,_,rfl⟩:=L2.len3 hl;rfl)|(obtain⟨_,_,_,_,rfl⟩:=L2.len4 hl;rfl)|(obtain⟨_,_,_,_,_,rfl⟩:=L2.len5 hl;rfl))))
   (case bb_0|bb_1|bb_2|bb_3=>exact λ_ _ _ _ _ _ us hl=>by first|(obtain⟨_,rfl⟩:=L2.len1 hl;rfl)|(obtain⟨_,_,rfl⟩:=L2.len2 hl;rfl)|(obtain⟨_,_,_,rfl⟩:=L2.len3 hl;rfl)|(obtain⟨_,_,_,_,rfl⟩:=L2.len4 hl;rfl)|(obtain⟨_,_,_,_,_,rfl⟩:=L2.len5 hl;rfl))
   (case n_0|n_1|n_2|n_3|e_01|e_02|e_03|e_10|e_12|e_13|e_20|e_21|e_23|e_30|e_31|e_32=>decide)
   (case kk_0|kk_1|kk_2|kk_3=>unfold aj;rw[if_pos (by simp)])
   (case pg_0|hd_0|po_0|sa_0|mk_0|kc_0|y1_0|y2_0|y3_0|y4_0|y5_0|a1_0|i1_0|l1_0|c1_0|k1_0|ha_0|hn_0|htk_0|hm_0|pg_1|hd_1|po_1|sa_1|mk_1|kc_1|y1_1|y2_1|y3_1|y4_1|y5_1|a1_1|i1_1|l1_1|c1_1|k1_1|ha_1|hn_1|htk_1|hm_1|pg_2|hd_2|po_2|sa_2|mk_2|kc_2|y1_2|y2_2|y3_2|y4_2|y5_2|a1_2|i1_2|l1_2|c1_2|k1_2|ha_2|hn_2|htk_2|hm_2|pg_3|hd_3|po_3|sa_3|mk_3|kc_3|y1_3|y2_3|y3_3|y4_3|y5_3|a1_3|i1_3|l1_3|c1_3|k1_3|ha_3|hn_3|htk_3|hm_3|pg_w|hd_w|po_w|sa_w|mk_w|kc_w|y1_w|y2_w|y3_w|y4_w|a1_w|i1_w|l1_w|c1_w|k1_w|mb|t_0|t_1|t_2|t_3|u_01|u_02|u_03|u_10|u_12|u_13|u_20|u_21|u_23|u_30|u_31|u_32|bga|brd|bfc|bl1|bc1|bk1=>k_is)
  refine' SX.law_fd KX G hmg W Gt Zs Zm B D ht hb hn hS ?fa ?fl ?fc ?fk;(case fa|fl|fc|fk=>k_is)
