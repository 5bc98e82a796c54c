import PyProof.Rows.All
import Wide.All
import OpenK.AllK
import Wide.FinOn
import Lean
import PyProof.EqAt
import PyProof.EqKinds
import PyProof.TupleCall
import KE.KIntText
import KE.IntTextLaws
import PyProof.ExcClass3
import PyProof.InstStoreFacts
import PyProof.ExcBaseAll.ValueError
import PyProof.NsDelKeeps
import PyProof.ExcAttrAll.ValueError
import OpenK.KTop
import PyProof.ZipIter
import PyProof.ListNew
import PyProof.ListRange
import PyProof.ReprRoads
import PyProof.Rows.FactsT3
import PyProof.Rows.SumAny
import PyProof.CompUse
import PyProof.EqLayable
import PyProof.CallFns
import PyProof.StrBlock
import PyProof.EnumMake
import PyProof.ReprLen
import PyProof.MeetsDict
import PyProof.DictWalks
import PySem.Challenge.RW_homequay_k52_journeys_joined
open PySem renaming wpAny_bind→aa,wpAny_pure→af,Shared→ah,Spec→aw,starEach→az,wpAny_newObj_type→aO,boot_len→aT,wpAny_holding→aX,wpAny_dictEntries→aY,mainGlobals→a8,wpAny_call_entry→a9,wpAny_callSpecial?_slot→bf,wpAny_dictEpoch→bg,Around→br,bootBuiltins→bt,sysModules→bu,compareOp→bA,wpAny_truthy_bool→bC,tupleKind→bG,OsState→bK,Builtin→bL,Paired→bS,wpAny_setField→bT,rawInt→bX,backTo→b8,FuncData→b_,wpAny_field→cA,assignEach→cJ,tupleKind_room_in1→cL,wpAny_notOrdered_dict→cM,mem_of_lookup→cU,keywordEach→cV,attributeBase→c8,firstArgMember→di,wpAny_typeNameOfWhole_itemiter→dj,sizeLine_eq→dq,wpAny_typeNameOfWhole_valiter→du,wpAny_typeNameOfWhole_keyiter→dw,wpAny_mono→dz,wpAny_Call_Name_kw→dA,wpAny_passesOwn→dC,behindInMarks→dE,wpAny_pyIter_enum→dM,NameKind→dR,wpAny_rule→dS,binaryOp→d5,wpAny_getItem_str_slice→d9,backToKw→eO,wpAny_fieldsOf→eQ,wpAny_isInstance→fe,wpAny_attempt→fo,sliceBounds→fq,wpAny_specialOf→fw,holding→fB,call_meetsIn→fC,getMethod→fF,getItem→fR,foldedSetIterable→fT,swapsWith→f7,wpAny_forIn_list→f9,wpAny_Call_method0_late→f_,wpAny_isOneOf_itemiter→gv,evalArgs_none→gw,wpAny_loadPart'→gy,wpAny_execs_nil→gA,post_val_or_str→gB,letOwnedTupleGo→gC,wpAny_isOneOf_valiter→gG,pyNext→gU,Thread→gV,callWith→gW,strIterType→gX,placesWithHash→gY,wpAny_updateDictKeys→gZ,standAt→g7,codeAny→g8,Keyword→g9,wpAny_standAt→h_,wpAny_handled→ia,entryOfKey→ie,slot_dict_contains→ig
open PySem.Challenge renaming pw_homequay_k52_journeys_joined→ab,rw_homequay_k52_journeys_joined→bH
open PySem.W renaming Frag→ae,kitOne→ay,findIn→aG,keepIn→bw,fnOf→bF,kia_one→bN,emptyDict→bV,nsIn→bZ,codeIn→cw,instObj→cD,kia_tup→df,mg_of→dh,plainGet→dD,hasDictIn→dY,methodCall_KW→d7,isFn→e_,mg_none_of→ff,callWith_K→fg,plainOver→fv,makesIn→fK,lookIn→fV,plainGet_of→gf,specialIn→gH,methodObj→gI,kitx_list→gK,kitx_dict→gL,takerIn→hU,OpenLaw→hV,kitAny→ij
open List renaming mem_map→ai,getElem?_eq_some_iff→aj,size_toArray→ao,mem_cons_of_mem→aq,mem_cons→ar,set→au,length_append→av,map_cons→ax,mem_cons_self→aA,map_append→aE,length_take→aF,take_length→aH,mem_append→aK,getElem_mem→aL,not_mem_nil→aP,getD_eq_getElem?_getD→aQ,length_cons→aU,take_succ→aV,getElem?_map→aW,mem_iff_getElem?→aZ,mem_singleton→a7,mem_of_getElem?→a_,mem_append_right→ba,range→bh,take_of_length_le→bj,nodup_cons→bo,append_nil→bp,mem_append_left→bI,length_filter_le→bO,mem_filter→bP,length_map→bQ,append_assoc→bW,mem_range→cj,eq_nil_of_length_eq_zero→ck,find?_cons→cq,mem_flatMap→cy,all_eq_true→cz,mem_of_mem_take→cO,nodup_nil→cW,lookup_cons→cZ,length_drop→c6,getElem?_eq_none→dr,length_range→dB,getElem?_append_right→dG,map_map→dI,getElem?_append_left→dO,flatMap_append→dQ,reverse_cons→d6,take_append_drop→eI,lookup→eV,length_reverse→fh,filterMap_cons→fj,length→fD,sum_cons→fG,getElem_inj→fL,any_eq_true→fM,map_nil→fS,filter_eq_nil_iff→fU,range_succ→fW,of_mem_zip→fX,pairwise_flatMap→fZ,length_singleton→f6,range'→gi,drop_zero→gk,pairwise_append→gm,mem_of_mem_drop→gn,map_congr_left→gD,zip_cons_cons→gQ,mem_filterMap→gS,filter_append→gT,pairwise_map→g_,mem_reverse→ib,take_append_of_le_length→ip
open Option.some renaming inj→aB
open PySem.PassesOwn renaming never→aD
open PySem.W.Fast renaming tw5923862056798008813→aI,tw4187177175401517315→aJ
open Or renaming inl→aN,inr→fJ
open PySem.Paired renaming length→aR,snoc→c7
open PyProof.Rows renaming callWith_type1→bc,slot_tuple_getitem→dU,boot_isinstance→d8,envOfC→eM,AllBare→gq,boot_max→ik
open PySem.F renaming plainAttrs_list→bq,type_list_append→bD,slot_list_append→bE,plainAttrs_dict→cS,slot_dict_getitem→ft,args_tuple_add_2→fy,entry_tuple_add→fE,slot_tuple_add→fI,slot_dict_get→fQ,slot_dict_setdefault→hW
open Array renaming length_toList→bz,getElem?_toList→d_,mem_toList_iff→eT
open True renaming intro→bB
open PySem.SeqAt renaming shaped→bJ
open Ne renaming symm→bR
open PySem.NameKind renaming free→bU,cell→fu
open PySem.Builtin.Tuple renaming tupleExact→bY,tupleIsExact→gM
open Option renaming isSome_iff_exists→b7,map_eq_some_iff→cu,isSome_map→dZ,map_some→fP
open Sum renaming inr→b9,inl→gx
open PySem.Calls renaming callWith_builtin→cv,spliced_cons→dW,spliced_nil→fA,evalArgs_plain→gg
open PySem.Builtin.Dict renaming samePairs→cQ,showsAll→dX,dictSlotArgs→eZ,noArgs→fN,notOrdered→hZ
open PySem.Builtin.SmallTypes renaming nextOf→c_
open PySem.Builtin.Str renaming strSliceIndices→de,occurrences→ic
open PySem.Builtin.Slice renaming slicePlaces→dk,sliceAdjust→eU,sliceApplied→gN
open PySem.Builtin.Range renaming rangeSize→dH
open ForInStep renaming yield→dN
open List.cons renaming injEq→ez
open PySem.WalksT renaming enumerateD→fx
open Classical renaming propDecidable→fz
open PySem.Builtin.Dict_items renaming pairFromOwner→fH,newIterator→fO,dictOf→gh
open List.Pairwise renaming imp→fY
open Prod.mk renaming injEq→gj
open PySem.Shared renaming TypeIs→gu
open PySem.StrLaws renaming glued_eq_join→gF
open PySem.Builtin.List renaming listExtendWith→gO
open PySem.Around renaming under→gP
open PySem in
abbrev q_b:Str:="_law_box_here"
open PySem in
abbrev q_w:Str:="_law_world_here"
open PySem in
abbrev q_p:Str:="_law_places_here"
open PySem in
abbrev q_s:Str:="_law_strange"
open PySem in
abbrev q_n:Str:="_law_name_here"
open PySem in
abbrev q_t:Str:="_law_table_here"
namespace RG
open PySem PySem.W PyProof.Rows
noncomputable def runG(thr ok:gV->Bool)(st:SharedT->gV->Option (SharedT×gV))(n:Nat):SharedT->gV->Option SharedT:=@Nat.rec (λ_=>SharedT->gV->Option SharedT) (λ_ _=>none) (λ_ ih s t=>@Bool.rec (λ_=>Option SharedT) (@Bool.rec (λ_=>Option SharedT) none (@Option.rec (SharedT×gV) (λ_=>Option SharedT) none (λx=>@Prod.rec SharedT gV (λ_=>Option SharedT) (λs' t'=>ih s' t') x) (st s t)) (ok t)) (some s) (thr t)) n
theorem Ng{tb:String->Option bL}{p:Program}{w:World}{m:Nat}{ann:Option Value}:∀{n:Nat}{s r:SharedT}{t:gV},runG through (stepOk m ann) (stepT (denote tb) p w) n s t=some r->topRun tb p w m ann n s.abs t=some r.abs
|0,_,_,_,h=>by cases h
|n+1,s,r,t,h=>by
  have h':@Bool.rec (λ_=>Option SharedT) (@Bool.rec (λ_=>Option SharedT) none (@Option.rec (SharedT×gV) (λ_=>Option SharedT) none (λx=>@Prod.rec SharedT gV (λ_=>Option SharedT) (λs' t'=>runG through (stepOk m ann) (stepT (denote tb) p w) n s' t') x) (stepT (denote tb) p w s t)) (stepOk m ann t)) (some s) (through t)=some r:=h;unfold topRun;cases ht:through t with
 |true=>rw[ht]at h';cases h';rfl
 |false=>
   rw[ht]at h';cases ho:stepOk m ann t with
  |false=>rw[ho]at h';cases h'
  |true=>
    rw[ho]at h';cases hs:stepT (denote tb) p w s t with
   |none=>rw[hs]at h';cases h'
   |some x=>obtain⟨s',t'⟩:=x;rw[hs]at h';rw[stepT_spec hs];exact Ng (n:=n) h'
noncomputable def mkT(l:List Obj):BT:=(l.foldl (λ(x:BT×Nat)o=>(x.1.ins x.2 o,x.2+1)) (BT.nil,0)).1
noncomputable def T0(w:World)(os:bK):SharedT:=⟨mkT (boot_heap w.params).objs.toList,11,(boot_heap w.params).life,⟨[]⟩,boot_drawn,boot_toks,os⟩
theorem Lm(w:World)(os:bK):(T0 w os).abs=⟨boot_heap w.params,⟨[]⟩,boot_drawn,boot_toks,os⟩:=by kernel_rfl
theorem sz(w:World):((boot_heap w.params).isNs a8&&((⟨[]⟩:Array GenState).size==0),(boot_heap w.params).objs.size,(boot_heap w.params).nsMap a8 "__annotations__")=(true,11,some (.ref 6)):=by kernel_rfl
noncomputable def go(p:Program)(n:Nat)(w:World)(os:bK):Option SharedT:=runG through (PySem.W.Fast.tw6613529449190102663 11 (some (.ref 6))) (PySem.W.Fast.tw10156331382660048174 (PySem.W.Fast.tw11892475500146522536 PySem.W.Fast.tw14364793385576792824) p w) n (T0 w os) (topStub p)
theorem go_eq(p:Program)(n:Nat)(w:World)(os:bK):go p n w os=runG through (stepOk 11 (some (.ref 6))) (stepT (denote treeTable) p w) n (T0 w os) (topStub p):=by unfold go;rw[PySem.W.Fast.te6613529449190102663,PySem.W.Fast.te10156331382660048174,PySem.W.Fast.te11892475500146522536,PySem.W.Fast.te14364793385576792824]
noncomputable def chk(p:Program)(w:World)(s:ah):Bool:=staticsOk (importedModules p.main.body) (boot_heap w.params) s.heap&&namesBound p s.heap&&gensDone s&&laidKept (boot_heap w.params) s.heap
noncomputable def lk(p:Program){α:Type}(F:ah->α)(n:Nat)(w:World)(os:bK):Option α:=@Option.rec SharedT (λ_=>Option α) none (λr=>some (F r.abs)) (go p n w os)
noncomputable abbrev lkS(p q:Program)(loose:List Str)(Xt:ah->Bool)(n:Nat)(w:World)(os:bK):=lk p (λs=>(chk p w s,aJ q loose (aI p.main.body) Xt true s)) n w os
theorem left{p q:Program}{loose:List Str}{Xt:ah->Bool}{α:Type}{Yf:ah->α}{Ya:World->α}{N:Nat}(row:String)(e1:opening p=plainProg p.main.scope.names)(e2:Nat.ble 600 N=true)(e3:∀s:ah,fenceModules? p s=some s)(hf:∀(w:World)(os:bK),lkS p q loose Xt N (w.withFollow row false) os=some (true,openGood q loose))(ht:∀(w:World)(os:bK),lkS p q loose Xt N (w.withFollow row true) os=some (true,openGood q loose))(kf:∀(w:World)(os:bK),lk p Yf N (w.withFollow row false) os=some (Ya (w.withFollow row false)))(kt:∀(w:World)(os:bK),lk p Yf N (w.withFollow row true) os=some (Ya (w.withFollow row true))):LeftO p q loose Xt Yf Ya N:=λw=>by
 have hw:∀os:bK,lkS p q loose Xt N w os=some (true,openGood q loose):=byRow2 row (P:=λw=>∀os:bK,lkS p q loose Xt N w os=some (true,openGood q loose)) hf ht w;have kw:∀os:bK,lk p Yf N w os=some (Ya w):=byRow2 row (P:=λw=>∀os:bK,lk p Yf N w os=some (Ya w)) kf kt w;obtain⟨⟨h,gs,d,k,os⟩,e,e'⟩:=cu.mp (boot_open e1 e2 e3 w);obtain⟨rfl,rfl,rfl,rfl⟩:h=boot_heap w.params/\gs=⟨[]⟩/\d=boot_drawn/\k=boot_toks:=by simpa using e'
 obtain⟨z1,z2,z3⟩:_/\_/\_:=by simpa only[gj]using sz w
 have hl:=hw os;have kl:=kw os;unfold lkS lk at hl;unfold lk at kl;rw[<-PySem.W.Fast.te4187177175401517315,<-PySem.W.Fast.te5923862056798008813]at hl;cases hg:go p N w os with
|none=>rw[hg]at hl;cases hl
|some r=>
  rw[hg]at hl kl;have hl':(chk p w r.abs,openSeen q loose (importedModules p.main.body) Xt true r.abs)=(true,openGood q loose):=aB hl;have kl':Yf r.abs=Ya w:=aB kl;obtain⟨l1,l2⟩:=Prod.mk.inj hl';rw[go_eq]at hg;have hr:=Ng hg;rw[Lm]at hr;have t:topFrom treeTable p w N ⟨boot_heap w.params,⟨[]⟩,boot_drawn,boot_toks,os⟩=some r.abs:=by
   unfold topFrom;dsimp only;rw[z1,z2,z3,hr];show(match chk p w r.abs with|true=>some r.abs|false=>none)=_
   rw[l1]
  unfold openEnds;rw[e];show(topFrom treeTable p w N _).map _=_;rw[t];exact congrArg some (Prod.ext l2 kl')
end RG
set_option Elab.async false
set_option linter.all false
set_option maxRecDepth 100000
set_option maxHeartbeats 4000000
namespace RG
open PySem PySem.W PyProof.Rows
noncomputable def tp(i:Nat):Stmt:=ab.main.body.getD i (.Pass ⟨0,0,0,0⟩)
noncomputable def QV:Program:={ab with main:={ab.main with body:=[tp 0,tp 2,tp 3,tp 4,tp 5,tp 6,tp 7,tp 8,tp 10,tp 11,tp 12,tp 13,tp 14,tp 15,tp 16,tp 17,tp 18,tp 19,tp 21,tp 23,tp 24,tp 25,tp 26,tp 27,tp 28,tp 29,tp 30,tp 31,tp 33,tp 34,tp 35,tp 37,tp 38,tp 39,tp 40,tp 41,tp 42,tp 43,tp 44,tp 45,tp 46,tp 47,tp 48,tp 49,tp 50,tp 51,tp 52,tp 54,tp 55,tp 56,tp 57,tp 58,tp 59,tp 60,tp 61,tp 62,tp 63,tp 64,tp 65,tp 66,tp 67,tp 68,tp 69]}}
noncomputable abbrev LO:List Str:=["MOST_ROWS","ROW_SIZES"]
noncomputable abbrev XT:ah->Bool:=λs=>xlAt QV [] s&&recOk (RowW.records (OpenRow.toRowW (bH.row))) s
noncomputable def p1{α β:Type}(x:α×β):α:=@Prod.rec α β (λ_=>α) (λa _=>a) x
noncomputable def p2{α β:Type}(x:α×β):β:=@Prod.rec α β (λ_=>β) (λ_ b=>b) x
theorem u5(w:World)(os:bK):lk ab (λs=>p1 (p2 (p2 (p2 (p2 (p2 (aJ QV LO (aI ab.main.body) XT true s))))))) 12000 (w.withFollow "special-get-raises" false) os=some ((openGood QV LO).2.2.2.2.2.1):=by kernel_rfl
theorem u2(w:World)(os:bK):lk ab (λs=>p1 (p2 (p2 (aJ QV LO (aI ab.main.body) XT true s)))) 12000 (w.withFollow "special-get-raises" false) os=some ((openGood QV LO).2.2.1):=by kernel_rfl
theorem u0(w:World)(os:bK):lk ab (λs=>p1 (aJ QV LO (aI ab.main.body) XT true s)) 12000 (w.withFollow "special-get-raises" false) os=some ((openGood QV LO).1):=by kernel_rfl
theorem u3(w:World)(os:bK):lk ab (λs=>p1 (p2 (p2 (p2 (aJ QV LO (aI ab.main.body) XT true s))))) 12000 (w.withFollow "special-get-raises" false) os=some ((openGood QV LO).2.2.2.1):=by kernel_rfl
theorem u7(w:World)(os:bK):lk ab (λs=>p1 (p2 (p2 (p2 (p2 (p2 (p2 (p2 (aJ QV LO (aI ab.main.body) XT true s))))))))) 12000 (w.withFollow "special-get-raises" false) os=some ((openGood QV LO).2.2.2.2.2.2.2.1):=by kernel_rfl
theorem uA(w:World)(os:bK):lk ab (λs=>(p1 (p2 (p2 (p2 (p2 (aJ QV LO (aI ab.main.body) XT true s))))),p1 (p2 (p2 (p2 (p2 (p2 (p2 (aJ QV LO (aI ab.main.body) XT true s))))))),p2 (p2 (p2 (p2 (p2 (p2 (p2 (p2 (aJ QV LO (aI ab.main.body) XT true s)))))))))) 12000 (w.withFollow "special-get-raises" false) os=some (((openGood QV LO).2.2.2.2.1,(openGood QV LO).2.2.2.2.2.2.1,(openGood QV LO).2.2.2.2.2.2.2.2)):=by kernel_rfl
theorem uB(w:World)(os:bK):lk ab (λs=>(chk ab (w.withFollow "special-get-raises" false) s,p1 (p2 (aJ QV LO (aI ab.main.body) XT true s)))) 12000 (w.withFollow "special-get-raises" false) os=some ((true,(openGood QV LO).2.1)):=by kernel_rfl
theorem gE(w:World)(os:bK):go ab 12000 (w.withFollow "special-get-raises" true) os=go ab 12000 (w.withFollow "special-get-raises" false) os:=by kernel_rfl
theorem nine{A B C D E F G H I:Type}(x y:A×B×C×D×E×F×G×H×I)(h0:p1 x=y.1)(h1:p1 (p2 x)=y.2.1)(h2:p1 (p2 (p2 x))=y.2.2.1)(h3:p1 (p2 (p2 (p2 x)))=y.2.2.2.1)(h4:p1 (p2 (p2 (p2 (p2 x))))=y.2.2.2.2.1)(h5:p1 (p2 (p2 (p2 (p2 (p2 x)))))=y.2.2.2.2.2.1)(h6:p1 (p2 (p2 (p2 (p2 (p2 (p2 x))))))=y.2.2.2.2.2.2.1)(h7:p1 (p2 (p2 (p2 (p2 (p2 (p2 (p2 x)))))))=y.2.2.2.2.2.2.2.1)(h8:p2 (p2 (p2 (p2 (p2 (p2 (p2 (p2 x)))))))=y.2.2.2.2.2.2.2.2):x=y:=by obtain⟨a,b,c,d,e,f,g,h,i⟩:=x;obtain⟨a',b',c',d',e',f',g',h',i'⟩:=y;obtain rfl:a=a':=h0;obtain rfl:b=b':=h1;obtain rfl:c=c':=h2;obtain rfl:d=d':=h3;obtain rfl:e=e':=h4;obtain rfl:f=f':=h5;obtain rfl:g=g':=h6;obtain rfl:h=h':=h7;obtain rfl:i=i':=h8;rfl
section
variable {p:Program}{n:Nat}{w:World}{os:bK}{α β:Type}
theorem Kt{F:ah->α}{G:ah->β}{x:α}{y:β}(h1:lk p F n w os=some x)(h2:lk p G n w os=some y):lk p (λs=>(F s,G s)) n w os=some (x,y):=by
 unfold lk at h1 h2 ⊢;cases hg:go p n w os with
|none=>rw[hg]at h1;cases h1
|some r=>rw[hg]at h1 h2;exact congrArg some (congr (congrArg Prod.mk (aB h1)) (aB h2))
theorem PB{F:ah->α}{G:ah->β}{x:α}{y:β}(h:lk p (λs=>(F s,G s)) n w os=some (x,y)):lk p F n w os=some x:=by
 unfold lk at h ⊢;cases hg:go p n w os with
|none=>rw[hg]at h;cases h
|some r=>rw[hg]at h;exact congrArg some (Prod.mk.inj (aB h)).1
theorem ME{F:ah->α}{G:ah->β}{x:α}{y:β}(h:lk p (λs=>(F s,G s)) n w os=some (x,y)):lk p G n w os=some y:=by
 unfold lk at h ⊢;cases hg:go p n w os with
|none=>rw[hg]at h;cases h
|some r=>rw[hg]at h;exact congrArg some (Prod.mk.inj (aB h)).2
theorem Ku{A B C D E F G H I:Type}{X:ah->A×B×C×D×E×F×G×H×I}{y:A×B×C×D×E×F×G×H×I}(h0:lk p (λs=>p1 (X s)) n w os=some y.1)(h1:lk p (λs=>p1 (p2 (X s))) n w os=some y.2.1)(h2:lk p (λs=>p1 (p2 (p2 (X s)))) n w os=some y.2.2.1)(h3:lk p (λs=>p1 (p2 (p2 (p2 (X s))))) n w os=some y.2.2.2.1)(h4:lk p (λs=>p1 (p2 (p2 (p2 (p2 (X s)))))) n w os=some y.2.2.2.2.1)(h5:lk p (λs=>p1 (p2 (p2 (p2 (p2 (p2 (X s))))))) n w os=some y.2.2.2.2.2.1)(h6:lk p (λs=>p1 (p2 (p2 (p2 (p2 (p2 (p2 (X s)))))))) n w os=some y.2.2.2.2.2.2.1)(h7:lk p (λs=>p1 (p2 (p2 (p2 (p2 (p2 (p2 (p2 (X s))))))))) n w os=some y.2.2.2.2.2.2.2.1)(h8:lk p (λs=>p2 (p2 (p2 (p2 (p2 (p2 (p2 (p2 (X s))))))))) n w os=some y.2.2.2.2.2.2.2.2):lk p X n w os=some y:=by
 unfold lk at *;cases hg:go p n w os with
|none=>rw[hg]at h0;cases h0
|some r=>rw[hg]at h0 h1 h2 h3 h4 h5 h6 h7 h8;exact congrArg some (nine _ _ (aB h0) (aB h1) (aB h2) (aB h3) (aB h4) (aB h5) (aB h6) (aB h7) (aB h8))
end
theorem lg(w:World)(os:bK):lk ab (λs=>aJ QV LO (aI ab.main.body) XT true s) 12000 (w.withFollow "special-get-raises" false) os=some (openGood QV LO):=Ku (u0 w os) (ME (uB w os)) (u2 w os) (u3 w os) (PB (uA w os)) (u5 w os) (PB (ME (uA w os))) (u7 w os) (ME (ME (uA w os)))
theorem lf(w:World)(os:bK):lkS ab QV LO XT 12000 (w.withFollow "special-get-raises" false) os=some (true,openGood QV LO):=Kt (PB (uB w os)) (lg w os)
theorem En{p:Program}{n:Nat}{w w':World}{os:bK}{α:Type}{F:ah->α}(h:go p n w os=go p n w' os):lk p F n w os=lk p F n w' os:=by unfold lk;rw[h]
theorem lkE{α:Type}(F:ah->α)(w:World)(os:bK):lk ab F 12000 (w.withFollow "special-get-raises" true) os=lk ab F 12000 (w.withFollow "special-get-raises" false) os:=En (gE w os)
theorem chkE(w:World):chk ab (w.withFollow "special-get-raises" true)=chk ab (w.withFollow "special-get-raises" false):=rfl
theorem lt(w:World)(os:bK):lkS ab QV LO XT 12000 (w.withFollow "special-get-raises" true) os=some (true,openGood QV LO):=by have h:=lf w os;unfold lkS at h ⊢;rw[lkE,chkE];exact h
theorem Eo{α:Type}{Yf:ah->α}{Ya:World->α}(e1:opening ab=plainProg ab.main.scope.names)(e3:∀s:ah,fenceModules? ab s=some s)(kf:∀(w:World)(os:bK),lk ab Yf 12000 (w.withFollow "special-get-raises" false) os=some (Ya (w.withFollow "special-get-raises" false)))(hv:∀w:World,Ya (w.withFollow "special-get-raises" true)=Ya (w.withFollow "special-get-raises" false)):LeftO ab QV LO XT Yf Ya 12000:=left "special-get-raises" e1 (by decide) e3 lf lt kf λw os=>by rw[lkE,kf w os,hv w]
end RG
section
open PySem PySem.W PyProof.Rows
set_option hygiene false in
local macro_rules
|`(tactic| o_head $H)=>`(tactic| (have HH:=$H;exact z.elim))
set_option maxRecDepth 100000 in
set_option maxHeartbeats 0 in
theorem RG.hk(z:False):bH.Holds:=by w_on;o_law;k_head
end
namespace RG
open PySem PySem.W PyProof.Rows
noncomputable def AS:List Addr:=[2,3,15,17,18,20,21,22,29,30,31,32,35,42,44,45,47,48,49,50,51,54,61,63,64,66,67,68,69,70,73,80,82,83,85,86,87,88,89,92,99,101,102,104,105,106,107,108,111,118,120,121,123,124,125,126,127,130,137,139,140,142,143,144,145,146,149,151,152,154,155,156,158,159,161,162,163,166,167,168,170,171,173,174,175,177,178,180,181,182,184,185,187,188,196,198,199,201,202,203,205,206,208,209,210,212,213,215,216,217,219,220,222,223,224,226,227,229,230,231,233,234,236,237,238,239,240,241,242,245,252,254,255,257,258,259,260,261,264,271,273,274,276,277,278,279,280,283,290,292,293,295,296,297,298,299,302,309,311,312,314,315,316,317,318,321,323,324,326,327,328,330,331,333,334,335,337,338,340,341,342,344,345,347,348,349,351,352,354,355,356,358,359,361,362,363,365,366,368,369,370,371,372,374,375,377,378,379,381,382,384,385,386,388,389,391,392,393,395,396,398,399,400,402,403,405,406,407,409,410,412,413,414,416,417,419,420,421,423,424,426,427,428,430,431,433,434,442,444,445,447,448,449,451,452,454,455,456,458,459,461,462,463,465,466,468,469,470,472,473,475,476,477,479,480,482,483,484,486,487,489,490,491,493,494,496,497,498,500,501,503,504,505,507,508,510,511,512,514,515,517,518,519,521,522,524,525,526,528,529,531,532,533,535,536,538,539,540,542,543,545,546,547,549,550,552,553,554,557,558,559,561,562,564,565,566,568,569,571,572,573,575,576,578,579,580,582,583,585,586,587,589,590,592,593,594,596,597,599,600,601,603,604,606,607,608,610,611,613,614,615,616,617,618,619,622,624,625,627,628,629,631,632,634,635,636,638,639,641,642,643,646,647,648,651,652,653,656,657,658,660,661,663,664,665,668,669,670,672,673,675,676,677,679,680,682,683,684,686,687,689,690,691,694,695,696,699,700,701,703,704,706,707,708,711,712,713,716,717]
theorem eK(P:Params):AS=(RG.hk.heap_39 P).map (·.1):=by kernel_rfl
theorem kfE(w:World)(os:bK):lk ab (λs=>AS.map s.heap.get?) 12000 (w.withFollow "special-get-raises" false) os=some ((RG.hk.heap_39 (w.withFollow "special-get-raises" false).params).map λp=>some p.2):=by kernel_rfl
end RG
namespace L2
open PySem PySem.Spec PyProof.Rows
noncomputable abbrev Key:=Sum Int Str
noncomputable def U7:Key->Value->Bool
|.inl k,v=>Value.isInt k v
|.inr x,v=>Value.isStrOf x v
noncomputable def keyH(w:World):Key->Int
|.inl k=>hashInt k
|.inr x=>hashStr w x
theorem ZO:∀{k:Key}{v:Value},U7 k v=true->(∃i t,k=gx i/\v=Value.int i t)\/(∃x t,k=b9 x/\v=Value.str x t)
|.inl i,v,h=>by obtain⟨t,e⟩:=Value.isInt_shape (k:=i) (v:=v) h;exact .inl ⟨i,t,rfl,e⟩
|.inr x,v,h=>by obtain⟨t,e⟩:=Value.isStrOf_shape (x:=x) (v:=v) h;exact .inr ⟨x,t,rfl,e⟩
theorem RD(i:Int)(t:Tok):U7 (.inl i) (.int i t)=true:=by simp[U7,Value.isInt]
theorem RC(x:Str)(t:Tok):U7 (.inr x) (.str x t)=true:=by simp[U7,Value.isStrOf]
theorem Dt(a b:Int):decide ((gx a:Key)=gx b)=(a==b):=by
 by_cases e:a=b
 ·subst e;simp
 ·have h:¬(gx a:Key)=gx b:=λq=>e (Sum.inl.inj q);rw[decide_eq_false h];exact(beq_eq_false_iff_ne.mpr e).symm
theorem Dq(a b:Str):decide ((b9 a:Key)=b9 b)=decide (a=b):=by
 by_cases e:a=b
 ·subst e;simp
 ·have h:¬(b9 a:Key)=b9 b:=λq=>e (Sum.inr.inj q);rw[decide_eq_false h,decide_eq_false e]
theorem Ds(a:Int)(b:Str):decide ((gx a:Key)=b9 b)=false:=decide_eq_false (λq=>nomatch q)
theorem Dr(a:Str)(b:Int):decide ((b9 a:Key)=gx b)=false:=decide_eq_false (λq=>nomatch q)
noncomputable def Zv(prog:Program)(w:World):PySem.KeyKind prog w Key where
 is:=U7
 hash:=keyH w
 inj:=λv a b ha hb=>by
  rcases ZO ha with⟨i,t,rfl,rfl⟩|⟨x,t,rfl,rfl⟩
  ·rcases ZO hb with⟨j,u,rfl,e⟩|⟨y,u,rfl,e⟩
   ·injection e with e1 _;rw[e1]
   ·exact nomatch e
  ·rcases ZO hb with⟨j,u,rfl,e⟩|⟨y,u,rfl,e⟩
   ·exact nomatch e
   ·injection e with e1 _;rw[e1]
 byValue:=λk v h=>by rcases ZO h with⟨i,t,rfl,rfl⟩|⟨x,t,rfl,rfl⟩<;>rfl
 pyHash:=λhv h=>by
  rcases ZO hv with⟨i,t,rfl,rfl⟩|⟨x,t,rfl,rfl⟩
  ·exact wpAny_pyHash_int h
  ·exact wpAny_pyHash_str h
 eqBool:=λhu hv h=>by
  rcases ZO hu with⟨i,t,rfl,rfl⟩|⟨x,t,rfl,rfl⟩
  ·rcases ZO hv with⟨j,u,rfl,rfl⟩|⟨y,u,rfl,rfl⟩
   ·rw[Dt]at h;exact wpAny_eqBool_int h
   ·rw[Ds]at h;exact SeqAt.EqAt.int_str i t y u _ _ _ _ h
  ·rcases ZO hv with⟨j,u,rfl,rfl⟩|⟨y,u,rfl,rfl⟩
   ·rw[Dr]at h;exact SeqAt.EqAt.str_int x t j u _ _ _ _ h
   ·rw[Dq]at h;exact wpAny_eqBool_str h
 «strs»:=λk x t v h=>by
  rcases ZO h with⟨i,u,rfl,e⟩|⟨y,u,rfl,e⟩
  ·exact nomatch e
  ·injection e with e1 _
   subst e1
   cases v<;>rfl
theorem NC(prog:Program)(w:World)(i:Int)(t:Tok):(Zv prog w).is (.inl i) (.int i t)=true:=RD i t
theorem NB(prog:Program)(w:World)(x:Str)(t:Tok):(Zv prog w).is (.inr x) (.str x t)=true:=RC x t
open PySem PySem.Spec PyProof.Rows
inductive V where
|non|bl (b:Bool)|int (i:Int)|str (x:Str)|byt (b:Array UInt8)|flt (b:UInt64)|ref (a:Addr)|ty (n:String)
 deriving DecidableEq
noncomputable def RelV:V->Value->Prop
|.non,u=>u=Value.none
|.bl b,u=>u=Value.bool b
|.int i,u=>∃t,u=Value.int i t
|.str x,u=>∃t,u=Value.str x t
|.byt b,u=>∃t,u=Value.bytes b t
|.flt b,u=>∃t,u=Value.float b t
|.ref a,u=>u=Value.ref a
|.ty n,u=>u=Value.type n
noncomputable abbrev Vals:List V->List Value->Prop:=bS RelV
theorem Vals.length{xs:List V}{us:List Value}(r:Vals xs us):xs.length=us.length:=aR r
theorem Vals.get:∀{xs:List V}{us:List Value}{i:Nat}{x:V},Vals xs us->xs[i]?=some x->∃u,us[i]?=some u/\RelV x u
|_,_,_,_,.nil,e=>by simp at e
|_,_,0,_,.cons r _,e=>by simp at e;subst e;exact⟨_,rfl,r⟩
|_,_,i+1,x,.cons _ t,e=>by obtain⟨u,h1,h2⟩:=Vals.get (i:=i) (x:=x) t (by simpa using e);exact⟨u,by simpa using h1,h2⟩
theorem Vals.set{x:V}{u:Value}(r:RelV x u):∀{xs:List V}{us:List Value}(i:Nat),Vals xs us->Vals (xs.set i x) (us.set i u)
|_,_,_,.nil=>.nil
|_,_,0,.cons _ t=>.cons r t
|_,_,i+1,.cons q t=>.cons q (Vals.set r i t)
theorem Vals.append:∀{xs ys:List V}{us ws:List Value},Vals xs us->Vals ys ws->Vals (xs++ys) (us++ws)
|_,_,_,_,.nil,s=>s
|_,_,_,_,.cons r t,s=>.cons r (Vals.append t s)
theorem Vals.take:∀{xs:List V}{us:List Value}(n:Nat),Vals xs us->Vals (xs.take n) (us.take n)
|_,_,0,_=>.nil
|_,_,_+1,.nil=>.nil
|_,_,n+1,.cons r t=>.cons r (Vals.take n t)
theorem Vals.drop:∀{xs:List V}{us:List Value}(n:Nat),Vals xs us->Vals (xs.drop n) (us.drop n)
|_,_,0,r=>r
|_,_,_+1,.nil=>.nil
|_,_,n+1,.cons _ t=>Vals.drop n t
noncomputable def RelO:Option V->Option Value->Prop
|some v,some u=>RelV v u
|none,none=>True
|_,_=>False
noncomputable def KV{κ:Type}:List (κ×V)->List (κ×Value)->Prop:=bS λ(p:κ×V)(q:κ×Value)=>p.1=q.1/\RelV p.2 q.2
noncomputable def kV:Key->V
|.inl i=>.int i
|.inr x=>.str x
inductive HO where
|lst (xs:List V)
|tup (xs:List V)
|dK (kvs:List (Key×V))|dT (kvs:List (List Key×V))
|set (S:Int->Bool) (n:Nat)
|ins (C dx:Addr) (fs:List (Str×V))
|own (x:Addr)
|xd (fs:List (Str×V))
|met (f x:Addr)
|rng (lo hi:Int)
|frz (o:Obj) (u:HO)
|tbl (ps:Array Value)
|ext (φ:Heap->Prop)
noncomputable abbrev Hp:=Addr->Option HO
noncomputable def upd(H:Hp)(a:Addr)(o:HO):Hp:=λb=>if b=a then some o else H b
theorem Zd{H:Hp}{a:Addr}{o:HO}:upd H a o a=some o:=by unfold upd;rw[if_pos rfl]
theorem Zc{H:Hp}{a b:Addr}{o:HO}(h:b≠a):upd H a o b=H b:=by unfold upd;rw[if_neg h]
theorem WO{H:Hp}{a:Addr}{o u:HO}:upd (upd H a o) a u=upd H a u:=by funext b;unfold upd;split<;>rfl
theorem ne_of{H:Hp}{a b:Addr}{o u:HO}(h:H a=some o)(h':H b=some u)(d:o≠u):a≠b:=by intro e;subst e;rw[h]at h';exact d (aB h')
theorem ne_of_none{H:Hp}{a b:Addr}{o:HO}(h:H a=some o)(h':H b=none):a≠b:=by intro e;subst e;rw[h]at h';cases h'
section
variable (P:Program)(w:World)
noncomputable def ZY(H:Hp)(h:Heap)(a:Addr):HO->Prop
|.lst xs=>xs.length<=sizeLine/\∃(its:List Value)(n:Nat),Vals xs its/\h.get? a=some {cls:=.type "list",data:=.seq its.toArray n}
|.tup xs=>xs.length<=sizeLine/\∃its:List Value,Vals xs its/\IsTup h a its.toArray
|.dK kvs=>kvs.length<=sizeLine/\(a==bu)=false/\∃vs,KV kvs vs/\h.DictOf (Zv P w) a vs
|.dT kvs=>kvs.length<=sizeLine/\(a==bu)=false/\∃xs:List (List Key×Addr×Value),bS (λ(p:List Key×V)(q:List Key×Addr×Value)=>p.1=q.1/\H q.2.1=some (.tup (p.1.map kV))/\RelV p.2 q.2.2) kvs xs /\∃o es ep,h.get? a=some o/\o.ExactDict/\o.data=.dict es ep/\es.toList=xs.map (ie (bG (Zv P w)))/\(xs.map (·.1)).Nodup
|.set S n=>h.SetOf (intKind P w) a S n
|.ins C dx fs=>H dx=some (.own a)/\fs.length<=1000/\dx≠a/\h.get? a=some (cD C dx) /\∃mA,h.Ns1 dx mA/\(∀f,RelO (fs.lookup f) (mA f))/\PySem.Within mA (fs.map (·.1))
|.own _=>∃o,h.get? a=some o
|.xd fs=>∃mA,h.Ns1 a mA/\∀f,RelO (fs.lookup f) (mA f)
|.rng lo hi=>∃t u v,h.get? a=some {cls:=.type "range",data:=.fields #[.int lo t,.int hi u,.int 1 v]}
|.frz o u=>h.get? a=some o/\ZY H h a u
|.tbl ps=>h.get? a=some {cls:=.none,data:=.fields ps}
|.met f x=>h.get? a=some (gI (.ref f) (.ref x))
|.ext φ=>φ h/\(∃o,h.get? a=some o)/\∀h1 h2:Heap,φ h1->(∀o,h1.get? a=some o->h2.get? a=some o)->φ h2
def HOk(H:Hp)(h:Heap):Prop:=∀a o,H a=some o->ZY P w H h a o
end
section
variable {P:Program}{w:World}{H H':Hp}{h h':Heap}{a:Addr}{o:HO}
theorem ZY.lt(x:ZY P w H h a o):a<h.objs.size:=by
 cases o with
|lst xs=>obtain⟨_,_,_,_,e⟩:=x;exact Heap.lt_size e
|tup xs=>obtain⟨_,_,_,p⟩:=x;exact p.lt
|dK kvs=>obtain⟨_,_,_,_,o,_,_,e,_⟩:=x;exact Heap.lt_size e
|dT kvs=>obtain⟨_,_,_,_,o,_,_,e,_⟩:=x;exact Heap.lt_size e
|set S n=>obtain⟨o,_,_,_,e,_⟩:=x;exact Heap.lt_size e
|ins C dx fs=>obtain⟨_,_,_,e,_⟩:=x;exact Heap.lt_size e
|own y=>obtain⟨_,e⟩:=x;exact Heap.lt_size e
|xd fs=>obtain⟨_,⟨_,_,_,e,_⟩,_⟩:=x;exact Heap.lt_size e
|rng lo hi=>obtain⟨_,_,_,e⟩:=x;exact Heap.lt_size e
|frz ob u=>obtain⟨e,_⟩:=x;exact Heap.lt_size e
|tbl ps=>exact Heap.lt_size (show h.get? a=some _ from x)
|met f y=>exact Heap.lt_size (show h.get? a=some _ from x)
|ext φ=>obtain⟨_,⟨_,e⟩,_⟩:=x;exact Heap.lt_size e
theorem Paired.mapP{α β:Type}{F G:α->β->Prop}:∀{l₁:List α}{l₂:List β},bS F l₁ l₂->(∀a b,F a b->G a b)->bS G l₁ l₂
|_,_,.nil,_=>.nil
|_,_,.cons r t,f=>.cons (f _ _ r) (Paired.mapP t f)
theorem ZY.stay(x:ZY P w H h a o)(k:∀b u,(b=a\/H b=some (.own a))->h.get? b=some u->h'.get? b=some u)(ho:∀b,H b=some (.own a)->H' b=some (.own a))(ht:∀b xs,H b=some (.tup xs)->H' b=some (.tup xs)):ZY P w H' h' a o:=by
 induction o with
|lst xs=>obtain⟨z,its,n,r,e⟩:=x;exact⟨z,its,n,r,k _ _ (.inl rfl) e⟩
|tup xs=>obtain⟨z,its,r,ob,e,c⟩:=x;exact⟨z,its,r,ob,k _ _ (.inl rfl) e,c⟩
|dK kvs=>obtain⟨z,y,vs,r,ob,es,ep,e,c⟩:=x;exact⟨z,y,vs,r,ob,es,ep,k _ _ (.inl rfl) e,c⟩
|dT kvs=>obtain⟨z,y,xs,r,ob,es,ep,e,c⟩:=x;exact⟨z,y,xs,Paired.mapP r λp q z=>⟨z.1,ht _ _ z.2.1,z.2.2⟩,ob,es,ep,k _ _ (.inl rfl) e,c⟩
|set S n=>obtain⟨ob,es,ep,t,e,c⟩:=x;exact⟨ob,es,ep,t,k _ _ (.inl rfl) e,c⟩
|ins C dx fs=>obtain⟨d,z,ne,e,mA,⟨od,es,ep,e2,c⟩,r⟩:=x;exact⟨ho _ d,z,ne,k _ _ (.inl rfl) e,mA,⟨od,es,ep,k _ _ (.inr d) e2,c⟩,r⟩
|own y=>obtain⟨ob,e⟩:=x;exact⟨ob,k _ _ (.inl rfl) e⟩
|xd fs=>obtain⟨mA,⟨od,es,ep,e,c⟩,r⟩:=x;exact⟨mA,⟨od,es,ep,k _ _ (.inl rfl) e,c⟩,r⟩
|rng lo hi=>obtain⟨t,u,v,e⟩:=x;exact⟨t,u,v,k _ _ (.inl rfl) e⟩
|frz ob u ih=>obtain⟨e,q⟩:=x;exact⟨k _ _ (.inl rfl) e,ih q⟩
|tbl ps=>have e:h.get? a=some {cls:=.none,data:=.fields ps}:=x;show h'.get? a=some {cls:=.none,data:=.fields ps};exact k a _ (.inl rfl) e
|met f y=>have e:h.get? a=some (gI (.ref f) (.ref y)):=x;show h'.get? a=some (gI (.ref f) (.ref y));exact k a _ (.inl rfl) e
|ext φ=>obtain⟨p,⟨o,e⟩,st⟩:=x;exact⟨st _ _ p λo q=>k _ _ (.inl rfl) q,⟨o,k _ _ (.inl rfl) e⟩,st⟩
theorem HOk.lt(x:HOk P w H h)(e:H a=some o):a<h.objs.size:=(x a o e).lt
theorem HOk.fresh(x:HOk P w H h)(e:h.objs.size<=a):H a=none:=by
 cases q:H a with
|none=>rfl
|some u=>exact absurd (Nat.lt_of_lt_of_le (x.lt q) e) (Nat.lt_irrefl _)
theorem HOk.kept(x:HOk P w H h)(k:∀b u,h.get? b=some u->h'.get? b=some u):HOk P w H h':=λa o e=>(x a o e).stay (λb u _ q=>k b u q) (λ_ q=>q) λ_ _ q=>q
theorem HOk.laid(x:HOk P w H h)(k:∀b u,h.get? b=some u->h'.get? b=some u)(hp:h.objs.size<=a)(new:ZY P w (upd H a o) h' a o):HOk P w (upd H a o) h':=λb u e=>by
 have hn:=x.fresh hp;by_cases hb:b=a
 ·subst hb;rw[Zd]at e;cases e;exact new
 ·rw[Zc hb]at e;exact(x b u e).stay (λc v _ q=>k c v q) (λc q=>by rw[Zc (ne_of_none q hn)];exact q) λc xs q=>by rw[Zc (ne_of_none q hn)];exact q
end
def Rd(H:Hp)(a:Addr)(u:HO):Prop:=H a=some u\/∃o,H a=some (.frz o u)
theorem Rd.ok{P:Program}{w:World}{H:Hp}{h:Heap}{a:Addr}{u:HO}(r:Rd H a u)(x:HOk P w H h):ZY P w H h a u:=by
 rcases r with r|⟨o,r⟩
 ·exact x a u r
 ·obtain⟨_,q⟩:=x a _ r;exact q
noncomputable def Mut:Option HO->Prop
|some (.lst _)=>True
|some (.dK _)=>True
|some (.dT _)=>True
|some (.set _ _)=>True
|some (.ins _ _ _)=>True
|some (.ext _)=>True
|_=>False
section
variable {P:Program}{w:World}{H:Hp}{h h':Heap}{x e:Addr}{o':HO}
theorem HOk.write(ok:HOk P w H h)(mu:Mut (H x))(he:e=x\/H e=some (.own x))(k:∀b u,b≠e->h.get? b=some u->h'.get? b=some u)(heo:∃u,h'.get? e=some u)(new:ZY P w (upd H x o') h' x o'):HOk P w (upd H x o') h':=λb u q=>by
 have nown:∀c y,H c=some (.own y)->c≠x:=λc y r z=>by subst z;rw[r]at mu;exact mu
 have ntup:∀c xs,H c=some (.tup xs)->c≠x:=λc xs r z=>by subst z;rw[r]at mu;exact mu
 by_cases hb:b=x
 ·subst hb;rw[Zd]at q;cases q;exact new
 ·rw[Zc hb]at q;by_cases hbe:b=e
  ·have q':H b=some (.own x):=by
    rcases he with z|z
    ·exact absurd (hbe.trans z) hb
    ·rw[hbe];exact z
   rw[q]at q';cases q';obtain⟨v,hv⟩:=heo;exact⟨v,by rw[hbe];exact hv⟩
  ·refine(ok b u q).stay (λc v hc r=>k c v ?_ r) (λc r=>by rw[Zc (nown c b r)];exact r) λc xs r=>by rw[Zc (ntup c xs r)];exact r
   rcases hc with rfl|hc
   ·exact hbe
   ·rintro rfl;rcases he with z|z
    ·exact nown c b hc z
    ·rw[hc]at z;cases z;exact hb rfl
end
structure Un(fs ex:List Addr)(H H':Hp)(h h':Heap):Prop where
 keep:∀b o,h.get? b=some o->H b=none->b∉fs->b∉ex->h'.get? b=some o
 slot:∀b o,h.get? b=some o->H b=none->b∈fs->b∉ex->∃sl,h'.get? b=some {o with slots:=sl}
 free:∀b o,h.get? b=some o->H b=none->b∉ex->H' b=none
 there:∀b o,h.get? b=some o->b∉ex->∃o',h'.get? b=some o'
 tups:∀b xs,H b=some (.tup xs)->H' b=some (.tup xs)
 frzs:∀b o u,H b=some (.frz o u)->H' b=some (.frz o u)
 tbls:∀b ps,H b=some (.tbl ps)->∃more,H' b=some (.tbl (ps++more))
section
variable {fs fs' ex ex':List Addr}{H H1 H2:Hp}{h h1 h2 h':Heap}{a x e:Addr}{o:HO}
theorem Un.any(u:Un fs ex H H1 h h1){b:Addr}{ob:Obj}(q:h.get? b=some ob)(n:H b=none)(hx:b∉ex):∃sl,h1.get? b=some {ob with slots:=sl}:=by
 by_cases hb:b∈fs
 ·exact u.slot b ob q n hb hx
 ·exact⟨ob.slots,u.keep b ob q n hb hx⟩
theorem Un.kept(k:∀b u,h.get? b=some u->h'.get? b=some u):Un fs ex H H h h':=⟨λb ob q _ _ _=>k b ob q,λb ob q _ _ _=>⟨ob.slots,k b ob q⟩,λ_ _ _ n _=>n,λb ob q _=>⟨ob,k b ob q⟩,λ_ _ q=>q,λ_ _ _ q=>q,λ_ ps q=>⟨#[],by rw[q];simp⟩⟩
theorem Un.refl:Un fs ex H H h h:=Un.kept λ_ _ q=>q
theorem Un.laid(k:∀b u,h.get? b=some u->h'.get? b=some u)(hp:h.objs.size<=a)(hn:H a=none):Un fs ex H (upd H a o) h h' where
 keep:=λb u q _ _ _=>k b u q
 slot:=λb u q _ _ _=>⟨u.slots,k b u q⟩
 free:=λb u q n _=>by rw[Zc (Nat.ne_of_lt (Nat.lt_of_lt_of_le (Heap.lt_size q) hp))];exact n
 there:=λb u q _=>⟨u,k b u q⟩
 tups:=λb xs q=>by rw[Zc (ne_of_none q hn)];exact q
 frzs:=λb u xs q=>by rw[Zc (ne_of_none q hn)];exact q
 tbls:=λb ps q=>⟨#[],by rw[Zc (ne_of_none q hn),q];simp⟩
theorem Un.write(mu:Mut (H x))(he:e=x\/H e=some (.own x))(k:∀b u,b≠e->h.get? b=some u->h'.get? b=some u)(heo:∃u,h'.get? e=some u):Un fs ex H (upd H x o) h h':=by
 have hx:∀b,H b=none->b≠x:=λb n z=>by subst z;rw[n]at mu;exact mu
 have hb:∀b,H b=none->b≠e:=λb n z=>by
  subst z;rcases he with r|r
  ·exact hx b n r
  ·rw[n]at r;cases r
 have hm:∀b u,H b=some u->¬Mut (some u)->b≠x:=λb u q nm z=>by subst z;rw[q]at mu;exact nm mu
 refine⟨λb u q n _ _=>k b u (hb b n) q,λb u q n _ _=>⟨u.slots,k b u (hb b n) q⟩,λb u q n _=>by rw[Zc (hx b n)];exact n,λb u q _=>?_,
  λb xs q=>by rw[Zc (hm b _ q λz=>z)];exact q,λb u xs q=>by rw[Zc (hm b _ q λz=>z)];exact q,λb ps q=>⟨#[],by rw[Zc (hm b _ q λz=>z),q];simp⟩⟩;by_cases hbe:b=e
 ·subst hbe;exact heo
 ·exact⟨u,k b u hbe q⟩
end
noncomputable def trk(h:Heap)(H:Hp):List Addr:=(bh h.objs.size).filter λa=>(H a).isSome
noncomputable def hidT(h:Heap)(H:Hp):Heap:=PySem.W.hideAll h (trk h H)
theorem RJ(h:Heap)(H:Hp):(hidT h H).objs.size=h.objs.size:=PySem.W.hideAll_size _ _
theorem Wf{h:Heap}{H:Hp}{b:Addr}{o:Obj}(e:h.get? b=some o)(n:H b=none):(hidT h H).get? b=some o:=PySem.W.hideAll_get _ e λhm=>by have q:(H b).isSome=true:=(bP.mp hm).2;rw[n]at q;simp at q
theorem Ki{h:Heap}{H:Hp}{b:Addr}{o:Obj}(e:(hidT h H).get? b=some o):h.get? b=some o/\H b=none:=by
 have e':h.get? b=some o:=PySem.W.of_hideAll (trk h H) e;refine⟨e',?_⟩;cases q:H b with
|none=>rfl
|some x=>have hm:b∈trk h H:=bP.mpr ⟨cj.mpr (Heap.lt_size e'),by simp[q]⟩;have z:(hidT h H).get? b=none:=PySem.W.hideAll_none (trk h H) hm;rw[z]at e;cases e
noncomputable def KQ(g h:Heap)(L:Addr):List (Addr×Obj):=(bh h.objs.size).filterMap λa=>if a=L\/(g.get? a).isSome=true then none else(h.get? a).map λo=>(a,o)
noncomputable def rest(g h:Heap)(L d:Addr):List (Addr×Obj):=(KQ g h L).filter λp=>decide (p.1≠d)
open PySem PySem.Spec PyProof.Rows
structure Mod(K:ae)(mg:Str->Option Value)(base:Heap):Prop where
 kin:K.In base
 glob:base.Ns a8 mg
 blt:∃mb,base.Ns builtinsNs mb/\∀x:Str,x≠"__name__"->mb x=bt x
 nolimit:base.NoLimit
structure Cx where
 prog:Program
 w:World
 K:ae
 mg:Str->Option Value
 base:Heap
 A:br
 N:List Str
 s₀:ah
 H₀:Hp
 env:Env
 outer:List Env
 stack:List Env
 ex:List Addr
 fn:Str->Bool
 calm:Bool
 pn:List (Addr×Obj)
 xe:Value->ah->Prop
noncomputable def frs(l:List Env):List Addr:=l.filterMap (·.frame)
noncomputable abbrev Cx.fs(X:Cx):List Addr:=frs X.outer
def Vis(sc:Scope)(x:Str):Prop:=sc.names.lookup x=some .local\/sc.names.lookup x=some .cell\/sc.names.lookup x=some .free
def Loc(sc:Scope)(x:Str):Prop:=sc.names.lookup x=some .local\/sc.names.lookup x=some .cell
def Look(env:Env)(h:Heap)(m:Str->Option Value)(x:Str)(u:Value):Prop:=(env.kindOf x=some .local/\m x=some u)\/((env.kindOf x=some .cell\/env.kindOf x=some .free)/\∃c,env.cells.lookup x=some c/\h.IsCell c (some u))
structure Cx.Ok(X:Cx):Prop where
 mod:Mod X.K X.mg X.base
 kind:X.env.scope.kind=.function
 glob:X.env.globals=a8
 blt:X.env.builtins=builtinsNs
 above:X.s₀.heap.objs.size<=X.env.locals
 inj:∀x y c,X.env.cells.lookup x=some c->X.env.cells.lookup y=some c->x=y
 has:∀x,(X.env.kindOf x=some .cell\/X.env.kindOf x=some .free)->∃c,X.env.cells.lookup x=some c
 cab:∀x c,X.fn x=true->X.env.cells.lookup x=some c->X.s₀.heap.objs.size<=c
 hd:X.calm=true->X.A.handled=none
 frames:X.A.frames=some X.stack
 stk:X.stack=X.outer\/(X.stack=X.env::X.outer/\X.env.frame=some X.env.locals)
 exf:∀b∈X.ex,b≠X.env.locals/\∀x c,X.env.cells.lookup x=some c->c≠b
 bs:∀b o,X.base.get? b=some o->X.s₀.heap.get? b=some o/\X.H₀ b=none
 bsz:X.base.objs.size<=X.s₀.heap.objs.size
 noex:∀b o,X.base.get? b=some o->b∉X.ex
 exfs:∀b∈X.ex,b∉X.fs
 funs:X.s₀.heap.FunFrames X.base X.outer
 frf:∀b∈X.fs,X.H₀ b=none
structure Inv(X:Cx)(pins:List (Addr×Obj))(σ:List (Option V))(H:Hp)(s:ah):Prop where
 ok:X.Ok
 os:s.os=X.s₀.os
 bare:gq s.gens
 base:Un X.fs X.ex X.H₀ H X.s₀.heap s.heap
 loc:∃m,s.heap.Ns X.env.locals m/\∀(i:Nat)(x:Str)(v:V),X.N[i]?=some x->σ[i]?=some (some v)->Vis X.env.scope x->∃u,RelV v u/\Look X.env s.heap m x u
 cell:∀x c,X.env.cells.lookup x=some c->∃v,s.heap.IsCell c v
 free:H X.env.locals=none
 freeC:∀x c,X.env.cells.lookup x=some c->H c=none
 pin:∀p∈X.pn++pins,s.heap.get? p.1=some p.2/\H p.1=none/\p.1≠X.env.locals/\p.1∉X.fs/\∀v,p.2.data≠.cell v
 hok:HOk X.prog X.w H s.heap
 len:σ.length=X.N.length
section
variable {X:Cx}{pins:List (Addr×Obj)}{σ:List (Option V)}{H H':Hp}{s:ah}{h':Heap}
theorem Cx.Ok.nofr(ok:X.Ok){b:Addr}{o:Obj}(e:X.base.get? b=some o):b∉X.fs:=λhb=>by have:=(ok.funs.mem hb).1;rw[e]at this;cases this
theorem Inv.bs(I:Inv X pins σ H s):∀b o,X.base.get? b=some o->s.heap.get? b=some o/\H b=none:=λb o e=>⟨I.base.keep b o (I.ok.bs b o e).1 (I.ok.bs b o e).2 (I.ok.nofr e) (I.ok.noex b o e),I.base.free b o (I.ok.bs b o e).1 (I.ok.bs b o e).2 (I.ok.noex b o e)⟩
theorem Inv.bk(I:Inv X pins σ H s):∀b o,X.base.get? b=some o->s.heap.get? b=some o:=λb o e=>(I.bs b o e).1
theorem Inv.mod(I:Inv X pins σ H s):Mod X.K X.mg X.base:=I.ok.mod
theorem Inv.kIn(I:Inv X pins σ H s):X.K.In s.heap:=I.ok.mod.kin.keeps I.bk
theorem Inv.lt(I:Inv X pins σ H s):X.env.locals<s.heap.objs.size:=let ⟨_,hn,_⟩:=I.loc;hn.lt
theorem Inv.sz(I:Inv X pins σ H s):X.s₀.heap.objs.size<=s.heap.objs.size:=Nat.le_trans I.ok.above (Nat.le_of_lt I.lt)
theorem Inv.nofs(I:Inv X pins σ H s){a:Addr}(h:s.heap.objs.size<=a):a∉X.fs:=λhb=>by obtain⟨_,o,ho,_⟩:=I.ok.funs.mem hb;exact absurd (Nat.lt_of_lt_of_le (Heap.lt_size ho) (Nat.le_trans I.sz h)) (Nat.lt_irrefl _)
theorem Inv.cne(I:Inv X pins σ H s):∀x c,X.env.cells.lookup x=some c->c≠X.env.locals:=λx c e z=>by obtain⟨v,o,ho,hd⟩:=I.cell x c e;obtain⟨m,⟨o',es,ep,ho',hd',_⟩,_⟩:=I.loc;rw[z,ho']at ho;cases ho;rw[hd']at hd;cases hd
theorem Inv.funs(I:Inv X pins σ H s):s.heap.FunFrames X.base X.outer:=by
 have all:∀(l:List Env),(∀b∈frs l,b∈X.fs)->X.s₀.heap.FunFrames X.base l->s.heap.FunFrames X.base l:=by
  intro l;induction l with
 |nil=>intro _ _;trivial
 |cons env r ih=>intro hs hl;obtain⟨hk,⟨L,o,hf,hn,ho,hd⟩,hr⟩:=hl;have hL:L∈X.fs:=hs L (by unfold frs;rw[fj,hf];exact aA);obtain⟨sl,e⟩:=I.base.slot L o ho (I.ok.frf L hL) hL λz=>I.ok.exfs L z hL;exact⟨hk,⟨L,_,hf,hn,e,hd⟩,ih (λb hb=>hs b (by unfold frs;rw[fj,hf];exact aq _ hb)) hr⟩
 exact all X.outer (λ_ hb=>hb) I.ok.funs
theorem Inv.stack(I:Inv X pins σ H s):s.heap.FunFrames X.base X.stack:=by
 rcases I.ok.stk with e|⟨e,hf⟩
 ·rw[e];exact I.funs
 ·rw[e];obtain⟨m,hn,_⟩:=I.loc;refine .cons (by rw[I.ok.kind];decide) hf hn ?_ I.funs;exact Heap.get?_none_of_le (Nat.le_trans I.ok.bsz I.ok.above)
theorem Inv.stkSub(I:Inv X pins σ H s):∀b∈frs X.stack,b∈X.env.locals::X.fs:=λb hb=>by
 rcases I.ok.stk with e|⟨e,hf⟩
 ·rw[e]at hb;exact aq _ hb
 ·rw[e]at hb;unfold frs at hb;rw[fj,hf]at hb;exact hb
theorem Inv.stkFree(I:Inv X pins σ H s):∀b∈frs X.stack,H b=none:=λb hb=>by
 rcases ar.mp (I.stkSub b hb)with e|hb
 ·rw[e];exact I.free
 ·obtain⟨_,o,ho,_⟩:=I.ok.funs.mem hb;exact I.base.free b o ho (I.ok.frf b hb) λz=>I.ok.exfs b z hb
theorem Inv.step{g':Array GenState}{t':Nat}{d':Drawn}{ch:List Addr}(I:Inv X pins σ H s)(hch:∀b∈ch,(b∈X.ex\/X.s₀.heap.objs.size<=b)/\b≠X.env.locals/\(∀x c,X.env.cells.lookup x=some c->c≠b)/\∀p∈X.pn++pins,p.1≠b)(keep:∀b o,b≠X.env.locals->b∉X.fs->b∉ch->s.heap.get? b=some o->H b=none->h'.get? b=some o)(slot:∀b o,b≠X.env.locals->b∈X.fs->b∉ch->s.heap.get? b=some o->H b=none->∃sl,h'.get? b=some {o with slots:=sl})(free:∀b o,b∉ch->s.heap.get? b=some o->H b=none->H' b=none)(there:∀b o,b∉ch->s.heap.get? b=some o->∃o',h'.get? b=some o')(tups:∀b xs,H b=some (.tup xs)->H' b=some (.tup xs))(frzs:∀b o u,H b=some (.frz o u)->H' b=some (.frz o u))(tbls:∀b ps,H b=some (.tbl ps)->∃more,H' b=some (.tbl (ps++more)))(ns:∀m,s.heap.Ns X.env.locals m->h'.Ns X.env.locals m)(hok:HOk X.prog X.w H' h')(hg:gq g'):Inv X pins σ H' {s with heap:=h',gens:=g',drawn:=d',toks:=t'}:=by
 have neL:∀b o,X.s₀.heap.get? b=some o->b≠X.env.locals:=λb o e=>Nat.ne_of_lt (Nat.lt_of_lt_of_le (Heap.lt_size e) I.ok.above);have neC:∀b o,X.s₀.heap.get? b=some o->b∉X.ex->b∉ch:=λb o e hx hb=>by
  rcases(hch b hb).1 with z|z
  ·exact hx z
  ·exact absurd (Nat.lt_of_lt_of_le (Heap.lt_size e) z) (Nat.lt_irrefl _)
 have cellK:∀x c,X.env.cells.lookup x=some c->∀v,s.heap.IsCell c v->h'.IsCell c v:=λx c e v⟨o,ho,hd⟩=>by
  have nch:c∉ch:=λz=>(hch c z).2.2.1 x c e rfl;by_cases hc:c∈X.fs
  ·obtain⟨sl,q⟩:=slot c o (I.cne x c e) hc nch ho (I.freeC x c e);exact⟨_,q,hd⟩
  ·exact⟨o,keep c o (I.cne x c e) hc nch ho (I.freeC x c e),hd⟩
 refine⟨I.ok,I.os,hg,⟨λb o e n hb hx=>?_,λb o e n hb hx=>?_,λb o e n hx=>?_,λb o e hx=>?_,λb xs e=>tups b xs (I.base.tups b xs e),λb o xs e=>frzs b o xs (I.base.frzs b o xs e),λb ps e=>?_⟩,?_,λx c e=>?_,?_,λx c e=>?_,λp hp=>?_,hok,I.len⟩
 ·exact keep b o (neL b o e) hb (neC b o e hx) (I.base.keep b o e n hb hx) (I.base.free b o e n hx)
 ·obtain⟨sl,e1⟩:=I.base.slot b o e n hb hx;obtain⟨sl',e2⟩:=slot b _ (neL b o e) hb (neC b o e hx) e1 (I.base.free b o e n hx);exact⟨sl',e2⟩
 ·obtain⟨o',e1⟩:=I.base.there b o e hx;exact free b o' (neC b o e hx) e1 (I.base.free b o e n hx)
 ·obtain⟨o',e1⟩:=I.base.there b o e hx;exact there b o' (neC b o e hx) e1
 ·obtain⟨m1,e1⟩:=I.base.tbls b ps e;obtain⟨m2,e2⟩:=tbls b _ e1;exact⟨m1++m2,by rw[e2,Array.append_assoc]⟩
 ·obtain⟨m,hn,hl⟩:=I.loc;refine⟨m,ns m hn,λi x v e1 e2 e3=>?_⟩;obtain⟨u,r,l⟩:=hl i x v e1 e2 e3;refine⟨u,r,?_⟩;rcases l with l|⟨k,c,e,z⟩
  ·exact .inl l
  ·exact .inr ⟨k,c,e,cellK x c e _ z⟩
 ·obtain⟨v,z⟩:=I.cell x c e;exact⟨v,cellK x c e v z⟩
 ·obtain⟨m,⟨o,_,_,ho,_⟩,_⟩:=I.loc;exact free _ o (λz=>(hch _ z).2.1 rfl) ho I.free
 ·obtain⟨v,o,ho,hd⟩:=I.cell x c e;exact free c o (λz=>(hch c z).2.2.1 x c e rfl) ho (I.freeC x c e)
 ·obtain⟨e,n,ne,nf,d⟩:=I.pin p hp;have nch:p.1∉ch:=λz=>(hch p.1 z).2.2.2 p hp rfl;exact⟨keep p.1 p.2 ne nf nch e n,free p.1 p.2 nch e n,ne,nf,d⟩
theorem Inv.un{t':Nat}(I:Inv X pins σ H s)(u:Un X.fs [] H H' s.heap h')(hok:HOk X.prog X.w H' h'):Inv X pins σ H' {s with heap:=h',toks:=t'}:=by
 obtain⟨m,⟨o,es,ep,ho,r⟩,_⟩:=id I.loc;obtain⟨sl,hL⟩:=u.any ho I.free (by simp);exact I.step (g':=s.gens) (d':=s.drawn) (ch:=[]) (λ_ z=>nomatch z) (λb o _ hb _ e n=>u.keep b o e n hb (by simp)) (λb o _ hb _ e n=>u.slot b o e n hb (by simp)) (λb o _ e n=>u.free b o e n (by simp)) (λb o _ e=>u.there b o e (by simp)) u.tups u.frzs u.tbls (λm' hm=>by obtain⟨o',es',ep',ho',r'⟩:=hm;rw[ho]at ho';cases ho';exact⟨_,es',ep',hL,r'⟩) hok I.bare
theorem Inv.call{g':Array GenState}{t':Nat}{d':Drawn}{ch:List Addr}(I:Inv X pins σ H s)(u:Un (frs X.stack) ch H H' s.heap h')(hok:HOk X.prog X.w H' h')(hg:gq g')(hch:∀b∈ch,(b∈X.ex\/X.s₀.heap.objs.size<=b)/\b≠X.env.locals/\(∀x c,X.env.cells.lookup x=some c->c≠b)/\∀p∈X.pn++pins,p.1≠b):Inv X pins σ H' {s with heap:=h',gens:=g',drawn:=d',toks:=t'}:=by
 obtain⟨m,⟨o,es,ep,ho,r⟩,_⟩:=id I.loc;obtain⟨sl,hL⟩:=u.any ho I.free λz=>(hch _ z).2.1 rfl;exact I.step (ch:=ch) hch (λb o hL hb hc e n=>u.keep b o e n (λz=>(ar.mp (I.stkSub b z)).elim hL hb) hc) (λb o _ _ hc e n=>u.any e n hc) (λb o hc e n=>u.free b o e n hc) (λb o hc e=>u.there b o e hc) u.tups u.frzs u.tbls (λm' hm=>by obtain⟨o',es',ep',ho',r'⟩:=hm;rw[ho]at ho';cases ho';exact⟨_,es',ep',hL,r'⟩) hok hg
theorem Inv.turned{t':Nat}{it:Addr}(I:Inv X pins σ H s)(k:∀b o,b≠it->s.heap.get? b=some o->h'.get? b=some o)(hn:H it=none)(hL:it≠X.env.locals)(h1:it∈X.ex\/X.s₀.heap.objs.size<=it)(h2:∀x c,X.env.cells.lookup x=some c->c≠it)(h3:∀p∈X.pn++pins,p.1≠it):Inv X pins σ H {s with heap:=h',toks:=t'}:=by
 have nit:∀b u,H b=some u->b≠it:=λb u e z=>by rw[z,hn]at e;cases e
 refine I.step (g':=s.gens) (d':=s.drawn) (ch:=[it]) (λb hb=>?_) (λb o _ _ hc e _=>k b o (λz=>hc (by simp[z])) e) (λb o _ _ hc e _=>⟨o.slots,k b o (λz=>hc (by simp[z])) e⟩) (λ_ _ _ _ n=>n) (λb o hc e=>⟨o,k b o (λz=>hc (by simp[z])) e⟩) (λ_ _ e=>e) (λ_ _ _ e=>e) (λb ps e=>⟨#[],by rw[e];simp⟩) (λm hm=>?_) (λb u e=>?_) I.bare
 ·have e:b=it:=by simpa using hb
  subst e;exact⟨h1,hL,h2,h3⟩
 ·obtain⟨o,es,ep,ho,r⟩:=hm;exact⟨o,es,ep,k _ o (bR hL) ho,r⟩
 ·refine(I.hok b u e).stay (λc v hc q=>k c v ?_ q) (λ_ q=>q) λ_ _ q=>q;rcases hc with z|z
  ·rw[z];exact nit b u e
  ·exact nit c _ z
theorem Inv.tok(I:Inv X pins σ H s)(t:Nat):Inv X pins σ H {s with toks:=t}:=I.un (h':=s.heap) (t':=t) Un.refl I.hok
theorem Inv.kept{t':Nat}(I:Inv X pins σ H s)(k:∀b u,s.heap.get? b=some u->h'.get? b=some u):Inv X pins σ H {s with heap:=h',toks:=t'}:=I.un (Un.kept k) (I.hok.kept k)
theorem Inv.laid{a:Addr}{o:HO}{t':Nat}(I:Inv X pins σ H s)(k:∀b u,s.heap.get? b=some u->h'.get? b=some u)(hp:s.heap.objs.size<=a)(new:ZY X.prog X.w (upd H a o) h' a o):Inv X pins σ (upd H a o) {s with heap:=h',toks:=t'}:=I.un (Un.laid k hp (I.hok.fresh hp)) (I.hok.laid k hp new)
theorem Inv.write{x e:Addr}{o:HO}{t':Nat}(I:Inv X pins σ H s)(mu:Mut (H x))(he:e=x\/H e=some (.own x))(k:∀b u,b≠e->s.heap.get? b=some u->h'.get? b=some u)(heo:∃u,h'.get? e=some u)(new:ZY X.prog X.w (upd H x o) h' x o):Inv X pins σ (upd H x o) {s with heap:=h',toks:=t'}:=I.un (Un.write mu he k heo) (I.hok.write mu he k heo new)
theorem Inv.pins_of{pins':List (Addr×Obj)}(I:Inv X pins σ H s)(h:∀p∈pins',s.heap.get? p.1=some p.2/\H p.1=none/\p.1≠X.env.locals/\p.1∉X.fs/\∀v,p.2.data≠.cell v):Inv X pins' σ H s:=⟨I.ok,I.os,I.bare,I.base,I.loc,I.cell,I.free,I.freeC,λp hp=>(aK.mp hp).elim (λz=>I.pin p (bI _ z)) (h p),I.hok,I.len⟩
theorem Nu{N:List Str}(hN:N.Nodup){i j:Nat}{x:Str}(a:N[i]?=some x)(b:N[j]?=some x):i=j:=by obtain⟨h1,e1⟩:=aj.mp a;obtain⟨h2,e2⟩:=aj.mp b;exact(fL hN).mp (e1.trans e2.symm)
theorem GO{M:Model}{A:br}{E:Value->ah->Prop}{i:Nat}{x:Str}{v:V}{u:Value}{Q:Unit->ah->Prop}(I:Inv X pins σ H s)(hN:X.N.Nodup)(hi:X.N[i]?=some x)(hx:Loc X.env.scope x)(r:RelV v u)(h:∀s',Inv X pins (σ.set i (some v)) H s'->(∃a,Heap.SameBut a s.heap s'.heap/\(a=X.env.locals\/X.env.cells.lookup x=some a))->Q () s')(hf:X.fn x=true\/X.env.scope.names.lookup x=some .local:=by first|exact .inl rfl|exact .inr rfl|assumption):wpAny M A (storeName X.env x u) Q E s:=by
 obtain⟨m,hn,hl⟩:=id I.loc;have hcls:(X.env.scope.kind==.class||(X.env.scope.kind==.module&&X.env.locals != X.env.globals))=false:=by rw[I.ok.kind];rfl
 have hiσ:i<σ.length:=by rw[I.len];exact(aj.mp hi).1
 have cne:=I.cne;have tracked:∀{a:Addr}{h':Heap},(∃o,s.heap.get? a=some o/\H a=none)->Heap.SameBut a s.heap h'->HOk X.prog X.w H h':=λ{a h'}ha hs b ob e=>by
  obtain⟨_,_,hfree⟩:=ha;refine(I.hok b ob e).stay (λc w' hc q=>(hs.2 c ?_).trans q) (λ_ q=>q) λ_ _ q=>q;rintro rfl;rcases hc with rfl|hc
  ·rw[hfree]at e;cases e
  ·rw[hfree]at hc;cases hc
 rcases hx with hk|hk
 ·refine wpAny_storeName_local hk hn (λh' hn' hs=>?_) hcls;obtain⟨oL,_,_,hoL,_⟩:=id hn;refine h _ ⟨I.ok,I.os,I.bare,⟨λb o e n hb hx=>?_,λb o e n hb hx=>?_,I.base.free,λb o e hx=>?_,I.base.tups,I.base.frzs,I.base.tbls⟩,⟨_,hn',λj y v' e1 e2 e3=>?_⟩,λy c e=>?_,I.free,I.freeC,λp hp=>?_,tracked ⟨oL,hoL,I.free⟩ hs,by simpa using I.len⟩ ⟨_,hs,.inl rfl⟩
  ·exact(hs.2 b (Nat.ne_of_lt (Nat.lt_of_lt_of_le (Heap.lt_size e) I.ok.above))).trans (I.base.keep b o e n hb hx)
  ·obtain⟨sl,e1⟩:=I.base.slot b o e n hb hx;exact⟨sl,(hs.2 b (Nat.ne_of_lt (Nat.lt_of_lt_of_le (Heap.lt_size e) I.ok.above))).trans e1⟩
  ·obtain⟨o',e1⟩:=I.base.there b o e hx;exact⟨o',(hs.2 b (Nat.ne_of_lt (Nat.lt_of_lt_of_le (Heap.lt_size e) I.ok.above))).trans e1⟩
  ·by_cases hj:j=i
   ·subst hj;rw[hi]at e1;cases e1;rw[List.getElem?_set_self hiσ]at e2;cases e2;exact⟨u,r,.inl ⟨hk,by simp⟩⟩
   ·rw[List.getElem?_set_ne (bR hj)]at e2;obtain⟨u',r',q⟩:=hl j y v' e1 e2 e3;refine⟨u',r',?_⟩;rcases q with⟨k,e⟩|⟨k,c,e,z⟩
    ·refine .inl ⟨k,?_⟩;have:y≠x:=λe=>hj (Nu hN e1 (e▸hi));simp[this,e]
    ·exact .inr ⟨k,c,e,z.sameBut hs (cne y c e)⟩
  ·obtain⟨w',z⟩:=I.cell y c e;exact⟨w',z.sameBut hs (cne y c e)⟩
  ·obtain⟨e,n,ne,nf,d⟩:=I.pin p hp;exact⟨(hs.2 p.1 ne).trans e,n,ne,nf,d⟩
 ·have hfn:X.fn x=true:=by
   rcases hf with z|z
   ·exact z
   ·rw[z]at hk;cases hk
  obtain⟨c,hc⟩:=I.ok.has x (.inl hk);obtain⟨w',z⟩:=I.cell x c hc;refine wpAny_storeName_cell I.ok.kind hk hc z (λh' hc' hs=>?_);obtain⟨oc,hoc,hocd⟩:=id z;refine h {s with heap:=h'} ⟨I.ok,I.os,I.bare,⟨λb o e n hb hx=>?_,λb o e n hb hx=>?_,I.base.free,λb o e hx=>?_,I.base.tups,I.base.frzs,I.base.tbls⟩,⟨m,hn.sameBut hs (bR (cne x c hc)),λj y v' e1 e2 e3=>?_⟩,λy c' e=>?_,I.free,I.freeC,λp hp=>?_,tracked ⟨oc,hoc,I.freeC x c hc⟩ hs,by simpa using I.len⟩ ⟨c,hs,.inr hc⟩
  ·exact(hs.2 b (Nat.ne_of_lt (Nat.lt_of_lt_of_le (Heap.lt_size e) (I.ok.cab x c hfn hc)))).trans (I.base.keep b o e n hb hx)
  ·obtain⟨sl,e1⟩:=I.base.slot b o e n hb hx;exact⟨sl,(hs.2 b (Nat.ne_of_lt (Nat.lt_of_lt_of_le (Heap.lt_size e) (I.ok.cab x c hfn hc)))).trans e1⟩
  ·obtain⟨o',e1⟩:=I.base.there b o e hx;exact⟨o',(hs.2 b (Nat.ne_of_lt (Nat.lt_of_lt_of_le (Heap.lt_size e) (I.ok.cab x c hfn hc)))).trans e1⟩
  ·by_cases hj:j=i
   ·subst hj;rw[hi]at e1;cases e1;rw[List.getElem?_set_self hiσ]at e2;cases e2;exact⟨u,r,.inr ⟨.inl hk,c,hc,hc'⟩⟩
   ·rw[List.getElem?_set_ne (bR hj)]at e2;obtain⟨u',r',q⟩:=hl j y v' e1 e2 e3;refine⟨u',r',?_⟩;rcases q with q|⟨k,c',e,z'⟩
    ·exact .inl q
    ·refine .inr ⟨k,c',e,z'.sameBut hs ?_⟩;rintro rfl;exact hj (Nu hN e1 (I.ok.inj _ _ _ e hc▸hi))
  ·by_cases hcc:c'=c
   ·subst hcc;exact⟨_,hc'⟩
   ·obtain⟨w2,z2⟩:=I.cell y c' e;exact⟨w2,z2.sameBut hs hcc⟩
  ·obtain⟨e,n,ne,nf,d⟩:=I.pin p hp;refine⟨(hs.2 p.1 ?_).trans e,n,ne,nf,d⟩;intro q;rw[q,hoc]at e;have q':oc=p.2:=aB e;exact d w' (by rw[<-q'];exact hocd)
theorem M8{M:Model}{A:br}{E:Value->ah->Prop}{i:Nat}{x:Str}{v:V}{u:Value}{Q:Unit->ah->Prop}(I:Inv X pins σ H s)(hN:X.N.Nodup)(hi:X.N[i]?=some x)(hx:Loc X.env.scope x)(r:RelV v u)(h:∀s',Inv X pins (σ.set i (some v)) H s'->Q () s')(hf:X.fn x=true\/X.env.scope.names.lookup x=some .local:=by first|exact .inl rfl|exact .inr rfl|assumption):wpAny M A (storeName X.env x u) Q E s:=GO I hN hi hx r (λs' I' _=>h s' I') hf
theorem Inv.call'{s':ah}{ch:List Addr}(I:Inv X pins σ H s)(ho:s'.os=s.os)(u:Un (frs X.stack) ch H H' s.heap s'.heap)(hok:HOk X.prog X.w H' s'.heap)(hg:gq s'.gens)(hch:∀b∈ch,(b∈X.ex\/X.s₀.heap.objs.size<=b)/\b≠X.env.locals/\(∀x c,X.env.cells.lookup x=some c->c≠b)/\∀p∈X.pn++pins,p.1≠b):Inv X pins σ H' s':=by obtain⟨h',g',d',t',o'⟩:=s';have e:o'=s.os:=ho;subst e;exact I.call (g':=g') (t':=t') (d':=d') u hok hg hch
end
noncomputable abbrev XK:=Value->Option Addr->Hp->Prop
noncomputable abbrev St:=List (Option V)
noncomputable abbrev VK:=V->Hp->Prop
noncomputable abbrev TE:=St->Hp->VK->Prop
noncomputable abbrev TT:=St->Hp->(Bool->Hp->Prop)->Prop
noncomputable abbrev TA:=St->Hp->(List V->Hp->Prop)->Prop
structure Ends where
 nx:St->Hp->Prop
 rt:VK
 bk:St->Hp->Prop:=λ_ _=>False
 ct:St->Hp->Prop:=λ_ _=>False
noncomputable abbrev TS:=Ends->St->Hp->Prop
def EP(X:Cx)(pins:List (Addr×Obj))(σ:St)(Q:VK)(u:Value)(s':ah):Prop:=∃v H',Inv X pins σ H' s'/\RelV v u/\Q v H'
def TP(X:Cx)(pins:List (Addr×Obj))(σ:St)(Q:Bool->Hp->Prop)(b:Bool)(s':ah):Prop:=∃H',Inv X pins σ H' s'/\Q b H'
def AP(X:Cx)(pins:List (Addr×Obj))(σ:St)(Q:List V->Hp->Prop)(us:List Value)(s':ah):Prop:=∃vs H',Inv X pins σ H' s'/\Vals vs us/\Q vs H'
def SP(X:Cx)(pins:List (Addr×Obj))(D:Ends)(f:Flow)(s':ah):Prop:=match f with
|.next=>∃σ' H',Inv X pins σ' H' s'/\D.nx σ' H'
|.brk=>∃σ' H',Inv X pins σ' H' s'/\D.bk σ' H'
|.cont=>∃σ' H',Inv X pins σ' H' s'/\D.ct σ' H'
|.ret u=>∃v σ' H',Inv X pins σ' H' s'/\RelV v u/\D.rt v H'
def PE(X:Cx)(e:Expr)(t:TE):Prop:=∀(pins:List (Addr×Obj))(s:ah)(σ:St)(H:Hp)(Q:VK),Inv X pins σ H s->t σ H Q->wpAny (model X.prog X.w) X.A (eval e X.env) (EP X pins σ Q) X.xe s
def PT(X:Cx)(e:Expr)(t:TT):Prop:=∀(pins:List (Addr×Obj))(s:ah)(σ:St)(H:Hp)(Q:Bool->Hp->Prop),Inv X pins σ H s->t σ H Q->wpAny (model X.prog X.w) X.A (isTrue e X.env (eval e X.env)) (TP X pins σ Q) X.xe s
def PW(X:Cx)(e:Expr)(t:TT):Prop:=∀(whole:Sem Value)(pins:List (Addr×Obj))(s:ah)(σ:St)(H:Hp)(Q:Bool->Hp->Prop),Inv X pins σ H s->t σ H Q->wpAny (model X.prog X.w) X.A (isTrue e X.env whole) (TP X pins σ Q) X.xe s
theorem PW.pt{X:Cx}{e:Expr}{t:TT}(h:PW X e t):PT X e t:=h _
def PA(X:Cx)(es:List Expr)(t:TA):Prop:=∀(pos:Pos)(pins:List (Addr×Obj))(s:ah)(σ:St)(H:Hp)(Q:List V->Hp->Prop),Inv X pins σ H s->t σ H Q->wpAny (model X.prog X.w) X.A (spliced (b8 pos (az es X.env))) (AP X pins σ Q) X.xe s
def PS(X:Cx)(st:Stmt)(t:TS):Prop:=∀(pins:List (Addr×Obj))(s:ah)(σ:St)(H:Hp)(D:Ends),Inv X pins σ H s->t D σ H->wpAny (model X.prog X.w) X.A (exec st X.env) (SP X pins D) X.xe s
def PSs(X:Cx)(st:List Stmt)(t:TS):Prop:=∀(pins:List (Addr×Obj))(s:ah)(σ:St)(H:Hp)(D:Ends),Inv X pins σ H s->t D σ H->wpAny (model X.prog X.w) X.A (execs st X.env) (SP X pins D) X.xe s
theorem thn{α:Type}{t:Sem α}{Q Q':α->ah->Prop}{M:Model}{A:br}{E:Value->ah->Prop}{s:ah}(h:wpAny M A t Q E s)(hQ:∀a s,Q a s->Q' a s):wpAny M A t Q' E s:=dz h hQ λ_ _ x=>x
open PySem PySem.Spec PyProof.Rows
section
variable {X:Cx}
theorem bin{a b:Expr}{ta tb:TE}(ha:PE X a ta)(hb:PE X b tb){pins:List (Addr×Obj)}{s:ah}{σ:St}{H:Hp}{R:V->V->Hp->Prop}(I:Inv X pins σ H s)(h:ta σ H λx H1=>tb σ H1 λy H2=>R x y H2){α:Type}{Q:α->ah->Prop}{f:Value->Value->Sem α}(hf:∀v u s2 x y H2,Inv X pins σ H2 s2->RelV x v->RelV y u->R x y H2->wpAny (model X.prog X.w) X.A (f v u) Q X.xe s2):wpAny (model X.prog X.w) X.A (eval a X.env) (λv s₁=>wpAny (model X.prog X.w) X.A (eval b X.env) (λu s₂=>wpAny (model X.prog X.w) X.A (f v u) Q X.xe s₂) X.xe s₁) X.xe s:=by refine thn (ha pins s σ H _ I h) λv s1 hZ=>?_;obtain⟨x,H1,I1,r1,q1⟩:=hZ;refine thn (hb pins s1 σ H1 _ I1 q1) λu s2 hZ=>?_;obtain⟨y,H2,I2,r2,q2⟩:=hZ;exact hf v u s2 x y H2 I2 r1 r2 q2
def tVar(i:Nat):TE:=λσ H Q=>∃v,σ[i]?=some (some v)/\Q v H
def tC(v:V):TE:=λ_ H Q=>Q v H
theorem LB{i:Nat}{x:Str}{pos:Pos}(hN:X.N[i]?=some x)(hv:Vis X.env.scope x)(hd:(x==("__debug__":Str))=false:=by decide)(hcd:(x==("__classdict__":Str))=false:=by decide):PE X (.Name x pos) (tVar i):=by
 intro pins s σ H Q I h;obtain⟨v,e,h⟩:=h;obtain⟨m,hn,hl⟩:=I.loc;obtain⟨u,r,l⟩:=hl i x v hN e hv;have fin:EP X pins σ Q u s:=⟨v,H,I,r,h⟩;rcases l with⟨hk,hm⟩|⟨hk,c,hc,hcell⟩
 ·exact wpAny_Name (wpAny_loadName_local I.ok.kind hk hn hm fin) hd
 ·rcases hk with hk|hk
  ·exact wpAny_Name (wpAny_loadName_cell I.ok.kind hk hc hcell fin) hd
  ·exact wpAny_Name (wpAny_loadName_free I.ok.kind hk hc hcell fin hcd) hd
theorem Zb{i j pos}:PE X (.Constant (.int i) j pos) (tC (.int i)):=λ_ _ _ H _ I h=>wpAny_Constant_int ⟨.int i,H,I.tok _,⟨_,rfl⟩,h⟩
theorem XB{b j pos}:PE X (.Constant (.bool b) j pos) (tC (.bl b)):=λ_ _ _ H _ I h=>Constant_bool ⟨.bl b,H,I,rfl,h⟩
theorem ZZ{j pos}:PE X (.Constant .none j pos) (tC .non):=λ_ _ _ H _ I h=>Constant_none ⟨.non,H,I,rfl,h⟩
theorem ZC{x j pos}:PE X (.Constant (.str x) j pos) (tC (.str x)):=λ_ _ _ H _ I h=>Calls.Constant_str ⟨.str x,H,I.tok _,⟨_,rfl⟩,h⟩
def Gl(X:Cx)(x:Str):Prop:=X.env.kindOf x=some .globalImplicit
theorem MF{E:Value->ah->Prop}{pins:List (Addr×Obj)}{s:ah}{σ:St}{H:Hp}{x:Str}{u:Value}{pos:Pos}{Q:Value->ah->Prop}(I:Inv X pins σ H s)(hg:Gl X x)(hm:X.mg x=some u)(h:Q u s)(hd:(x==("__debug__":Str))=false:=by decide):wpAny (model X.prog X.w) X.A (eval (.Name x pos) X.env) Q E s:=Calls.Name_function_global I.ok.kind hg (Calls.loadGlobal_global (by rw[I.ok.glob];exact I.mod.glob.keeps I.bk) hm h) hd
theorem Xp{E:Value->ah->Prop}{pins:List (Addr×Obj)}{s:ah}{σ:St}{H:Hp}{x:Str}{u:Value}{pos:Pos}{Q:Value->ah->Prop}(I:Inv X pins σ H s)(hg:Gl X x)(hm:X.mg x=none)(hv:bt x=some u)(h:Q u s)(hn:x≠"__name__":=by decide)(hd:(x==("__debug__":Str))=false:=by decide):wpAny (model X.prog X.w) X.A (eval (.Name x pos) X.env) Q E s:=by obtain⟨mb,h1,h2⟩:=I.mod.blt;exact Calls.Name_function_global I.ok.kind hg (Calls.loadGlobal_builtin (by rw[I.ok.glob];exact I.mod.glob.keeps I.bk) hm (by rw[I.ok.blt];exact h1.keeps I.bk) ((h2 x hn).trans hv) h) hd
theorem Z7{x:Str}{v:V}{u:Value}{pos:Pos}(hg:Gl X x)(hm:X.mg x=some u)(r:RelV v u)(hd:(x==("__debug__":Str))=false:=by decide):PE X (.Name x pos) (tC v):=λ_ _ _ H _ I h=>MF I hg hm ⟨v,H,I,r,h⟩ hd
theorem Vm{x:Str}{v:V}{u:Value}{pos:Pos}(hg:Gl X x)(hm:X.mg x=none)(hv:bt x=some u)(r:RelV v u)(hn:x≠"__name__":=by decide)(hd:(x==("__debug__":Str))=false:=by decide):PE X (.Name x pos) (tC v):=λ_ _ _ H _ I h=>Xp I hg hm hv ⟨v,H,I,r,h⟩ hn hd
variable {a b:Expr}{ta tb:TE}{pos:Pos}
def PC(X:Cx)(op:CmpOp)(a b:Expr)(t:TE):Prop:=∀(pins:List (Addr×Obj))(s:ah)(σ:St)(H:Hp)(Q:VK),Inv X pins σ H s->t σ H Q ->wpAny (model X.prog X.w) X.A (eval a X.env) (λv s₁=>wpAny (model X.prog X.w) X.A (eval b X.env) (λu s₂=>wpAny (model X.prog X.w) X.A (bA op v u) (EP X pins σ Q) X.xe s₂) X.xe s₁) X.xe s
theorem Nv(b:Expr){op:CmpOp}(h:op≠.In)(h2:op≠.NotIn):dE op b=false:=by
 have e1:(op==CmpOp.In)=false:=by cases op<;>first|rfl|exact absurd rfl h
 have e2:(op==CmpOp.NotIn)=false:=by cases op<;>first|rfl|exact absurd rfl h2
 cases b<;>simp[dE,e1,e2]
def tB(t:TE):TT:=λσ H Q=>t σ H λx H1=>∃c,x=.bl c/\Q c H1
theorem LG{op:CmpOp}{t:TE}(h:PC X op a b t)(h1:dE op b=false:=by first|exact Nv _ (by decide) (by decide)|rfl):PE X (.Compare a [op] [b] pos) t:=λpins s σ H Q I hw=>wpAny_Compare1 (h pins s σ H Q I hw) h1
theorem Ly{op:CmpOp}{t:TE}(h:PC X op a b t)(h1:dE op b=false:=by first|exact Nv _ (by decide) (by decide)|rfl):PT X (.Compare a [op] [b] pos) (tB t):=by intro pins s σ H Q I hw;refine wpAny_isTrue_Compare1 (thn (h pins s σ H _ I hw) λv s1 h1=>thn h1 λu s2 h2=>thn h2 λc s3 hZ=>?_) h1;obtain⟨x,H1,I1,r1,q1⟩:=hZ;obtain⟨d,rfl,q⟩:=q1;cases r1;exact bC ⟨H1,I1,q⟩
theorem ZA{e:Expr}{t:TE}(h:PE X e t)(he:∀whole,isTrue e X.env whole=(do let v <-whole;g7 e.pos;fB [v] (truthy v)):=by intro _;rfl):PT X e (tB t):=by
 intro pins s σ H Q I hw
 refine isTrue_plain (thn (h pins s σ H _ I hw) λv s1 hZ=>?_) (he _);obtain⟨x,H1,I1,r1,q1⟩:=hZ
 obtain⟨d,rfl,q⟩:=q1
 cases r1
 exact bC ⟨H1,I1,q⟩
variable {tA tB':TT}{rest:List Expr}
def tAnd(t u:TT):TT:=λσ H Q=>t σ H λc H1=>if c=true then u σ H1 Q else Q false H1
def tOr(t u:TT):TT:=λσ H Q=>t σ H λc H1=>if c=true then Q true H1 else u σ H1 Q
def tNot(t:TT):TT:=λσ H Q=>t σ H λc H1=>Q (!c) H1
theorem Ve(ha:PT X a tA):PW X (.BoolOp .And [a] pos) tA:=by
 intro wh pins s σ H Q I h;refine isTrue_and (thn (ha pins s σ H Q I h) λc s1 e=>?_);cases c with
|true=>exact isTrue_and_nil e
|false=>exact e
theorem Yz(ha:PT X a tA):PW X (.BoolOp .Or [a] pos) tA:=by
 intro wh pins s σ H Q I h;refine isTrue_or (thn (ha pins s σ H Q I h) λc s1 e=>?_);cases c with
|false=>exact isTrue_or_nil e
|true=>exact e
theorem VV(ha:PT X a tA)(hb:PW X (.BoolOp .And (b::rest) pos) tB'):PW X (.BoolOp .And (a::b::rest) pos) (tAnd tA tB'):=by
 intro wh pins s σ H Q I h;refine isTrue_and (thn (ha pins s σ H _ I h) λc s1⟨H1,I1,q1⟩=>?_);cases c with
|true=>exact hb wh pins s1 σ H1 Q I1 q1
|false=>exact⟨H1,I1,q1⟩
theorem Y8(ha:PT X a tA)(hb:PW X (.BoolOp .Or (b::rest) pos) tB'):PW X (.BoolOp .Or (a::b::rest) pos) (tOr tA tB'):=by
 intro wh pins s σ H Q I h;refine isTrue_or (thn (ha pins s σ H _ I h) λc s1⟨H1,I1,q1⟩=>?_);cases c with
|true=>exact⟨H1,I1,q1⟩
|false=>exact hb wh pins s1 σ H1 Q I1 q1
theorem ZH(ha:PT X a tA):PT X (.UnaryOp .Not a pos) (tNot tA):=by intro pins s σ H Q I h;exact isTrue_not (ha pins s σ H (λc H1=>Q (!c) H1) I h)
def Ec(ta tb:TE):TE:=λσ H Q=>ta σ H λx H1=>∃c,x=.bl c/\if c=true then tb σ H1 Q else Q (.bl false) H1
def DV(ta:TE):TE:=λσ H Q=>ta σ H λx H1=>∃c,x=.bl c/\Q (.bl (!c)) H1
theorem Xd{op}{t:TE}(h:PE X a t):PE X (.BoolOp op [a] pos) t:=λpins s σ H Q I hw=>BoolOp_one (h pins s σ H Q I hw)
theorem XE(ha:PE X a ta)(hb:PE X (.BoolOp .And (b::rest) pos) tb):PE X (.BoolOp .And (a::b::rest) pos) (Ec ta tb):=by
 intro pins s σ H Q I h;refine BoolOp_and (thn (ha pins s σ H _ I h) λv s1 hZ=>?_);obtain⟨x,H1,I1,r1,q1⟩:=hZ;obtain⟨c,rfl,q1⟩:=q1;cases r1;refine bC ?_;cases c with
|true=>exact hb pins s1 σ H1 Q I1 q1
|false=>exact⟨.bl false,H1,I1,rfl,q1⟩
theorem LC(ha:PE X a ta):PE X (.UnaryOp .Not a pos) (DV ta):=by intro pins s σ H Q I h;refine UnaryOp_ (thn (ha pins s σ H _ I h) λv s1 hZ=>?_);obtain⟨x,H1,I1,r1,q1⟩:=hZ;obtain⟨c,rfl,q1⟩:=q1;cases r1;exact not_of (bC ⟨.bl (!c),H1,I1,rfl,q1⟩)
def tIf(t:TT)(ta tb:TE):TE:=λσ H Q=>t σ H λc H1=>if c=true then ta σ H1 Q else tb σ H1 Q
theorem Vi{c:Expr}(hc:PT X c tA)(ha:PE X a ta)(hb:PE X b tb):PE X (.IfExp c a b pos) (tIf tA ta tb):=by
 intro pins s σ H Q I h;refine wpAny_IfExp (thn (hc pins s σ H _ I h) λd s1⟨H1,I1,q1⟩=>?_);cases d with
|true=>exact ha pins s1 σ H1 Q I1 q1
|false=>exact hb pins s1 σ H1 Q I1 q1
end
open PySem PySem.Spec PyProof.Rows
def SqL(K:ae)(H:Hp)(a:Addr)(xs:List V):Prop:=Rd H a (.lst xs) \/∃(o:Obj)(its:Array Value)(n:Nat),K.lookup a=some o/\o.cls=.type "list"/\o.dict=none/\o.data=.seq its n/\its.size<=sizeLine/\Vals xs its.toList
def SqT(K:ae)(H:Hp)(a:Addr)(xs:List V):Prop:=Rd H a (.tup xs) \/∃(o:Obj)(its:Array Value)(n:Nat),K.lookup a=some o/\o.cls=.type "tuple"/\o.data=.seq its n/\its.size<=sizeLine/\Vals xs its.toList
noncomputable def absV:Value->Option V
|.none=>some .non
|.bool b=>some (.bl b)
|.int i _=>some (.int i)
|.str x _=>some (.str x)
|.bytes b _=>some (.byt b)
|.float b _=>some (.flt b)
|.ref a=>some (.ref a)
|.type n=>some (.ty n)
|_=>none
theorem RelV.abs{x:V}{u:Value}(r:RelV x u):absV u=some x:=by
 cases x with
|non=>cases r;rfl
|bl _=>cases r;rfl
|int _=>obtain⟨t,rfl⟩:=r;rfl
|str _=>obtain⟨t,rfl⟩:=r;rfl
|byt _=>obtain⟨t,rfl⟩:=r;rfl
|flt _=>obtain⟨t,rfl⟩:=r;rfl
|ref _=>cases r;rfl
|ty _=>cases r;rfl
theorem RelV.inj{x y:V}{u:Value}(r:RelV x u)(q:RelV y u):x=y:=aB (r.abs.symm.trans q.abs)
theorem Vals.inj:∀{xs ys:List V}{us:List Value},Vals xs us->Vals ys us->xs=ys
|_,_,_,.nil,.nil=>rfl
|_,_,_,.cons r t,.cons r' t'=>by rw[r.inj r',Vals.inj t t']
section
variable {X:Cx}{pins:List (Addr×Obj)}{σ:St}{H:Hp}{s:ah}{a:Addr}{xs ys:List V}
theorem SqL.of{K:ae}(h:H a=some (.lst xs)):SqL K H a xs:=.inl (.inl h)
theorem SqT.of{K:ae}(h:H a=some (.tup xs)):SqT K H a xs:=.inl (.inl h)
theorem Inv.list(I:Inv X pins σ H s)(h:SqL X.K H a xs):∃its:List Value,Vals xs its/\PlainL s.heap a its.toArray/\xs.length<=sizeLine:=by
 rcases h with h|⟨o,its,n,hk,hc,hd,hs,hz,r⟩
 ·obtain⟨z,its,n,r,e⟩:=h.ok I.hok;exact⟨its,r,⟨_,n,e,rfl,rfl,rfl⟩,z⟩
 ·refine⟨its.toList,r,⟨o,n,I.kIn a o hk,hc,hd,by simpa using hs⟩,?_⟩;have e:=r.length;simp only[bz]at e;omega
theorem Inv.tuple(I:Inv X pins σ H s)(h:SqT X.K H a xs):∃its:List Value,Vals xs its/\IsTup s.heap a its.toArray/\xs.length<=sizeLine:=by
 rcases h with h|⟨o,its,n,hk,hc,hs,hz,r⟩
 ·obtain⟨z,its,r,p⟩:=h.ok I.hok;exact⟨its,r,p,z⟩
 ·refine⟨its.toList,r,⟨o,I.kIn a o hk,hc,n,by simpa using hs⟩,?_⟩;have e:=r.length;simp only[bz]at e;omega
theorem Inv.list_inj(I:Inv X pins σ H s)(h:SqL X.K H a xs)(h':SqL X.K H a ys):xs=ys:=by
 obtain⟨its,r,⟨o,n,e,_,_,d⟩,_⟩:=I.list h;obtain⟨its',r',⟨o',n',e',_,_,d'⟩,_⟩:=I.list h';rw[e]at e';cases e';rw[d]at d';injection d' with d1 _;have:its=its':=by simpa using congrArg Array.toList d1
 subst this;exact r.inj r'
end
noncomputable abbrev Cx.wish(X:Cx)(E:Value->ah->Prop):Cx:={X with xe:=E}
noncomputable abbrev Cx.nox(X:Cx):Cx:=X.wish λ_ _=>False
theorem Cx.Ok.wish{X:Cx}(ok:X.Ok)(E:Value->ah->Prop):(X.wish E).Ok:=⟨ok.mod,ok.kind,ok.glob,ok.blt,ok.above,ok.inj,ok.has,ok.cab,ok.hd,ok.frames,ok.stk,ok.exf,ok.bs,ok.bsz,ok.noex,ok.exfs,ok.funs,ok.frf⟩
theorem Cx.Ok.unwish{X:Cx}{E:Value->ah->Prop}(ok:(X.wish E).Ok):X.Ok:=⟨ok.mod,ok.kind,ok.glob,ok.blt,ok.above,ok.inj,ok.has,ok.cab,ok.hd,ok.frames,ok.stk,ok.exf,ok.bs,ok.bsz,ok.noex,ok.exfs,ok.funs,ok.frf⟩
section
variable {X:Cx}{pins:List (Addr×Obj)}{σ:St}{H:Hp}{s:ah}{E:Value->ah->Prop}
theorem Inv.wish(I:Inv X pins σ H s)(E:Value->ah->Prop):Inv (X.wish E) pins σ H s:=⟨I.ok.wish E,I.os,I.bare,I.base,I.loc,I.cell,I.free,I.freeC,I.pin,I.hok,I.len⟩
theorem Inv.unwish(I:Inv (X.wish E) pins σ H s):Inv X pins σ H s:=⟨I.ok.unwish,I.os,I.bare,I.base,I.loc,I.cell,I.free,I.freeC,I.pin,I.hok,I.len⟩
theorem SP.unwish{D:Ends}{f:Flow}{s':ah}(h:SP (X.wish E) pins D f s'):SP X pins D f s':=by
 cases f with
|next=>obtain⟨σ',H',I,q⟩:=h;exact⟨σ',H',I.unwish,q⟩
|brk=>obtain⟨σ',H',I,q⟩:=h;exact⟨σ',H',I.unwish,q⟩
|cont=>obtain⟨σ',H',I,q⟩:=h;exact⟨σ',H',I.unwish,q⟩
|ret u=>obtain⟨v,σ',H',I,r,q⟩:=h;exact⟨v,σ',H',I.unwish,r,q⟩
theorem PSs.nox{st:List Stmt}{t:TS}(h:PSs X.nox st t):PSs X st t:=λpins s σ H D I hw=>dz (h pins s σ H D (I.wish _) hw) (λ_ _ q=>q.unwish) λ_ _ z=>False.elim z
end
section
variable {X:Cx}{st:Stmt}{rest:List Stmt}{t u:TS}{e:Expr}{te:TE}{pos:Pos}
def KS:TS:=λD σ H=>D.nx σ H
def tSeq(t u:TS):TS:=λD σ H=>t {D with nx:=u D} σ H
theorem Zo:PSs X [] KS:=λ_ _ σ H _ I h=>gA ⟨σ,H,I,h⟩
theorem Za(h1:PS X st t)(h2:PSs X rest u):PSs X (st::rest) (tSeq t u):=by
 intro pins s σ H D I h;refine wpAny_execs_cons (thn (h1 pins s σ H {D with nx:=u D} I h) λf s1 q=>?_);cases f with
|next=>obtain⟨σ',H',I',q⟩:=q;exact h2 pins s1 σ' H' D I' q
|ret v=>exact q
|brk=>exact q
|cont=>exact q
theorem Ze(h1:PS X st t):PSs X [st] t:=by
 intro pins s σ H D I h;refine wpAny_execs_cons (thn (h1 pins s σ H D I h) λf s1 q=>?_);cases f with
|next=>exact gA q
|ret v=>exact q
|brk=>exact q
|cont=>exact q
theorem Inv.quiet{pins:List (Addr×Obj)}{σ:St}{H:Hp}{s:ah}(I:Inv X pins σ H s):interactive X.env=false:=by simp[interactive,I.ok.kind]
def Ea(te:TE):TS:=λD σ H=>te σ H λ_ H1=>D.nx σ H1
theorem ZX(he:PE X e te)(hs:f7 e none pos.line X.env=pure false:=by rfl):PS X (.Expr e pos) (Ea te):=by intro pins s σ H D I h;exact wpAny_Expr_any (thn (he pins s σ H _ I h) λv s1⟨x,H1,I1,r1,q1⟩=>⟨σ,H1,I1,q1⟩) I.quiet hs
def tRet(te:TE):TS:=λD σ H=>te σ H D.rt
theorem Zk(he:PE X e te):PS X (.Return (some e) pos) (tRet te):=by intro pins s σ H D I h;exact wpAny_Return_some (thn (he pins s σ H _ I h) λv s1⟨x,H1,I1,r1,q1⟩=>⟨x,σ,H1,I1,r1,q1⟩)
def tIfS(c:TT)(t u:TS):TS:=λD σ H=>c σ H λb H1=>if b=true then t D σ H1 else u D σ H1
theorem ZD{c:Expr}{a b:List Stmt}{tc:TT}(hc:PT X c tc)(ha:PSs X a t)(hb:PSs X b u):PS X (.If c a b pos) (tIfS tc t u):=by
 intro pins s σ H D I h;refine wpAny_If (thn (hc pins s σ H _ I h) λd s1⟨H1,I1,q1⟩=>?_);cases d with
|true=>exact ha pins s1 σ H1 D I1 q1
|false=>exact hb pins s1 σ H1 D I1 q1
def Li:TS:=λ_ _ _=>False
theorem YF:PS X st Li:=λ_ _ _ _ _ _ h=>h.elim
end
noncomputable abbrev TG:=V->St->Hp->(St->Hp->Prop)->Prop
noncomputable abbrev TGs:=List V->St->Hp->(St->Hp->Prop)->Prop
def PG(X:Cx)(target:Expr)(t:TG):Prop:=∀(pins:List (Addr×Obj))(s:ah)(σ:St)(H:Hp)(v:V)(u:Value)(Q:St->Hp->Prop),Inv X pins σ H s->RelV v u->t v σ H Q ->wpAny (model X.prog X.w) X.A (assign target X.env u) (λ_ s'=>∃σ' H',Inv X pins σ' H' s'/\Q σ' H') X.xe s
def PGs(X:Cx)(ts:List Expr)(t:TGs):Prop:=∀(pins:List (Addr×Obj))(s:ah)(σ:St)(H:Hp)(vs:List V)(us:List Value)(Q:St->Hp->Prop),Inv X pins σ H s->Vals vs us->t vs σ H Q ->wpAny (model X.prog X.w) X.A (assignInOrder ((cJ ts X.env).map (·.2)) us) (λ_ s'=>∃σ' H',Inv X pins σ' H' s'/\Q σ' H') X.xe s
noncomputable abbrev TSet:=V->V->V->Hp->(Hp->Prop)->Prop
def PSet(X:Cx)(t:TSet):Prop:=∀(pins:List (Addr×Obj))(s:ah)(σ:St)(H:Hp)(o i v:V)(ov iv u:Value)(Q:Hp->Prop),Inv X pins σ H s->RelV o ov->RelV i iv->RelV v u->t o i v H Q ->wpAny (model X.prog X.w) X.A (setItem ov iv u) (λ_ s'=>∃H',Inv X pins σ H' s'/\Q H') X.xe s
section
variable {X:Cx}{pos:Pos}
def Zq(i:Nat):TG:=λv σ H Q=>Q (σ.set i (some v)) H
theorem QE{i:Nat}{x:Str}(hN:X.N.Nodup)(hi:X.N[i]?=some x)(hx:Loc X.env.scope x)(hf:X.fn x=true\/X.env.scope.names.lookup x=some .local:=by first|exact .inl rfl|exact .inr rfl|assumption):PG X (.Name x pos) (Zq i):=by intro pins s σ H v u Q I r h;exact wpAny_assign_Name (M8 I hN hi hx r (λs' I'=>⟨_,H,I',h⟩) hf)
noncomputable def gNil:TGs:=λvs σ H Q=>vs=[]/\Q σ H
noncomputable def Wj(t:TG)(u:TGs):TGs:=λvs σ H Q=>∃v r,vs=v::r/\t v σ H λσ' H'=>u r σ' H' Q
theorem Yc:PGs X [] gNil:=by intro pins s σ H vs us Q I r h;obtain⟨e,h⟩:=h;subst e;cases r;exact assignInOrder_nil ⟨σ,H,I,h⟩
theorem Zn{e:Expr}{es:List Expr}{t:TG}{u:TGs}(h1:PG X e t)(h2:PGs X es u)(hs:(cJ (e::es) X.env).map (·.2)=assign e X.env::(cJ es X.env).map (·.2):=by rfl):PGs X (e::es) (Wj t u):=by
 intro pins s σ H vs us Q I r h;obtain⟨v,vr,e1,h⟩:=h;subst e1;cases r with
|cons r rr=>rw[hs];refine assignInOrder_cons (thn (h1 pins s σ H _ _ _ I r h) λ_ s1 hZ=>?_);obtain⟨σ1,H1,I1,q1⟩:=hZ;exact h2 pins s1 σ1 H1 _ _ Q I1 rr q1
def gTup(K:ae)(n:Nat)(t:TGs):TG:=λv σ H Q=>∃a xs,v=.ref a/\SqT K H a xs/\xs.length=n/\t xs σ H Q
theorem YB{es:List Expr}{k:Nat}{t:TGs}{n:Nat}(hc:X.calm=true)(h:PGs X es t)(hn:(cJ es X.env).length=n:=by rfl)(hst:(cJ es X.env).findIdx? (·.1)=none:=by rfl):PG X (.Tuple es k pos) (gTup X.K n t):=by intro pins s σ H v u Q I r hw;obtain⟨a,xs,e1,hq,hl,hw⟩:=hw;subst e1;cases r;obtain⟨its,rv,ht,hz⟩:=I.tuple hq;refine assign_Tuple_tuple (I.ok.hd hc) ht (by simp[hn,<-hl,rv.length]) hst λh' hx=>?_;have I1:Inv X pins σ H {s with heap:=h'}:=I.kept (t':=s.toks) λb o e=>hx b o (Nat.ne_of_lt (Heap.lt_size e)) e;exact h pins _ σ H xs _ Q I1 (by simpa using rv) hw
def gSub(to ti:TE)(t:TSet):TG:=λv σ H Q=>to σ H λo H1=>ti σ H1 λi H2=>t o i v H2 λH3=>Q σ H3
theorem Tv{o i:Expr}{to ti:TE}{t:TSet}(ho:PE X o to)(hi:PE X i ti)(hs:PSet X t)
  (ha:∀v,assign (.Subscript o i pos) X.env v=(do
   let ov <-fB [v] (eval o X.env)
   let iv <-fB [v,ov] (eval i X.env)
   g7 pos
   fB [v,ov,iv] (setItem ov iv v)
   release [v,ov,iv] []):=by intro _;rfl):PG X (.Subscript o i pos) (gSub to ti t):=by
 intro pins s σ H v u Q I r h
 rw[ha]
 refine aa (aX (thn (ho pins s σ H _ I h) λov s1 hZ=>?_));obtain⟨x,H1,I1,r1,q1⟩:=hZ
 refine aa (aX (thn (hi pins s1 σ H1 _ I1 q1) λiv s2 hZ=>?_));obtain⟨y,H2,I2,r2,q2⟩:=hZ
 refine aa (h_ (aa (aX (thn (hs pins s2 σ H2 x y v ov iv u _ I2 r1 r2 r q2) λ_ s3⟨H3,I3,q3⟩=>?_))))
 exact wpAny_release ⟨σ,H3,I3,q3⟩
def tAsg(te:TE)(g:TG):TS:=λD σ H=>te σ H λx H1=>g x σ H1 D.nx
theorem Mt{tg e:Expr}{te:TE}{g:TG}(he:PE X e te)(hg:PG X tg g)(hs:swapsWithSole [tg] e pos.line X.env=pure false:=by rfl)(hw:swappedStores [tg] e X.env=pure none:=by rfl)(h1:(cJ [tg] X.env).map (·.2)=[assign tg X.env]:=by rfl):PS X (.Assign [tg] e pos) (tAsg te g):=by intro pins s σ H D I h;refine wpAny_Assign_stores (thn (he pins s σ H _ I h) λv s1 hZ=>?_) hs hw;obtain⟨x,H1,I1,r1,q1⟩:=hZ;rw[h1];exact thn (hg pins s1 σ H1 x v _ I1 r1 q1) λ_ s2 q=>q
theorem YA{i:Nat}{x:Str}{e:Expr}{te:TE}{pos':Pos}(hN:X.N.Nodup)(hi:X.N[i]?=some x)(hx:Loc X.env.scope x)(he:PE X e te)(hs:f7 e (some (.Name x pos')) pos.line X.env=pure false:=by rfl)(hf:X.fn x=true\/X.env.scope.names.lookup x=some .local:=by first|exact .inl rfl|exact .inr rfl|assumption):PS X (.Assign [.Name x pos'] e pos) (tAsg te (Zq i)):=by intro pins s σ H D I h;refine wpAny_Assign_Name (thn (he pins s σ H _ I h) λv s1 hZ=>?_) hs;obtain⟨y,H1,I1,r1,q1⟩:=hZ;exact M8 I1 hN hi hx r1 (λs2 I2=>⟨_,H1,I2,q1⟩) hf
def Su(c:TT)(tb:TS):TS:=λD σ H=>∃W:Nat->St->Hp->Prop,(∃m,W m σ H)/\∀m σ H,W m σ H ->c σ H λb H1=>if b=true then ∃N:St->Hp->Prop,(∀σ' H',N σ' H'->∃m',m'<m/\W m' σ' H')/\tb {D with nx:=N,ct:=N,bk:=D.nx} σ H1 else D.nx σ H1
theorem To{c:Expr}{body:List Stmt}{tc:TT}{tb:TS}(hp:PassesOwn (model X.prog X.w) X.A X.env X.xe)(hc:PT X c tc)(hb:PSs X body tb):PS X (.While c body [] pos) (Su tc tb):=by
 intro pins s σ H D I h;obtain⟨W,⟨m0,w0⟩,turn⟩:=h;refine wpAny_While (codeAny_whileLoop (λn s'=>∃σ' H',Inv X pins σ' H' s'/\W n σ' H') ?_ m0 ⟨σ,H,I,w0⟩);rintro n s1 ⟨σ1,H1,I1,w1⟩;refine dC hp (thn (hc pins s1 σ1 H1 _ I1 (turn n σ1 H1 w1)) λb s2⟨H2,I2,q2⟩=>?_);cases b with
|true=>
  obtain⟨N,hN,q2⟩:=q2;rw[if_pos rfl];refine dC hp (thn (hb pins s2 σ1 H2 _ I2 q2) λf s3 q3=>?_);cases f with
 |next=>obtain⟨σ3,H3,I3,n3⟩:=q3;obtain⟨m',hm,w3⟩:=hN σ3 H3 n3;exact⟨m',hm,σ3,H3,I3,w3⟩
 |cont=>obtain⟨σ3,H3,I3,n3⟩:=q3;obtain⟨m',hm,w3⟩:=hN σ3 H3 n3;exact⟨m',hm,σ3,H3,I3,w3⟩
 |brk=>exact q3
 |ret v=>exact q3
|false=>rw[if_neg Bool.false_ne_true];exact gA ⟨σ1,H2,I2,q2⟩
end
structure It where
 go:Nat->Hp->Prop
 yld:Nat->Hp->V->Hp->Prop
 stop:Nat->Hp->Prop
def FpOk(X:Cx)(pins:List (Addr×Obj))(H:Hp)(b:Addr):Prop:=H b=none/\b≠X.env.locals/\b∉X.fs/\(b∈X.ex\/X.s₀.heap.objs.size<=b)/\(∀x c,X.env.cells.lookup x=some c->c≠b)/\∀p∈X.pn++pins,p.1≠b
theorem Inv.fpOk{X:Cx}{pins:List (Addr×Obj)}{σ:St}{H H':Hp}{s:ah}{b:Addr}(I:Inv X pins σ H s)(hb:s.heap.objs.size<=b)(hn:H' b=none):FpOk X pins H' b:=by
 refine⟨hn,Nat.ne_of_gt (Nat.lt_of_lt_of_le I.lt hb),I.nofs hb,.inr (Nat.le_trans I.sz hb),λx c e z=>?_,λp hp z=>?_⟩
 ·obtain⟨v,q⟩:=I.cell x c e;exact absurd (Nat.lt_of_lt_of_le q.lt (by rw[z];exact hb)) (Nat.lt_irrefl _)
 ·exact absurd (Nat.lt_of_lt_of_le (Heap.lt_size (I.pin p hp).1) (by rw[z];exact hb)) (Nat.lt_irrefl _)
structure Turn(P:Program)(w:World)(K:ae)(tg:Expr)(J:It)(fp:List Addr)(it:Addr)(tn:Nat->Heap->Prop):Prop where
 mem:it∈fp
 obj:∀i h,tn i h->∀b∈fp,∃o,h.get? b=some o/\∀v,o.data≠.cell v
 keep:∀i h h',tn i h->(∀b∈fp,∀o,h.get? b=some o->h'.get? b=some o)->tn i h'
 item:∀(X:Cx),X.prog=P->X.w=w->X.K=K->X.calm=true->∀(i:Nat)(pins:List (Addr×Obj))(s:ah)(σ:St)(H:Hp)(E:Value->ah->Prop),Inv X pins σ H s->(∀b∈fp,FpOk X pins H b)->tn i s.heap->J.go i H ->
  wpAny (model P w) X.A (gU (.ref it)) (λr s1=>∃u,r=some u /\
   wpAny (model P w) X.A (gC tg (.ref it) u) (λ_ s2=>∃x H',Inv X pins σ H' s2/\RelV x u/\J.yld i H x H'/\tn (i+1) s2.heap/\∀b∈fp,H' b=none) E s1) E s
 done:∀(X:Cx),X.prog=P->X.w=w->X.K=K->X.calm=true->∀(i:Nat)(pins:List (Addr×Obj))(s:ah)(σ:St)(H:Hp)(E:Value->ah->Prop),Inv X pins σ H s->(∀b∈fp,FpOk X pins H b)->tn i s.heap->J.stop i H ->
  wpAny (model P w) X.A (gU (.ref it)) (λr s1=>r=none/\Inv X pins σ H s1) E s
 self:∀(A:br)(i:Nat)(s:ah)(Q:Value->ah->Prop)(E:Value->ah->Prop),tn i s.heap->Q (.ref it) s->wpAny (model P w) A (pyIter (.ref it)) Q E s
noncomputable abbrev TI:=St->Hp->(It->Hp->Prop)->Prop
def PIE(X:Cx)(pins:List (Addr×Obj))(σ:St)(tg:Expr)(R:It->Hp->Prop)(itv:Value)(s2:ah):Prop:=∃(it:Addr)(fp:List Addr)(tn:Nat->Heap->Prop)(J:It)(H':Hp),itv=.ref it/\Inv X pins σ H' s2/\Turn X.prog X.w X.K tg J fp it tn/\tn 0 s2.heap/\(∀b∈fp,FpOk X pins H' b)/\R J H'
def PI(X:Cx)(tg iter:Expr)(wi:TI):Prop:=∀(pins:List (Addr×Obj))(s:ah)(σ:St)(H:Hp)(R:It->Hp->Prop),Inv X pins σ H s->wi σ H R ->wpAny (model X.prog X.w) X.A (eval iter X.env) (λv s1=>wpAny (model X.prog X.w) X.A (pyIter v) (PIE X pins σ tg R) X.xe s1) X.xe s
theorem G0{M:Model}{A:br}{E:Value->ah->Prop}{s:ah}{tg:Expr}{it:Addr}{u:Value}{o:Obj}{n:String}{vs:Array Value}{Q:Unit->ah->Prop}(ho:s.heap.get? it=some o)(hc:o.cls=.type n)(hd:o.data=.fields vs)(hn:["enumerate","zip","dict_itemiterator","dict_reverseitemiterator","odict_iterator","itertools.zip_longest","itertools.pairwise"].contains n=false)(hQ:Q () s):wpAny M A (gC tg (.ref it) u) Q E s:=by
 unfold gC;cases tg<;>first
 |exact af hQ
 |(cases u<;>first
   |exact af hQ
   |(refine aa (wpAny_load ho ?_);rw[hc,hd];show wpAny M A (if(["enumerate","zip","dict_itemiterator","dict_reverseitemiterator","odict_iterator","itertools.zip_longest","itertools.pairwise"].contains n&&vs[0]?==some (bX _))=true then _ else _) Q E s;rw[if_neg (by intro h;rw[hn,Bool.false_and]at h;cases h)];exact af hQ))
noncomputable def Itl(K:ae)(a:Addr):It:=⟨λi H=>∃xs x,SqL K H a xs/\xs[i]?=some x,λi H x H'=>H'=H/\∀xs,SqL K H a xs->xs[i]?=some x,λi H=>∃xs,SqL K H a xs/\xs.length<=i⟩
noncomputable def Itr(lo:Int)(n:Nat):It:=⟨λi _=>i<n,λi H x H'=>H'=H/\x=.int (lo+i),λi _=>n<=i⟩
theorem Q8{P:Program}{w:World}{K:ae}{tg:Expr}(a it:Addr):Turn P w K tg (Itl K a) [it] it (λi h=>h.IsListIter it a i) where
 mem:=by simp
 obj:=λi h st b hb=>by
  have e:b=it:=by simpa using hb
  subst e
  obtain⟨o,e,c,d⟩:=st
  exact⟨o,e,λv z=>by rw[d]at z;cases z⟩
 keep:=λi h h' st k=>st.at λo e=>k it (by simp) o e
 item:=by
  intro X hP hw hK hc i pins s σ H E I hf st hg
  subst hP hw hK
  obtain⟨xs,x,hq,hx⟩:=hg
  obtain⟨its,rv,p,hz⟩:=I.list hq
  obtain⟨u,hu,ru⟩:=rv.get hx
  obtain⟨f0,f1,f2,f3,f4,f5⟩:=hf it (by simp)
  refine wpAny_pyNext_list_item st p.isList (x:=u) (by simpa using hu) λh' st' sb=>?_
  have I1:Inv X pins σ H {s with heap:=h'}:=I.turned (t':=s.toks) (λb o hb e=>(sb.2 b hb).trans e) f0 f1 f3 f4 f5
  obtain⟨o,e,c,d⟩:=id st'
  exact⟨u,rfl,G0 (s:={s with heap:=h'}) e c d (by decide) ⟨x,H,I1,ru,⟨rfl,λys hy=>by rw[I.list_inj hy hq];exact hx⟩,st',λb hb=>(hf b hb).1⟩⟩
 done:=by
  intro X hP hw hK hc i pins s σ H E I hf st hg
  subst hP hw hK
  obtain⟨xs,hq,hx⟩:=hg
  obtain⟨its,rv,p,hz⟩:=I.list hq
  obtain⟨f0,f1,f2,f3,f4,f5⟩:=hf it (by simp)
  have hl:=rv.length
  exact wpAny_pyNext_list_end (I.ok.hd hc) st p.isList (by simp;omega) λh' eb=>⟨rfl,I.turned (t':=s.toks) (λb o hb e=>eb b o hb e) f0 f1 f3 f4 f5⟩
 self:=λ_ _ _ _ _ st h=>wpAny_pyIter_listiter st h
theorem N5{P:Program}{w:World}{K:ae}{tg:Expr}(it:Addr)(lo:Int)(n:Nat):Turn P w K tg (Itr lo n) [it] it (λi h=>IsRangeIter h it (lo+(i:Nat)*1) ((n:Int)-(i:Nat)) 1) where
 mem:=by simp
 obj:=λi h st b hb=>by
  have e:b=it:=by simpa using hb
  subst e
  exact⟨_,st,λv z=>by
   have z':Data.fields _=Data.cell v:=z
   cases z'⟩
 keep:=λi h h' st k=>k it (by simp) _ st
 item:=by
  intro X hP hw hK hc i pins s σ H E I hf st hg
  subst hP hw hK
  obtain⟨f0,f1,f2,f3,f4,f5⟩:=hf it (by simp)
  have W:=Walks.range (prog:=X.prog) (w:=X.w) (I.ok.hd hc) it lo 1 n
  refine W.item i s _ _ hg st λv h' tk hv st' kk=>?_
  obtain⟨t,rfl⟩:=hv
  have I1:Inv X pins σ H {s with heap:=h',toks:=tk}:=I.turned (λb o hb e=>kk b o (by simpa using hb) e) f0 f1 f3 f4 f5
  refine⟨_,rfl,G0 (s:={s with heap:=h',toks:=tk}) (n:="range_iterator") st' rfl rfl (by decide) ⟨.int (lo+i),H,I1,⟨t,?_⟩,⟨rfl,rfl⟩,st',λb hb=>(hf b hb).1⟩⟩
  rw[Int.mul_one]
 done:=by
  intro X hP hw hK hc i pins s σ H E I hf st hg
  subst hP hw hK
  obtain⟨f0,f1,f2,f3,f4,f5⟩:=hf it (by simp)
  exact wpAny_pyNext_range_end (I.ok.hd hc) st (by have:n<=i:=hg;omega) λh' eb=>⟨rfl,I.turned (t':=s.toks) (λb o hb e=>eb b o hb e) f0 f1 f3 f4 f5⟩
 self:=λ_ _ _ _ _ st h=>wpAny_pyIter_rangeiter st h
open PySem PySem.Spec PyProof.Rows
section
variable {X:Cx}{tg:Expr}
noncomputable def Et(K:ae)(tl:TE):TI:=λσ H R=>tl σ H λx H1=>∃a,x=.ref a/\(∃xs,SqL K H1 a xs)/\R (Itl K a) H1
theorem Z6{l:Expr}{tl:TE}(hl:PE X l tl):PI X tg l (Et X.K tl):=by
 intro pins s σ H R I h;refine thn (hl pins s σ H _ I h) λv s1 hZ=>?_;obtain⟨x,H1,I1,r1,q1⟩:=hZ;obtain⟨a,e,⟨xs,hq⟩,q⟩:=q1;subst e;cases r1;obtain⟨its,rv,p,hz⟩:=I1.list hq;refine wpAny_pyIter_list p.isList ?_;refine⟨s1.heap.objs.size,[s1.heap.objs.size],_,_,H1,rfl,I1.kept (t':=s1.toks) λb o e=>Heap.get?_push_of_some _ e,Q8 a _,⟨_,Heap.get?_push_size _ rfl,rfl,rfl⟩,λb hb=>?_,q⟩;have e:b=s1.heap.objs.size:=by simpa using hb
 subst e;exact I1.fpOk (Nat.le_refl _) (I1.hok.fresh (Nat.le_refl _))
theorem Nh{pins:List (Addr×Obj)}{σ:St}{H:Hp}{s:ah}{R:It->Hp->Prop}{E:Value->ah->Prop}{lo hi:Int}{t u v:Tok}{tk:Nat}(I:Inv X pins σ H s)(h1:-(2 ^ 62)<=lo)(h2:lo<2 ^ 62)(h3:-(2 ^ 62)<=hi)(h4:hi<2 ^ 62)(q:R (Itr lo (hi-lo).toNat) H):wpAny (model X.prog X.w) X.A (pyIter (.ref s.heap.objs.size)) (PIE X pins σ tg R) E {s with heap:=s.heap.push {cls:=.type "range",data:=.fields #[.int lo t,.int hi u,.int 1 v]},toks:=tk}:=by
 refine wpAny_pyIter_range (IsRange.new ..) (small_one h1 h2 h3 h4) ?_;have I1:Inv X pins σ H {s with heap:=s.heap.push {cls:=.type "range",data:=.fields #[.int lo t,.int hi u,.int 1 v]},toks:=tk}:=I.kept λb o e=>Heap.get?_push_of_some _ e;refine⟨(s.heap.push {cls:=.type "range",data:=.fields #[.int lo t,.int hi u,.int 1 v]}).objs.size,[(s.heap.push {cls:=.type "range",data:=.fields #[.int lo t,.int hi u,.int 1 v]}).objs.size],_,_,H,rfl,I1.kept (t':=tk) λb o e=>Heap.get?_push_of_some _ e,N5 _ lo (hi-lo).toNat,?_,λb hb=>?_,q⟩
 ·have e1:lo+((0:Nat):Int)*1=lo:=by simp
  have e2:(((hi-lo).toNat:Nat):Int)-((0:Nat):Int)=dH lo hi 1:=by rw[rangeSize_one];split<;>omega
  show IsRangeIter _ _ (lo+((0:Nat):Int)*1) ((((hi-lo).toNat:Nat):Int)-((0:Nat):Int)) 1;rw[e1,e2];exact Heap.get?_push_size _ rfl
 ·have e:b=(s.heap.push {cls:=.type "range",data:=.fields #[.int lo t,.int hi u,.int 1 v]}).objs.size:=by simpa using hb
  subst e;exact I1.fpOk (Nat.le_refl _) (I1.hok.fresh (Nat.le_refl _))
noncomputable def Es(ta:TA):TI:=λσ H R=>ta σ H λvs H1=>∃j:Int,vs=[.int j]/\-(2 ^ 62)<=j/\j<2 ^ 62/\R (Itr 0 j.toNat) H1
noncomputable def Er(ta:TA):TI:=λσ H R=>ta σ H λvs H1=>∃i j:Int,vs=[.int i,.int j]/\(-(2 ^ 62)<=i/\i<2 ^ 62/\-(2 ^ 62)<=j/\j<2 ^ 62)/\R (Itr i (j-i).toNat) H1
theorem YY{a:Expr}{ta:TA}{p pos:Pos}(hg:Gl X "range")(hm:X.mg "range"=none)(ha:PA X [a] ta)(hs:az [a] X.env=[(false,eval a X.env)]:=by rfl):PI X tg (.Call (.Name "range" p) [a] [] pos) (Es ta):=by
 intro pins s σ H R I h;refine Call_ (Xp I hg hm boot_range (bc (thn (ha pos pins s σ H _ I h) λus s1 hZ=>?_) hs rfl));obtain⟨vs,H1,I1,r1,q1⟩:=hZ;obtain⟨j,e,q1,q2,q⟩:=q1;subst e;cases r1 with
|cons r rr=>cases rr;obtain⟨t,rfl⟩:=r;exact call_range_1 (Nh I1 (by omega) (by omega) q1 q2 (by simpa using q))
theorem Rk{a b:Expr}{ta:TA}{p pos:Pos}(hg:Gl X "range")(hm:X.mg "range"=none)(ha:PA X [a,b] ta)(hs:az [a,b] X.env=[(false,eval a X.env),(false,eval b X.env)]:=by rfl)(hs2:az [b] X.env=[(false,eval b X.env)]:=by rfl):PI X tg (.Call (.Name "range" p) [a,b] [] pos) (Er ta):=by
 intro pins s σ H R I h;refine Call_ (Xp I hg hm boot_range (bc (thn (ha pos pins s σ H _ I h) λus s1⟨vs,H1,I1,r1,q1⟩=>?_) (by rw[hs,hs2]) (by rw[hs2];rfl)));obtain⟨i,j,e,⟨q1,q2,q3,q4⟩,q⟩:=q1;subst e;cases r1 with
|cons r rr=>
  cases rr with
 |cons r' rr=>cases rr;obtain⟨t,rfl⟩:=r;obtain⟨t',rfl⟩:=r';exact call_range_2 (Nh I1 q1 q2 q3 q4 q)
def tFor(wi:TI)(g:TG)(tb:TS):TS:=λD σ H=>wi σ H λJ H1=>∃W:Nat->Nat->St->Hp->Prop,(∃m,W 0 m σ H1)/\∀i m σ H,W i m σ H ->(J.stop i H/\D.nx σ H)\/(J.go i H/\∃N:St->Hp->Prop,(∀σ' H',N σ' H'->∃m',m'<m/\W (i+1) m' σ' H')/\∀x H',J.yld i H x H'->g x σ H' λσ2 H2=>tb {D with nx:=N,ct:=N,bk:=D.nx} σ2 H2)
noncomputable def UZ(fp:List Addr)(h:Heap):List (Addr×Obj):=fp.filterMap λb=>(h.get? b).map λo=>(b,o)
theorem mem_pinsAt{fp:List Addr}{h:Heap}{b:Addr}{o:Obj}(hb:b∈fp)(e:h.get? b=some o):(b,o)∈UZ fp h:=gS.mpr ⟨b,hb,by rw[e];rfl⟩
theorem Ro{fp:List Addr}{h:Heap}{p:Addr×Obj}(hp:p∈UZ fp h):p.1∈fp/\h.get? p.1=some p.2:=by
 obtain⟨b,hb,e⟩:=gS.mp hp;cases q:h.get? b with
|none=>rw[q]at e;cases e
|some o=>rw[q]at e;have e':(b,o)=p:=aB e;subst e';exact⟨hb,q⟩
theorem Inv.pinned{pins:List (Addr×Obj)}{σ:St}{H:Hp}{s:ah}{fp:List Addr}(I:Inv X pins σ H s)(hf:∀b∈fp,FpOk X pins H b)(ho:∀b∈fp,∃o,s.heap.get? b=some o/\∀v,o.data≠.cell v):Inv X (pins++UZ fp s.heap) σ H s:=I.pins_of λp hp=>(aK.mp hp).elim (λz=>I.pin p (ba _ z)) λz=>by obtain⟨hb,e⟩:=Ro z;obtain⟨f0,f1,f2,_⟩:=hf p.1 hb;obtain⟨o,e',d⟩:=ho p.1 hb;rw[e]at e';cases e';exact⟨e,f0,f1,f2,d⟩
theorem Inv.unpinned{pins pl:List (Addr×Obj)}{σ:St}{H:Hp}{s:ah}(I:Inv X (pins++pl) σ H s):Inv X pins σ H s:=I.pins_of λp hp=>I.pin p (ba _ (bI _ hp))
theorem ZW{iter:Expr}{body:List Stmt}{wi:TI}{g:TG}{tb:TS}{pos:Pos}(hp:PassesOwn (model X.prog X.w) X.A X.env X.xe)(hc:X.calm=true)(hi:PI X tg iter wi)(hg:PG X tg g)(hb:PSs X body tb)(hs:∀x,fT iter X.env x=pure x:=by intro _;rfl):PS X (.For tg iter body [] pos) (tFor wi g tb):=by
 intro pins s σ H D I h;refine wpAny_For (thn (hi pins s σ H _ I h) λv s1 h1=>thn h1 λitv s2 h2=>?_) hs;obtain⟨it,fp,tn,J,H2,e,I2,T,st2,f2,W,⟨m0,w0⟩,turn⟩:=h2;subst e;have stat:∀{H':Hp},(∀b∈fp,H' b=none)->∀b∈fp,FpOk X pins H' b:=λhn b hb=>⟨hn b hb,(f2 b hb).2⟩;refine codeAny_forLoop_any (λn s'=>∃i σ' H',Inv X pins σ' H' s'/\tn i s'.heap/\(∀b∈fp,H' b=none)/\W i n σ' H') ?_ m0 ⟨0,σ,H2,I2,st2,λb hb=>(f2 b hb).1,w0⟩;rintro n s3 ⟨i,σ3,H3,I3,st3,fr3,w3⟩;rcases turn i n σ3 H3 w3 with⟨stop,qn⟩|⟨go,N,hN,step⟩
 ·refine dC hp (thn (T.done X rfl rfl rfl hc i pins s3 σ3 H3 X.xe I3 (stat fr3) st3 stop) λr s4⟨hr,I4⟩=>?_);subst hr;exact gA ⟨σ3,H3,I4,qn⟩
 ·refine dC hp (thn (T.item X rfl rfl rfl hc i pins s3 σ3 H3 X.xe I3 (stat fr3) st3 go) λr s4⟨u,hr,h4⟩=>?_);subst hr;refine dC hp (thn h4 λ_ s5 hZ=>?_);obtain⟨x,H5,I5,r5,y5,st5,fr5⟩:=hZ;have I5':=I5.pinned (stat fr5) (T.obj _ _ st5);refine dC hp (thn (hg _ s5 σ3 H5 x u _ I5' r5 (step x H5 y5)) λ_ s6 hZ=>?_);obtain⟨σ6,H6,I6,q6⟩:=hZ;refine dC hp (thn (hb _ s6 σ6 H6 _ I6 q6) λf s7 q7=>?_);have again:∀{σ7:St}{H7:Hp},Inv X (pins++UZ fp s5.heap) σ7 H7 s7->N σ7 H7->∃m,m<n/\∃i σ' H',Inv X pins σ' H' s7/\tn i s7.heap/\(∀b∈fp,H' b=none)/\W i m σ' H':=λ{σ7 H7}I7 n7=>by obtain⟨m',hm,w7⟩:=hN σ7 H7 n7;refine⟨m',hm,i+1,σ7,H7,I7.unpinned,T.keep _ _ _ st5 λb hb o e=>(I7.pin (b,o) (ba _ (ba _ (mem_pinsAt hb e)))).1,λb hb=>?_,w7⟩;obtain⟨o,e,d⟩:=T.obj _ _ st5 b hb;exact(I7.pin (b,o) (ba _ (ba _ (mem_pinsAt hb e)))).2.1
  cases f with
 |next=>obtain⟨σ7,H7,I7,n7⟩:=q7;exact again I7 n7
 |cont=>obtain⟨σ7,H7,I7,n7⟩:=q7;exact again I7 n7
 |brk=>obtain⟨σ7,H7,I7,q7⟩:=q7;exact⟨σ7,H7,I7.unpinned,q7⟩
 |ret v=>obtain⟨x7,σ7,H7,I7,r7,q7⟩:=q7;exact⟨x7,σ7,H7,I7.unpinned,r7,q7⟩
end
theorem V1{lo:Int}{n:Nat}{g:TG}{tb:TS}{D:Ends}{σ:St}{H:Hp}(Pv:Nat->St->Hp->Prop)(h0:Pv 0 σ H)(hs:∀i σ H,i<n->Pv i σ H->g (.int (lo+i)) σ H λσ2 H2=>tb {D with nx:=Pv (i+1),ct:=Pv (i+1),bk:=D.nx} σ2 H2)(hd:∀σ H,Pv n σ H->D.nx σ H):∃W:Nat->Nat->St->Hp->Prop,(∃m,W 0 m σ H)/\∀i m σ H,W i m σ H ->((Itr lo n).stop i H/\D.nx σ H)\/((Itr lo n).go i H/\∃N:St->Hp->Prop,(∀σ' H',N σ' H'->∃m',m'<m/\W (i+1) m' σ' H')/\∀x H',(Itr lo n).yld i H x H'->g x σ H' λσ2 H2=>tb {D with nx:=N,ct:=N,bk:=D.nx} σ2 H2):=by
 refine⟨λi m σ H=>m=n-i/\i<=n/\Pv i σ H,⟨n,by simp,Nat.zero_le _,h0⟩,?_⟩;rintro i m σ H ⟨rfl,hi,p⟩;by_cases hlt:i<n
 ·refine .inr ⟨hlt,Pv (i+1),λσ' H' p'=>⟨n-(i+1),by omega,rfl,hlt,p'⟩,λx H' y=>?_⟩;obtain⟨e,y⟩:=y;subst e y;exact hs i σ _ hlt p
 ·have e:i=n:=by omega
  subst e;exact .inl ⟨Nat.le_refl _,hd σ H p⟩
theorem Sl{c:TT}{tb:TS}{D:Ends}{σ:St}{H:Hp}(Pv:St->Hp->Prop)(μ:St->Hp->Nat)(h0:Pv σ H)(hs:∀σ H,Pv σ H->c σ H λb H1=>if b=true then tb {D with nx:=λσ' H'=>Pv σ' H'/\μ σ' H'<μ σ H,ct:=λσ' H'=>Pv σ' H'/\μ σ' H'<μ σ H,bk:=D.nx} σ H1 else D.nx σ H1)(mono:∀σ H Q Q',(∀b H1,Q b H1->Q' b H1)->c σ H Q->c σ H Q'):Su c tb D σ H:=by
 refine⟨λm σ H=>m=μ σ H/\Pv σ H,⟨_,rfl,h0⟩,?_⟩;rintro m σ H ⟨rfl,p⟩;refine mono σ H _ _ (λb H1 q=>?_) (hs σ H p);cases b with
|true=>exact⟨_,λσ' H'⟨p',l⟩=>⟨_,l,rfl,p'⟩,q⟩
|false=>exact q
open PySem PySem.Spec PyProof.Rows
noncomputable abbrev R2:=V->V->Hp->VK->Prop
def OpR(X:Cx)(f:Value->Value->Sem Value)(r:R2):Prop:=∀(pins:List (Addr×Obj))(s:ah)(σ:St)(H:Hp)(x y:V)(v u:Value)(Q:VK),Inv X pins σ H s->RelV x v->RelV y u->r x y H Q ->wpAny (model X.prog X.w) X.A (f v u) (EP X pins σ Q) X.xe s
def UnR(X:Cx)(f:Value->Sem Value)(r:V->Hp->VK->Prop):Prop:=∀(pins:List (Addr×Obj))(s:ah)(σ:St)(H:Hp)(x:V)(v:Value)(Q:VK),Inv X pins σ H s->RelV x v->r x H Q ->wpAny (model X.prog X.w) X.A (f v) (EP X pins σ Q) X.xe s
def Xx(X:Cx)(f:Value)(r:List V->Hp->VK->Prop):Prop:=∀(pins:List (Addr×Obj))(s:ah)(σ:St)(H:Hp)(xs:List V)(us:List Value)(Q:VK),Inv X pins σ H s->Vals xs us->r xs H Q ->wpAny (model X.prog X.w) X.A (call f us) (EP X pins σ Q) X.xe s
def TruR(X:Cx)(r:V->Hp->(Bool->Hp->Prop)->Prop):Prop:=∀(pins:List (Addr×Obj))(s:ah)(σ:St)(H:Hp)(x:V)(v:Value)(Q:Bool->Hp->Prop),Inv X pins σ H s->RelV x v->r x H Q ->wpAny (model X.prog X.w) X.A (truthy v) (TP X pins σ Q) X.xe s
def tOp(r:R2)(ta tb:TE):TE:=λσ H Q=>ta σ H λx H1=>tb σ H1 λy H2=>r x y H2 Q
def tUn(r:V->Hp->VK->Prop)(ta:TE):TE:=λσ H Q=>ta σ H λx H1=>r x H1 Q
def rI(C:Int->Int->Prop)(g:Int->Int->V):R2:=λx y H Q=>∃i j,x=.int i/\y=.int j/\C i j/\Q (g i j) H
def rI0(g:Int->Int->V):R2:=λx y H Q=>∃i j,x=.int i/\y=.int j/\Q (g i j) H
noncomputable def rU(g:Int->V):V->Hp->VK->Prop:=λx H Q=>∃i,x=.int i/\Q (g i) H
section
variable {X:Cx}{a b c:Expr}{ta tb tc:TE}{pos:Pos}
theorem binT(ha:PE X a ta)(hb:PE X b tb){pins:List (Addr×Obj)}{s:ah}{σ:St}{H:Hp}{R:V->V->Hp->Prop}(I:Inv X pins σ H s)(h:ta σ H λx H1=>tb σ H1 λy H2=>R x y H2){Q:Value->ah->Prop}{f:Value->Value->Sem Value}(hf:∀v u s2 x y H2,Inv X pins σ H2 s2->RelV x v->RelV y u->R x y H2->wpAny (model X.prog X.w) X.A (f v u) Q X.xe s2):wpAny (model X.prog X.w) X.A (eval a X.env) (λv s₁=>wpAny (model X.prog X.w) X.A (eval b X.env) (λu s₂=>wpAny (model X.prog X.w) X.A (f v u) Q X.xe s₂) X.xe s₁) X.xe s:=by refine thn (ha pins s σ H _ I h) λv s1 hZ=>?_;obtain⟨x,H1,I1,r1,q1⟩:=hZ;refine thn (hb pins s1 σ H1 _ I1 q1) λu s2 hZ=>?_;obtain⟨y,H2,I2,r2,q2⟩:=hZ;exact hf v u s2 x y H2 I2 r1 r2 q2
theorem Zt{op:Operator}{r:R2}(ho:OpR X (d5 op) r)(ha:PE X a ta)(hb:PE X b tb):PE X (.BinOp a op b pos) (tOp r ta tb):=by intro pins s σ H Q I h;exact wpAny_BinOp (binT ha hb I h λv u s2 x y H2 I2 rx ry q=>ho pins s2 σ H2 x y v u Q I2 rx ry q)
theorem QF{op:UnaryOp}{r:V->Hp->VK->Prop}(ho:UnR X (unaryOp op) r)(ha:PE X a ta):PE X (.UnaryOp op a pos) (tUn r ta):=by intro pins s σ H Q I h;exact UnaryOp_ (thn (ha pins s σ H _ I h) λv s1⟨x,H1,I1,r1,q1⟩=>ho pins s1 σ H1 x v Q I1 r1 q1)
theorem opI{f:Value->Value->Sem Value}{C:Int->Int->Prop}{g:Int->Int->Int}(rule:∀(i j:Int)(t u:Tok)(s:ah)(Q:Value->ah->Prop)(E:Value->ah->Prop),C i j->Q (.int (g i j) s.toks) {s with toks:=s.toks+1}->wpAny (model X.prog X.w) X.A (f (.int i t) (.int j u)) Q E s):OpR X f (rI C λi j=>.int (g i j)):=by intro pins s σ H x y v u Q I rx ry h;obtain⟨i,j,rfl,rfl,hc,q⟩:=h;obtain⟨t,rfl⟩:=rx;obtain⟨t',rfl⟩:=ry;exact rule i j t t' s _ _ hc ⟨.int (g i j),H,I.tok _,⟨_,rfl⟩,q⟩
theorem opI0{f:Value->Value->Sem Value}{g:Int->Int->Int}(rule:∀(i j:Int)(t u:Tok)(s:ah)(Q:Value->ah->Prop)(E:Value->ah->Prop),Q (.int (g i j) s.toks) {s with toks:=s.toks+1}->wpAny (model X.prog X.w) X.A (f (.int i t) (.int j u)) Q E s):OpR X f (rI0 λi j=>.int (g i j)):=by intro pins s σ H x y v u Q I rx ry h;obtain⟨i,j,rfl,rfl,q⟩:=h;obtain⟨t,rfl⟩:=rx;obtain⟨t',rfl⟩:=ry;exact rule i j t t' s _ _ ⟨.int (g i j),H,I.tok _,⟨_,rfl⟩,q⟩
theorem opB0{f:Value->Value->Sem Value}{g:Int->Int->Bool}(rule:∀(i j:Int)(t u:Tok)(s:ah)(Q:Value->ah->Prop)(E:Value->ah->Prop),Q (.bool (g i j)) s->wpAny (model X.prog X.w) X.A (f (.int i t) (.int j u)) Q E s):OpR X f (rI0 λi j=>.bl (g i j)):=by intro pins s σ H x y v u Q I rx ry h;obtain⟨i,j,rfl,rfl,q⟩:=h;obtain⟨t,rfl⟩:=rx;obtain⟨t',rfl⟩:=ry;exact rule i j t t' s _ _ ⟨.bl (g i j),H,I,rfl,q⟩
def CDiv(i j:Int):Prop:=0<j/\j<1073741824
def CPow(i j:Int):Prop:=0<=j/\j<=1000000/\i.natAbs<2 ^ 64
def CMul(i j:Int):Prop:=(-(2 ^ 64)<i/\i<2 ^ 64)\/(-(2 ^ 64)<j/\j<2 ^ 64)
theorem CMul.ok{i j:Int}(h:CMul i j):IntMulOk i j:=by
 rcases h with⟨h1,h2⟩|⟨h1,h2⟩
 ·exact .of_left (intBits_le_64 h1 h2)
 ·exact .of_right (intBits_le_64 h1 h2)
theorem ZQ:OpR X (d5 .Add) (rI0 λi j=>.int (i+j)):=opI0 λ_ _ _ _ _ _ _ q=>add_int q
theorem Xe:OpR X (d5 .Sub) (rI0 λi j=>.int (i-j)):=opI0 λ_ _ _ _ _ _ _ q=>sub_int q
theorem Xf:OpR X (d5 .Mult) (rI CMul λi j=>.int (i*j)):=opI λ_ _ _ _ _ _ _ hc q=>mul_int q hc.ok
theorem QM:OpR X (d5 .FloorDiv) (rI CDiv λi j=>.int (i / j)):=opI λi j _ _ _ _ _ hc q=>by have h1:(0:Int)<j:=hc.1;have h2:j<1073741824:=hc.2;exact floordiv_int (by omega) (by rw[Int.fdiv_eq_ediv_of_nonneg i (by omega)];exact q) (.inl (PyProof.noPylong_small (by omega)))
theorem Y0:OpR X (d5 .Mod) (rI (λ_ j=>0<j) λi j=>.int (i % j)):=opI λi j _ _ _ _ _ hc q=>by have h1:(0:Int)<j:=hc;exact mod_int' (by omega) (by rw[Int.fmod_eq_emod_of_nonneg i (by omega)];exact q)
theorem LH:OpR X (d5 .Pow) (rI CPow λi j=>.int (i ^ j.toNat)):=opI λ_ _ _ _ _ _ _ hc q=>pow_int_small hc.1 hc.2.1 hc.2.2 q
theorem unI{f:Value->Sem Value}{g:Int->Int}(rule:∀(i:Int)(t:Tok)(s:ah)(Q:Value->ah->Prop)(E:Value->ah->Prop),Q (.int (g i) s.toks) {s with toks:=s.toks+1}->wpAny (model X.prog X.w) X.A (f (.int i t)) Q E s):UnR X f (rU λi=>.int (g i)):=by intro pins s σ H x v Q I rx h;obtain⟨i,rfl,q⟩:=h;obtain⟨t,rfl⟩:=rx;exact rule i t s _ _ ⟨.int (g i),H,I.tok _,⟨_,rfl⟩,q⟩
theorem Me:UnR X (unaryOp .USub) (rU λi=>.int (-i)):=unI λ_ _ _ _ _ q=>neg_int q
noncomputable def scal:V->V->Bool
|.non,.non=>true|.non,.int _=>true|.int _,.non=>true|.non,.bl _=>true|.bl _,.non=>true|.non,.str _=>true|.str _,.non=>true
|.int _,.int _=>true|.bl _,.bl _=>true|.str _,.str _=>true|.byt _,.byt _=>true
|.int _,.str _=>true|.str _,.int _=>true|.bl _,.str _=>true|.str _,.bl _=>true
|_,_=>false
def rEq:R2:=λx y H Q=>scal x y=true/\Q (.bl (decide (x=y))) H
def rNe:R2:=λx y H Q=>scal x y=true/\Q (.bl (!decide (x=y))) H
theorem QZ{i j:Int}:decide (V.int i=V.int j)=(i==j):=by rw[Bool.eq_iff_iff];simp
theorem Wn{i j:Bool}:decide (V.bl i=V.bl j)=(i==j):=by rw[Bool.eq_iff_iff];simp
theorem QY{i j:Str}:decide (V.str i=V.str j)=(i==j):=by rw[Bool.eq_iff_iff];simp
theorem Q0{i j:Array UInt8}:decide (V.byt i=V.byt j)=(i.toList==j.toList):=by rw[Bool.eq_iff_iff];cases i;cases j;simp
theorem ZN{pins:List (Addr×Obj)}{σ:St}{H:Hp}{s:ah}{Q:VK}{k k':Bool}(I:Inv X pins σ H s)(q:Q (.bl k) H)(e:k=k'):EP X pins σ Q (.bool k') s:=by subst e;exact⟨.bl k,H,I,rfl,q⟩
theorem Ug:OpR X (bA .Eq) rEq:=by
 intro pins s σ H x y v u Q I rx ry h;obtain⟨hs,q⟩:=h;cases x with
|non=>
  cases rx;cases y with
 |non=>cases ry;exact PySem.EqNone.eq_none_none (ZN I q (by simp))
 |bl j=>cases ry;exact PySem.EqNone.eq_none_bool (ZN I q (by simp))
 |int j=>obtain⟨t',rfl⟩:=ry;exact PySem.EqNone.eq_none_int (ZN I q (by simp))
 |str j=>obtain⟨t',rfl⟩:=ry;exact PySem.EqNone.eq_none_str (ZN I q (by simp))
 |_=>exact absurd (show false=true from hs) Bool.false_ne_true
|bl i=>
  cases rx;cases y with
 |non=>cases ry;exact PySem.EqNone.eq_bool_none (ZN I q (by simp))
 |bl j=>cases ry;exact eq_bool (ZN I q Wn)
 |str j=>obtain⟨t',rfl⟩:=ry;exact PySem.EqMixed.eq_bool_str (ZN I q (by simp))
 |_=>exact absurd (show false=true from hs) Bool.false_ne_true
|int i=>
  obtain⟨t,rfl⟩:=rx;cases y with
 |non=>cases ry;exact PySem.EqNone.eq_int_none (ZN I q (by simp))
 |int j=>obtain⟨t',rfl⟩:=ry;exact eq_int (ZN I q QZ)
 |str j=>obtain⟨t',rfl⟩:=ry;exact PySem.EqMixed.eq_int_str (ZN I q (by simp))
 |_=>exact absurd (show false=true from hs) Bool.false_ne_true
|str i=>
  obtain⟨t,rfl⟩:=rx;cases y with
 |non=>cases ry;exact PySem.EqNone.eq_str_none (ZN I q (by simp))
 |bl j=>cases ry;exact PySem.EqMixed.eq_str_bool (ZN I q (by simp))
 |int j=>obtain⟨t',rfl⟩:=ry;exact PySem.EqMixed.eq_str_int (ZN I q (by simp))
 |str j=>obtain⟨t',rfl⟩:=ry;exact eq_str (ZN I q QY)
 |_=>exact absurd (show false=true from hs) Bool.false_ne_true
|byt i=>
  obtain⟨t,rfl⟩:=rx;cases y with
 |byt j=>obtain⟨t',rfl⟩:=ry;exact PySem.W.eq_bytes (ZN I q Q0)
 |_=>exact absurd (show false=true from hs) Bool.false_ne_true
|_=>cases y<;>exact absurd (show false=true from hs) Bool.false_ne_true
theorem U2:OpR X (bA .NotEq) rNe:=by
 intro pins s σ H x y v u Q I rx ry h;obtain⟨hs,q⟩:=h;cases x with
|non=>
  cases rx;cases y with
 |non=>cases ry;exact PySem.EqNone.ne_none_none (ZN I q (by simp))
 |bl j=>cases ry;exact PySem.EqNone.ne_none_bool (ZN I q (by simp))
 |int j=>obtain⟨t',rfl⟩:=ry;exact PySem.EqNone.ne_none_int (ZN I q (by simp))
 |str j=>obtain⟨t',rfl⟩:=ry;exact PySem.EqNone.ne_none_str (ZN I q (by simp))
 |_=>exact absurd (show false=true from hs) Bool.false_ne_true
|bl i=>
  cases rx;cases y with
 |non=>cases ry;exact PySem.EqNone.ne_bool_none (ZN I q (by simp))
 |bl j=>cases ry;exact ne_bool (ZN I q (congrArg not Wn))
 |str j=>obtain⟨t',rfl⟩:=ry;exact PySem.EqMixed.ne_bool_str (ZN I q (by simp))
 |_=>exact absurd (show false=true from hs) Bool.false_ne_true
|int i=>
  obtain⟨t,rfl⟩:=rx;cases y with
 |non=>cases ry;exact PySem.EqNone.ne_int_none (ZN I q (by simp))
 |int j=>obtain⟨t',rfl⟩:=ry;exact ne_int (ZN I q (congrArg not QZ))
 |str j=>obtain⟨t',rfl⟩:=ry;exact PySem.EqMixed.ne_int_str (ZN I q (by simp))
 |_=>exact absurd (show false=true from hs) Bool.false_ne_true
|str i=>
  obtain⟨t,rfl⟩:=rx;cases y with
 |non=>cases ry;exact PySem.EqNone.ne_str_none (ZN I q (by simp))
 |bl j=>cases ry;exact PySem.EqMixed.ne_str_bool (ZN I q (by simp))
 |int j=>obtain⟨t',rfl⟩:=ry;exact PySem.EqMixed.ne_str_int (ZN I q (by simp))
 |str j=>obtain⟨t',rfl⟩:=ry;exact ne_str (ZN I q (congrArg not QY))
 |_=>exact absurd (show false=true from hs) Bool.false_ne_true
|byt i=>
  obtain⟨t,rfl⟩:=rx;cases y with
 |byt j=>obtain⟨t',rfl⟩:=ry;exact PySem.W.ne_bytes (ZN I q (congrArg not Q0))
 |_=>exact absurd (show false=true from hs) Bool.false_ne_true
|_=>cases y<;>exact absurd (show false=true from hs) Bool.false_ne_true
theorem QK:OpR X (bA .Lt) (rI0 λi j=>.bl (decide (i<j))):=opB0 λ_ _ _ _ _ _ _ q=>lt_int q
theorem QL:OpR X (bA .LtE) (rI0 λi j=>.bl (decide (i<=j))):=opB0 λ_ _ _ _ _ _ _ q=>le_int q
theorem Ue:OpR X (bA .Gt) (rI0 λi j=>.bl (decide (j<i))):=opB0 λ_ _ _ _ _ _ _ q=>gt_int q
theorem VW:OpR X (bA .In) (λx y H Q=>∃i j,x=.str i/\y=.str j/\Q (.bl (!(ic j i 0 j.length 1).isEmpty)) H):=by intro pins s σ H x y v u Q I rx ry h;obtain⟨i,j,rfl,rfl,q⟩:=h;obtain⟨t,rfl⟩:=rx;obtain⟨t',rfl⟩:=ry;exact in_str (ZN I q rfl)
theorem U3:OpR X (bA .Is) (λx y H Q=>y=.non/\Q (.bl (decide (x=.non))) H):=by
 intro pins s σ H x y v u Q I rx ry h;obtain⟨rfl,q⟩:=h;cases ry;refine is_none_gen (ZN I q ?_);cases x<;>first
 |(cases rx;rfl)
 |(obtain⟨t,rfl⟩:=rx;rfl)
theorem Vp:OpR X (bA .IsNot) (λx y H Q=>y=.non/\Q (.bl (!decide (x=.non))) H):=by
 intro pins s σ H x y v u Q I rx ry h;obtain⟨rfl,q⟩:=h;cases ry;refine isnot_none_gen (ZN I q ?_);cases x<;>first
 |(cases rx;rfl)
 |(obtain⟨t,rfl⟩:=rx;rfl)
theorem Zw(b:Expr){op:CmpOp}(h:op≠.In:=by decide)(h2:op≠.NotIn:=by decide):dE op b=false:=by
 have e1:(op==CmpOp.In)=false:=by cases op<;>first|rfl|exact absurd rfl h
 have e2:(op==CmpOp.NotIn)=false:=by cases op<;>first|rfl|exact absurd rfl h2
 cases b<;>simp[dE,e1,e2]
theorem YG{op:CmpOp}{r:R2}(ho:OpR X (bA op) r)(ha:PE X a ta)(hb:PE X b tb)(hm:dE op b=false):PE X (.Compare a [op] [b] pos) (tOp r ta tb):=by intro pins s σ H Q I h;exact wpAny_Compare1 (binT ha hb I h λv u s2 x y H2 I2 rx ry q=>ho pins s2 σ H2 x y v u Q I2 rx ry q) hm
def KR(t:TE):TT:=λσ H Q=>t σ H λx H'=>∃k,x=.bl k/\Q k H'
theorem Zr{op:CmpOp}{r:R2}(ho:OpR X (bA op) r)(ha:PE X a ta)(hb:PE X b tb)(hm:dE op b=false):PT X (.Compare a [op] [b] pos) (KR (tOp r ta tb)):=by
 intro pins s σ H Q I h;refine wpAny_isTrue_Compare1 (thn (ha pins s σ H _ I h) λv s1⟨x,H1,I1,r1,q1⟩=>thn (hb pins s1 σ H1 _ I1 q1) λu s2⟨y,H2,I2,r2,q2⟩=>thn (ho pins s2 σ H2 x y v u _ I2 r1 r2 q2) λc s3 hZ=>?_) hm;obtain⟨z,H3,I3,r3,k,e,q3⟩:=hZ;subst e;cases r3;exact bC ⟨H3,I3,q3⟩
def Sy(r r':R2)(ta tb tc:TE):TE:=λσ H Q=>ta σ H λx H1=>tb σ H1 λy H2=>r x y H2 λz H3=>∃k,z=.bl k /\(if k=true then tc σ H3 λw' H4=>r' y w' H4 Q else Q (.bl false) H3)
theorem Tx{op op':CmpOp}{r r':R2}(ho:OpR X (bA op) r)(ho':OpR X (bA op') r')(ha:PE X a ta)(hb:PE X b tb)(hc:PE X c tc)(hm:lastMarks [op,op'] [b,c]=false:=by with_unfolding_all rfl):PE X (.Compare a [op,op'] [b,c] pos) (Sy r r' ta tb tc):=by
 intro pins s σ H Q I h;refine Compare_chain (thn (ha pins s σ H _ I h) λv s1⟨x,H1,I1,r1,q1⟩=>chain_link (thn (hb pins s1 σ H1 _ I1 q1) λu s2⟨y,H2,I2,r2,q2⟩=>
  thn (ho pins s2 σ H2 x y v u _ I2 r1 r2 q2) λd s3⟨z,H3,I3,r3,k,e,q3⟩=>?_)) hm;subst e;cases r3;refine bC ?_;cases k with
|false=>exact ite_ff ⟨.bl false,H3,I3,rfl,q3⟩
|true=>exact ite_tt (chain_last (thn (hc pins s3 σ H3 _ I3 q3) λw' s4⟨z',H4,I4,r4,q4⟩=>ho' pins s4 σ H4 y z' u w' Q I4 r2 r4 q4))
theorem Tn{op op':CmpOp}{r r':R2}(ho:OpR X (bA op) r)(ho':OpR X (bA op') r')(ha:PE X a ta)(hb:PE X b tb)(hc:PE X c tc)(hm:lastMarks [op,op'] [b,c]=false:=by with_unfolding_all rfl):PT X (.Compare a [op,op'] [b,c] pos) (KR (Sy r r' ta tb tc)):=by
 intro pins s σ H Q I h;refine isTrue_chain (thn (ha pins s σ H _ I h) λv s1⟨x,H1,I1,r1,q1⟩=>test_link (thn (hb pins s1 σ H1 _ I1 q1) λu s2⟨y,H2,I2,r2,q2⟩=>
  thn (ho pins s2 σ H2 x y v u _ I2 r1 r2 q2) λd s3⟨z,H3,I3,r3,k,e,q3⟩=>?_)) hm;subst e;cases r3;refine bC ?_;cases k with
|false=>obtain⟨k',e',q'⟩:=q3;cases e';exact ite_ff ⟨H3,I3,q'⟩
|true=>refine ite_tt (test_last (thn (hc pins s3 σ H3 _ I3 q3) λw' s4⟨z',H4,I4,r4,q4⟩=>thn (ho' pins s4 σ H4 y z' u w' _ I4 r2 r4 q4) λd' s5⟨z2,H5,I5,r5,k2,e2,q5⟩=>?_));subst e2;cases r5;exact bC ⟨H5,I5,q5⟩
def TruV(K:ae)(x:V)(H:Hp)(k:Bool):Prop:=match x with
|.non=>k=false
|.bl b=>k=b
|.int i=>k=(i != 0)
|.str y=>y.length<=sizeLine/\k=((y.length:Int) != 0)
|.byt y=>y.size<=sizeLine/\k=((y.size:Int) != 0)
|.ref p=>(∃xs,SqL K H p xs/\k=!xs.isEmpty)\/(∃xs,SqT K H p xs/\k=!xs.isEmpty)\/∃kvs,H p=some (.dK kvs)/\k=!kvs.isEmpty
|_=>False
theorem PL{κ:Type}{kvs:List (κ×V)}{vs:List (κ×Value)}(r:KV kvs vs):(!vs.isEmpty)=!kvs.isEmpty:=by cases r<;>rfl
theorem Ga{xs:List V}{its:List Value}(r:Vals xs its):(!its.toArray.isEmpty)=!xs.isEmpty:=by cases r<;>simp
theorem Jg:(sizeLine:Nat)<2 ^ 63:=by rw[dq];decide
theorem Lh:TruR X (λx H Q=>∃k,TruV X.K x H k/\Q k H):=by
 intro pins s σ H x v Q I rx h;obtain⟨k,e,q⟩:=h;have hl:=Jg;have hs:sizeLine=16777216:=dq;cases x with
|non=>cases rx;have e':k=false:=e;subst e';exact truthy_none ⟨H,I,q⟩
|bl b=>cases rx;have e':k=b:=e;subst e';exact bC ⟨H,I,q⟩
|int i=>obtain⟨t,rfl⟩:=rx;have e':k=(i != 0):=e;subst e';exact PySem.P.truthy_int ⟨H,I,q⟩
|str y=>obtain⟨t,rfl⟩:=rx;obtain⟨hy,e'⟩:y.length<=sizeLine/\k=((y.length:Int) != 0):=e;subst e';exact PySem.P.truthy_str (by omega) ⟨H,I.tok _,q⟩
|byt y=>obtain⟨t,rfl⟩:=rx;obtain⟨hy,e'⟩:y.size<=sizeLine/\k=((y.size:Int) != 0):=e;subst e';exact PySem.W.truthy_bytes (by omega) ⟨H,I.tok _,q⟩
|ref p=>
  cases rx;have e':(∃xs,SqL X.K H p xs/\k=!xs.isEmpty)\/(∃xs,SqT X.K H p xs/\k=!xs.isEmpty)\/∃kvs,H p=some (.dK kvs)/\k=!kvs.isEmpty:=e;rcases e' with⟨xs,hx,e'⟩|⟨xs,hx,e'⟩|⟨kvs,hx,e'⟩
  ·subst e';obtain⟨its,r,pl,hz⟩:=I.list hx;have hlen:=r.length;exact wpAny_truthy_list pl.isList (by simp only[ao];omega) ⟨H,I.tok _,by rw[Ga r];exact q⟩
  ·subst e';obtain⟨its,r,pl,hz⟩:=I.tuple hx;have hlen:=r.length;exact truthy_tuple pl (by simp only[ao];omega) ⟨H,I.tok _,by rw[Ga r];exact q⟩
  ·subst e';obtain⟨hz,hS,vs,r,m⟩:kvs.length<=sizeLine/\(p==bu)=false/\∃vs,KV kvs vs/\s.heap.DictOf (Zv X.prog X.w) p vs:=I.hok p _ hx;have hlen:kvs.length=vs.length:=aR r;exact wpAny_truthy_dict hS m (by omega) ⟨H,I.tok _,by rw[PL r];exact q⟩
|_=>exact(show False from e).elim
theorem X7:OpR X (d5 .Add) (λx y H Q=>∃i j,x=.str i/\y=.str j/\i.length+j.length<=sizeLine/\Q (.str (i++j)) H):=by intro pins s σ H x y v u Q I rx ry h;obtain⟨i,j,rfl,rfl,hz,q⟩:=h;obtain⟨t,rfl⟩:=rx;obtain⟨t',rfl⟩:=ry;exact add_str (λt' tk=>⟨.str (i++j),H,I.tok _,⟨_,rfl⟩,q⟩) hz
theorem vals1{x:V}{us:List Value}(r:Vals [x] us):∃u,us=[u]/\RelV x u:=by
 cases r with
|cons r1 r2=>cases r2;exact⟨_,rfl,r1⟩
theorem vals2{x y:V}{us:List Value}(r:Vals [x,y] us):∃u w',us=[u,w']/\RelV x u/\RelV y w':=by
 cases r with
|cons r1 r2=>
  cases r2 with
 |cons r3 r4=>cases r4;exact⟨_,_,rfl,r1,r3⟩
theorem G7(hc:X.calm=true):Xx X (.builtin "max") (λxs H Q=>∃i j,xs=[.int i,.int j]/\Q (.int (if j>i then j else i)) H):=by
 intro pins s σ H xs us Q I r h;obtain⟨i,j,rfl,q⟩:=h;obtain⟨u,w',rfl,⟨t,rfl⟩,⟨t',rfl⟩⟩:=vals2 r;refine max_two_ints (I.ok.hd hc) λh' tk k=>⟨_,H,I.kept k,?_,q⟩;by_cases hj:j>i
 ·rw[if_pos hj,if_pos hj];exact⟨_,rfl⟩
 ·rw[if_neg hj,if_neg hj];exact⟨_,rfl⟩
theorem R4(hc:X.calm=true):Xx X (.builtin "min") (λxs H Q=>∃i j,xs=[.int i,.int j]/\Q (.int (if j<i then j else i)) H):=by
 intro pins s σ H xs us Q I r h;obtain⟨i,j,rfl,q⟩:=h;obtain⟨u,w',rfl,⟨t,rfl⟩,⟨t',rfl⟩⟩:=vals2 r;refine min_two_ints (I.ok.hd hc) λh' tk k=>⟨_,H,I.kept k,?_,q⟩;by_cases hj:j<i
 ·rw[if_pos hj,if_pos hj];exact⟨_,rfl⟩
 ·rw[if_neg hj,if_neg hj];exact⟨_,rfl⟩
theorem JK:Xx X (.type "int") (λxs H Q=>(∃i,xs=[.int i]/\Q (.int i) H)\/∃k,xs=[.bl k]/\Q (.int (if k then 1 else 0)) H):=by
 intro pins s σ H xs us Q I r h;rcases h with⟨i,rfl,q⟩|⟨k,rfl,q⟩
 ·obtain⟨u,rfl,t,rfl⟩:=vals1 r;exact call_int_int ⟨.int i,H,I,⟨_,rfl⟩,q⟩
 ·obtain⟨u,rfl,r1⟩:=vals1 r;cases r1;exact call_int_bool ⟨.int (if k then 1 else 0),H,I.tok _,⟨_,rfl⟩,q⟩
def LenV(K:ae)(x:V)(H:Hp)(n:Nat):Prop:=match x with
|.str y=>y.length<=sizeLine/\n=y.length
|.byt y=>y.size<=sizeLine/\n=y.size
|.ref p=>(∃xs,SqL K H p xs/\n=xs.length)\/∃xs,SqT K H p xs/\n=xs.length
|_=>False
theorem WB:Xx X (.builtin "len") (λxs H Q=>∃x n,xs=[x]/\LenV X.K x H n/\Q (.int n) H):=by
 intro pins s σ H xs us Q I r h;obtain⟨x,n,rfl,e,q⟩:=h;obtain⟨u,rfl,rx⟩:=vals1 r;have hl:=Jg;have hs:sizeLine=16777216:=dq;cases x with
|str y=>obtain⟨t,rfl⟩:=rx;obtain⟨hy,e'⟩:y.length<=sizeLine/\n=y.length:=e;subst e';exact len_str (by omega) ⟨.int _,H,I.tok _,⟨_,rfl⟩,q⟩
|byt y=>obtain⟨t,rfl⟩:=rx;obtain⟨hy,e'⟩:y.size<=sizeLine/\n=y.size:=e;subst e';exact PySem.W.len_bytes (by omega) ⟨.int _,H,I.tok _,⟨_,rfl⟩,q⟩
|ref p=>
  cases rx;have e':(∃xs,SqL X.K H p xs/\n=xs.length)\/∃xs,SqT X.K H p xs/\n=xs.length:=e;rcases e' with⟨xs,hx,e'⟩|⟨xs,hx,e'⟩
  ·subst e';obtain⟨its,r',pl,hz⟩:=I.list hx;have hlen:=r'.length;exact Calls.call_len_list pl.isList (by simp only[ao];omega) ⟨.int xs.length,H,I.tok _,⟨_,by simp only[ao];rw[hlen]⟩,q⟩
  ·subst e';obtain⟨its,r',pl,hz⟩:=I.tuple hx;have hlen:=r'.length;exact len_tuple pl (by simp only[ao];omega) ⟨.int xs.length,H,I.tok _,⟨_,by simp only[ao];rw[hlen]⟩,q⟩
|_=>exact(show False from e).elim
end
open PySem PySem.Spec PyProof.Rows
structure ObjM(h:Heap)(x dx C:Addr)(mA:Str->Option Value):Prop where
 obj:h.get? x=some (cD C dx)
 ns:h.Ns1 dx mA
 ne:dx≠x
theorem Rz{h:Heap}{dx:Addr}{mA:Str->Option Value}(n:h.Ns1 dx mA):∃od,h.get? dx=some od/\∀name,fV name od=some (mA name):=by
 obtain⟨o,es,ep,ho,hd,hk,_,hm⟩:=n;refine⟨o,ho,λname=>?_⟩;have e:=hm name;unfold nsFind findBy at e;rw[<-Array.find?_toList]at e;unfold fV;rw[hd];dsimp only;split
 ·rename_i y q;rw[q]at e;exact congrArg some e
 ·rename_i q;rw[q]at e;have a:es.toList.any (·.refKey)=false:=by rw[List.any_eq_false];intro y hy;obtain⟨z,t,hkey⟩:=hk y (eT.mp hy);simp[DictEntry.refKey,hkey]
  have a':¬es.toList.any (·.refKey)=true:=by rw[a];exact Bool.false_ne_true
  rw[if_neg a'];exact congrArg some e
theorem ObjM.look{h:Heap}{x dx C:Addr}{mA:Str->Option Value}(I:ObjM h x dx C mA):∃od,PySem.W.InstAt h x (cD C dx) C (some od)/\∀name,fV name od=some (mA name):=let ⟨od,ho,hl⟩:=Rz I.ns
 ⟨od,⟨I.obj,rfl,rfl,ho⟩,hl⟩
section
variable {prog:Program}{w:World}{A:br}{E:Value->ah->Prop}{s:ah}{K:ae}{x dx C f:Addr}{mA:Str->Option Value}{name:Str}{v:Value}
theorem get_map{expr:Bool}{Q:Value->ah->Prop}(X:K.In s.heap)(I:ObjM s.heap x dx C mA)(hg:dD K C name=true)(hh:dY K C=true)(ha:aG K (.ref C) name=some none)(hv:mA name=some v)(hv':PySem.W.handedIn v=true)(h:Q v {s with toks:=s.toks+1}):wpAny (model prog w) A (getAttr (.ref x) name expr) Q E s:=by obtain⟨od,J,hl⟩:=I.look;exact PySem.W.get_value X J (gf hg).1 (PySem.W.findObj_own hh ha rfl (by rw[hl,hv])) hv' h
theorem Wi{pl:Sem Bool}{Q:Value×List Value->ah->Prop}(X:K.In s.heap)(I:ObjM s.heap x dx C mA)(hg:dD K C name=true)(hf:aG K (.ref C) name=some (some (.ref f)))(ht:e_ K (.ref f)=true)(hv:mA name=none)(h:Q (.ref f,[.ref x]) s):wpAny (model prog w) A (fF (.ref x) name pl) Q E s:=by obtain⟨od,J,hl⟩:=I.look;exact PySem.W.method_fn X J (gf hg).1 (gf hg).2 hf (beq_iff_eq.mp ht) (by show(fV name od).map (·.isSome)=some false;rw[hl,hv];rfl) h
theorem WW{ns:List Str}{Q:Unit->ah->Prop}(X:K.In s.heap)(I:ObjM s.heap x dx C mA)(hs:aG K (.ref C) "__setattr__"=some (some (.builtin "object.__setattr__")))(hp:fv K C=true)(ht:hU K C name=some none)(hh:dY K C=true)(hw:PySem.Within mA ns)(hsz:ns.length<=sizeLine)(h:∀h',ObjM h' x dx C (λy=>if y=name then some v else mA y)->Heap.SameBut dx s.heap h'->Q () {s with heap:=h',toks:=s.toks+2}):wpAny (model prog w) A (setAttr (.ref x) name v) Q E s:=by obtain⟨od,J,hl⟩:=I.look;refine PySem.W.set_plain X J hs (PySem.W.osa_open (s:={s with toks:=s.toks+1}) (r:=none) X J hp ht λb=>?_);obtain⟨cd,hc,hd'⟩:=PySem.W.any_some hh;have hx:s.heap.get? x=some ⟨.ref C,some dx,.plain,#[]⟩:=I.obj;refine aa (af (aa (aa (wpAny_loadPart hx (aa (PySem.W.Looks.here (s:={s with toks:=s.toks+1}) (PySem.W.looks_clsIn X hc) ?_))))));rw[hd'];refine af (a:=some dx) (aa (af (aa ?_)));refine wpAny_nsSet1 (s:={s with toks:=s.toks+1}) I.ns λh' hn2 hs2=>?_;obtain⟨oD,esD,epD,hoD,hdD,hcD⟩:=hn2.count (PySem.Within.cons name v hw);refine aa (wpAny_lookBehind hoD (by rw[hdD];exact pastItsLine_dict (Nat.le_trans hcD (by rw[aU];omega))) ?_);exact af (h _ ⟨(hs2.2 _ (bR I.ne)).trans I.obj,hn2,I.ne⟩ hs2)
theorem TZ{R:Result->ah->Prop}{vs:List Value}{kw:List (Str×Value)}(X:K.In s.heap)(hm:fK K C=true)(hi:aG K (.ref C) "__init__"=some (some (.ref f)))(hf:PySem.W.typeIn K (.ref f)=some (.type "function"))(h:g8 (model prog w) (A.under (.builtin "type.__call__" ⟨.ref C::vs,kw⟩)) (.call (.ref f) ⟨.ref (s.heap.objs.size+1)::vs,kw⟩) (PySem.W.InitBack (s.heap.objs.size+1) R) {s with heap:=(s.heap.push bV).push (cD C s.heap.objs.size)}):g8 (model prog w) A (.call (.ref C) ⟨vs,kw⟩) R s:=by obtain⟨hh,g,d,t,os⟩:=s;exact PySem.W.make_core (PySem.W.makes_of X hm) (PySem.W.looks_findIn X hi) (λself=>PySem.W.bind_fn X self hf) (.inl rfl) h
end
noncomputable def putF(f:Str)(v:V):List (Str×V)->List (Str×V)
|[]=>[(f,v)]
|(g,x)::r=>if g=f then(g,v)::r else(g,x)::putF f v r
theorem Yi(f g:Str)(v:V):∀fs:List (Str×V),(putF f v fs).lookup g=if g=f then some v else fs.lookup g
|[]=>by
  show eV g [(f,v)]=_;by_cases h:g=f
  ·have hb:(g==f)=true:=beq_iff_eq.mpr h;simp only[eV,hb,if_pos h]
  ·have hb:(g==f)=false:=beq_eq_false_iff_ne.mpr h;simp only[eV,hb,if_neg h]
|(k,x)::r=>by
  have ih:=Yi f g v r;rw[show putF f v ((k,x)::r)=(if k=f then(k,v)::r else(k,x)::putF f v r)from rfl];by_cases hk:k=f
  ·rw[if_pos hk];by_cases h:g=k
   ·have hb:(g==k)=true:=beq_iff_eq.mpr h;simp only[eV,hb,if_pos (h.trans hk)]
   ·have hb:(g==k)=false:=beq_eq_false_iff_ne.mpr h;simp only[eV,hb,if_neg (λe:g=f=>h (e.trans hk.symm))]
  ·rw[if_neg hk];by_cases h:g=k
   ·have hb:(g==k)=true:=beq_iff_eq.mpr h;simp only[eV,hb,if_neg (λe:g=f=>hk (h.symm.trans e))]
   ·have hb:(g==k)=false:=beq_eq_false_iff_ne.mpr h;simp only[eV,hb];exact ih
theorem VY(f:Str)(v:V):∀fs:List (Str×V),f∈(putF f v fs).map (·.1)/\∀g,g∈fs.map (·.1)->g∈(putF f v fs).map (·.1)
|[]=>⟨by simp[putF],λg h=>by simp at h⟩
|(k,x)::r=>by
  obtain⟨i1,i2⟩:=VY f v r;rw[show putF f v ((k,x)::r)=(if k=f then(k,v)::r else(k,x)::putF f v r)from rfl];by_cases hk:k=f
  ·rw[if_pos hk];subst hk;exact⟨by simp,λg h=>by simpa using h⟩
  ·rw[if_neg hk];refine⟨?_,λg h=>?_⟩
   ·rw[ax];exact aq _ i1
   ·rw[ax]at h ⊢;rcases ar.mp h with e|e
    ·exact ar.mpr (.inl e)
    ·exact aq _ (i2 g e)
theorem YJ(f:Str)(v:V):∀fs:List (Str×V),(putF f v fs).length<=fs.length+1
|[]=>by simp[putF]
|(k,x)::r=>by
  have ih:=YJ f v r;rw[show putF f v ((k,x)::r)=(if k=f then(k,v)::r else(k,x)::putF f v r)from rfl];by_cases hk:k=f
  ·rw[if_pos hk,aU,aU];omega
  ·rw[if_neg hk,aU,aU];omega
theorem RelO.some_of{v:V}{o:Option Value}(r:RelO (some v) o):∃u,o=some u/\RelV v u:=by
 cases o with
|none=>exact(show False from r).elim
|some u=>exact⟨u,rfl,r⟩
theorem RelO.none_of{o:Option Value}(r:RelO none o):o=none:=by
 cases o with
|none=>rfl
|some u=>exact(show False from r).elim
theorem RK{v:V}{u:Value}(r:RelV v u):PySem.W.handedIn u=true:=by
 cases v with
|non=>cases(show u=Value.none from r);rfl
|bl b=>cases(show u=Value.bool b from r);rfl
|int i=>obtain⟨t,e⟩:=(show ∃t,u=Value.int i t from r);cases e;rfl
|str x=>obtain⟨t,e⟩:=(show ∃t,u=Value.str x t from r);cases e;rfl
|byt b=>obtain⟨t,e⟩:=(show ∃t,u=Value.bytes b t from r);cases e;rfl
|flt b=>obtain⟨t,e⟩:=(show ∃t,u=Value.float b t from r);cases e;rfl
|ref a=>cases(show u=Value.ref a from r);rfl
|ty n=>cases(show u=Value.type n from r);rfl
section
variable {P:Program}{w:World}{H H':Hp}{h h':Heap}{a C dx:Addr}{fs fs':List (Str×V)}
theorem Uz(hok:HOk P w H h)(e:H a=some (.ins C dx fs)):∃mA,ObjM h a dx C mA/\(∀f,RelO (fs.lookup f) (mA f))/\PySem.Within mA (fs.map (·.1))/\fs.length<=1000/\H dx=some (.own a):=by obtain⟨d,z,ne,ob,mA,n,r,q⟩:=(show ZY P w H h a (.ins C dx fs)from hok a _ e);exact⟨mA,⟨ob,n,ne⟩,r,q,z,d⟩
end
structure Cls(K:ae)(C:Addr):Prop where
 pg:dD K C Str.empty=true
 hd:dY K C=true
 po:fv K C=true
 sa:aG K (.ref C) "__setattr__"=some (some (.builtin "object.__setattr__"))
theorem Cls.get{K:ae}{C:Addr}(c:Cls K C)(f:Str):dD K C f=true:=c.pg
def Jb(K:ae)(C:Addr)(f:Str):Prop:=aG K (.ref C) f=some none
theorem Jb.taker{K:ae}{C:Addr}{f:Str}(n:Jb K C f):hU K C f=some none:=by unfold hU;rw[show aG K (.ref C) f=some none from n];rfl
structure Meth(K:ae)(C:Addr)(m:Str)(f:Addr):Prop where
 at_:aG K (.ref C) m=some (some (.ref f))
 fn:e_ K (.ref f)=true
 kp:bw K (.ref f)=true
section
variable {X:Cx}{pins:List (Addr×Obj)}{σ:St}{H:Hp}{s:ah}{a C dx:Addr}{fs:List (Str×V)}{f:Str}{v:V}{A:br}{E:Value->ah->Prop}
theorem PU{b:Bool}{Q:Value->ah->Prop}(I:Inv X pins σ H s)(e:H a=some (.ins C dx fs))(c:Cls X.K C)(n:Jb X.K C f)(l:fs.lookup f=some v)(h:∀u s',Inv X pins σ H s'->RelV v u->Q u s'):wpAny (model X.prog X.w) A (getAttr (.ref a) f b) Q E s:=by obtain⟨mA,O,r,_,_,_⟩:=Uz I.hok e;obtain⟨u,hu,ru⟩:=RelO.some_of (v:=v) (o:=mA f) (by rw[<-l];exact r f);exact get_map I.kIn O (c.get f) c.hd n hu (RK ru) (h u _ (I.tok _) ru)
theorem J3{m:Str}{g:Addr}{pl:Sem Bool}{Q:Value×List Value->ah->Prop}(I:Inv X pins σ H s)(e:H a=some (.ins C dx fs))(c:Cls X.K C)(k:Meth X.K C m g)(l:fs.lookup m=none)(h:Q (.ref g,[.ref a]) s):wpAny (model X.prog X.w) A (fF (.ref a) m pl) Q E s:=by obtain⟨mA,O,r,_,_,_⟩:=Uz I.hok e;have hn:mA m=none:=RelO.none_of (by rw[<-l];exact r m);exact Wi I.kIn O (c.get m) k.at_ k.fn hn h
theorem Pf{y:V}{u:Value}{Q:Unit->ah->Prop}(I:Inv X pins σ H s)(e:H a=some (.ins C dx fs))(c:Cls X.K C)(n:Jb X.K C f)(hl:fs.length<1000)(ry:RelV y u)(h:∀s',Inv X pins σ (upd H a (.ins C dx (putF f y fs))) s'->Q () s'):wpAny (model X.prog X.w) A (setAttr (.ref a) f u) Q E s:=by
 obtain⟨mA,O,r,wi,_,ho⟩:=Uz I.hok e;have hz:(fs.map (·.1)).length<=sizeLine:=by rw[bQ,dq];omega
 refine WW I.kIn O c.sa c.po n.taker c.hd wi hz λh' O' sb=>h _ ?_;have hd:∃o,h'.get? dx=some o:=let ⟨o,_,_,e',_⟩:=O'.ns;⟨o,e'⟩
 refine I.write (x:=a) (e:=dx) (by rw[e];exact bB) (.inr ho) (λb q hb z=>(sb.2 b hb).trans z) hd ?_;refine⟨by rw[Zc O.ne];exact ho,?_,O.ne,O'.obj,_,O'.ns,λg=>?_,λg hg=>?_⟩
 ·have:=YJ f y fs;omega
 ·show RelO ((putF f y fs).lookup g) (if g=f then some u else mA g);rw[Yi];by_cases q:g=f
  ·rw[if_pos q,if_pos q];exact ry
  ·rw[if_neg q,if_neg q];exact r g
 ·by_cases q:g=f
  ·rw[q];exact(VY f y fs).1
  ·refine(VY f y fs).2 g (wi g λz=>hg ?_);show(if g=f then some u else mA g)=none;rw[if_neg q];exact z
theorem Inv.made(I:Inv X pins σ H s):Inv X pins σ (upd (upd H s.heap.objs.size (.own (s.heap.objs.size+1))) (s.heap.objs.size+1) (.ins C s.heap.objs.size [])) {s with heap:=(s.heap.push bV).push (cD C s.heap.objs.size)}:=by
 have e1:(s.heap.push bV).get? s.heap.objs.size=some bV:=Heap.get?_push_size s.heap rfl;have e2:((s.heap.push bV).push (cD C s.heap.objs.size)).get? (s.heap.objs.size+1)=some (cD C s.heap.objs.size):=by have:=Heap.get?_push_size (s.heap.push bV) (o:=cD C s.heap.objs.size) rfl;rwa [Heap.size_push]at this
 have e3:(s.heap.push bV).Ns s.heap.objs.size (λ_=>none):=⟨bV,#[],_,e1,rfl,(λe he=>absurd he (by simp)),λ_=>rfl⟩;have I1:=I.laid (a:=s.heap.objs.size) (o:=.own (s.heap.objs.size+1)) (h':=s.heap.push bV) (t':=s.toks) (λb u q=>Heap.get?_push_of_some _ q) (Nat.le_refl _) ⟨_,e1⟩;refine I1.laid (a:=s.heap.objs.size+1) (o:=.ins C s.heap.objs.size []) (t':=s.toks) (λb u q=>Heap.get?_push_of_some _ q) (Nat.le_of_eq (Heap.size_push _ _)) ?_;have ne:s.heap.objs.size≠s.heap.objs.size+1:=Nat.ne_of_lt (Nat.lt_succ_self _);refine⟨by rw[Zc ne,Zd],Nat.zero_le _,ne,e2,λ_=>none,(Heap.Ns1.of_empty e3).at λo q=>Heap.get?_push_of_some _ q,λ_=>bB,λy hy=>absurd rfl hy⟩
theorem KO{prog:Program}{w:World}{env:Env}{e:Expr}{f:Str}{pos:Pos}{s:ah}{Q:Value->ah->Prop}(hb:c8 e f env (eval e env)=eval e env)(h:wpAny (model prog w) A (eval e env) (λo s₁=>wpAny (model prog w) A (getAttr o f true) Q E s₁) E s):wpAny (model prog w) A (eval (.Attribute e f pos) env) Q E s:=Attribute_any_ h (by rw[arm_eval_Attribute,hb])
end
def tFld(K:ae)(ta:TE)(f:Str):TE:=λσ H Q=>ta σ H λx H1=>∃a C dx fs v,x=.ref a/\H1 a=some (.ins C dx fs)/\Cls K C/\Jb K C f/\fs.lookup f=some v/\Q v H1
def sFld(K:ae)(ta tv:TE)(f:Str):TS:=λD σ H=>tv σ H λy H1=>ta σ H1 λx H2=>∃a C dx fs,x=.ref a/\H2 a=some (.ins C dx fs)/\Cls K C/\Jb K C f/\fs.length<1000 /\D.nx σ (upd H2 a (.ins C dx (putF f y fs)))
section
variable {X:Cx}{o e value:Expr}{f:Str}{pos pos' tpos:Pos}{ta tv:TE}
theorem Z4(he:PE X e ta)(hb:c8 e f X.env (eval e X.env)=eval e X.env):PE X (.Attribute e f pos) (tFld X.K ta f):=by intro pins s σ H Q I h;refine KO hb (thn (he pins s σ H _ I h) λu s1 hZ=>?_);obtain⟨x,H1,I1,rx,a,C,dx,fs,v,ex,ea,c,n,l,q⟩:=hZ;subst ex;obtain rfl:u=Value.ref a:=rx;exact PU I1 ea c n l λu' s2 I2 ru=>⟨v,H1,I2,ru,q⟩
theorem YL(ha:PE X o ta)(hv:PE X value tv)(hs:f7 value (some (.Attribute o f pos')) pos.line X.env=pure false):PS X (.Assign [.Attribute o f pos'] value pos) (sFld X.K ta tv f):=by intro pins s σ H D I h;refine plainObj_wpAny_Assign_Attribute (thn (hv pins s σ H _ I h) λu s1⟨y,H1,I1,ry,q⟩=>thn (ha pins s1 σ H1 _ I1 q) λov s2 hZ=>?_) hs;obtain⟨x,H2,I2,rx,a,C,dx,fs,ex,ea,c,n,l,q2⟩:=hZ;subst ex;obtain rfl:ov=Value.ref a:=rx;exact Pf I2 ea c n l ry λs3 I3=>⟨σ,_,I3,q2⟩
theorem K6{pl:Sem Bool}{m:Str}{apos:Pos}{args:List Expr}{pins:List (Addr×Obj)}{s:ah}{σ:St}{H:Hp}{Q:Value->ah->Prop}{te:TE}(he:PE X e te)(I:Inv X pins σ H s)
  (h:te σ H λx H1=>∃a C dx fs g,x=.ref a/\H1 a=some (.ins C dx fs)/\Cls X.K C/\Meth X.K C m g/\fs.lookup m=none /\
   ∀s1,Inv X pins σ H1 s1->wpAny (model X.prog X.w) X.A (gW pos (.ref g) [.ref a] (b8 pos (az args X.env)) (eO pos (cV [] X.env))) Q X.xe s1)
  (ht:eval (.Call (.Attribute e m apos) args [] pos) X.env=(do
   let ov <-eval e X.env
   g7 apos.atName
   let (f,first) <-fB [ov] (fF ov m pl)
   gW pos f first (b8 pos (az args X.env)) (eO pos (cV [] X.env)))):
  wpAny (model X.prog X.w) X.A (eval (.Call (.Attribute e m apos) args [] pos) X.env) Q X.xe s:=by
 refine d7 (pl:=pl) (thn (he pins s σ H _ I h) λu s1 hZ=>?_) ht;obtain⟨x,H1,I1,rx,a,C,dx,fs,g,ex,ea,c,k,l,q⟩:=hZ
 subst ex
 obtain rfl:u=Value.ref a:=rx
 exact J3 I1 ea c k l (q s1 I1)
end
section
variable {X:Cx}{pins:List (Addr×Obj)}{σ:St}{H:Hp}{s:ah}{A:br}{E:Value->ah->Prop}{Q:Value->ah->Prop}{c:Value}{b:Bool}
inductive TyOf(K:ae)(H:Hp):V->Value->Prop where
|non:TyOf K H .non (.type "NoneType")
|bl (x:Bool):TyOf K H (.bl x) (.type "bool")
|int (i:Int):TyOf K H (.int i) (.type "int")
|str (x:Str):TyOf K H (.str x) (.type "str")
|flt (x:UInt64):TyOf K H (.flt x) (.type "float")
|lst {a:Addr}{xs:List V} (e:H a=some (.lst xs)):TyOf K H (.ref a) (.type "list")
|frz {a:Addr}{o:Obj}{xs:List V} (e:H a=some (.frz o (.lst xs))):TyOf K H (.ref a) (.type "list")
|tup {a:Addr}{xs:List V} (e:H a=some (.tup xs)):TyOf K H (.ref a) (.type "tuple")
|dK {a:Addr}{kvs:List (Key×V)} (e:H a=some (.dK kvs)):TyOf K H (.ref a) (.type "dict")
|dT {a:Addr}{kvs:List (List Key×V)} (e:H a=some (.dT kvs)):TyOf K H (.ref a) (.type "dict")
|ins {a C dx:Addr}{fs:List (Str×V)} (e:H a=some (.ins C dx fs)) (cl:Cls K C) (ha:aG K (.ref C) "__class__"=some (some (.builtin "object.__class__")))
   (hn:gH K (.builtin "object.__class__") "__get__"=some (some (.builtin "getset_descriptor.__get__"))) (htk:PySem.W.takesIn K (.builtin "object.__class__")=some true)
   (hm:PySem.W.mroIn K C (.type "object")=some true):TyOf K H (.ref a) (.ref C)
theorem RH{x:V}{u t:Value}(I:Inv X pins σ H s)(rx:RelV x u)(ty:TyOf X.K H x t)(e:ay X.K t c=some b)(h:∀tk,Q (.bool b) {s with toks:=tk}):wpAny (model X.prog X.w) A (call (.builtin "isinstance") [u,c]) Q E s:=by
 cases ty with
|non=>cases(show u=Value.none from rx);exact bN PySem.W.kitx_none I.kIn bB e (λz=>nomatch z) h
|bl y=>cases(show u=Value.bool y from rx);exact bN PySem.W.kitx_bool I.kIn bB e (λz=>nomatch z) h
|int i=>obtain⟨t,q⟩:=(show ∃t,u=Value.int i t from rx);cases q;exact bN PySem.W.kitx_int I.kIn bB e (λz=>nomatch z) h
|str y=>obtain⟨t,q⟩:=(show ∃t,u=Value.str y t from rx);cases q;exact bN PySem.W.kitx_str I.kIn bB e (λz=>nomatch z) h
|flt y=>obtain⟨t,q⟩:=(show ∃t,u=Value.float y t from rx);cases q;exact bN PySem.W.kitx_float I.kIn bB e (λz=>nomatch z) h
|@lst a xs ea=>cases(show u=Value.ref a from rx);obtain⟨_,_,n,_,h1⟩:=(show ZY X.prog X.w H s.heap a (.lst xs)from I.hok a _ ea);exact bN gK I.kIn ⟨_,h1,rfl⟩ e (λz=>nomatch z) h
|@frz a ob xs ea=>cases(show u=Value.ref a from rx);obtain⟨_,_,_,n,_,h1⟩:=(show ZY X.prog X.w H s.heap a (.frz ob (.lst xs))from I.hok a _ ea);exact bN gK I.kIn ⟨_,h1,rfl⟩ e (λz=>nomatch z) h
|@tup a xs ea=>cases(show u=Value.ref a from rx);obtain⟨_,_,_,p⟩:=(show ZY X.prog X.w H s.heap a (.tup xs)from I.hok a _ ea);obtain⟨o,h1,h2,_⟩:=p;exact bN PySem.W.kitx_tuple I.kIn ⟨o,h1,h2⟩ e (λz=>nomatch z) h
|@dK a kvs ea=>cases(show u=Value.ref a from rx);obtain⟨_,_,vs,_,p⟩:=(show ZY X.prog X.w H s.heap a (.dK kvs)from I.hok a _ ea);obtain⟨o,es,ep,h1,h2,_⟩:=p;exact bN gL I.kIn ⟨o,h1,h2.1⟩ e (λz=>nomatch z) h
|@dT a kvs ea=>cases(show u=Value.ref a from rx);obtain⟨_,_,xs,_,o,es,ep,h1,h2,_⟩:=(show ZY X.prog X.w H s.heap a (.dT kvs)from I.hok a _ ea);exact bN gL I.kIn ⟨o,h1,h2.1⟩ e (λz=>nomatch z) h
|@ins a C dx fs ea cl ha hn htk hm=>cases(show u=Value.ref a from rx);obtain⟨mA,O,_⟩:=Uz I.hok ea;obtain⟨od,J,_⟩:=O.look;exact bN (PySem.W.kitx_own (cl.get _) cl.hd ha hn htk hm) I.kIn J e (λz=>nomatch z) h
end
open PySem PySem.Spec PyProof.Rows
structure Room(k:Nat)(A:br):Prop where
 hd:A.handled=none
 dp:A.depth+3*k+5<recursionLimit
 un:A.units+16*k+200<cLine
 gd:A.guards=some []
theorem Room.mono{j k:Nat}{A:br}(r:Room k A)(h:j<=k):Room j A:=⟨r.hd,by have:=r.dp;omega,by have:=r.un;omega,r.gd⟩
theorem Room.deeper{k:Nat}{A:br}(r:Room (k+1) A)(env:Env):Room k (A.deeper env):=⟨r.hd,by have:=r.dp;show A.depth+1+3*k+5<_;omega,by have:=r.un;show A.units+3+16*k+200<_;omega,r.gd⟩
theorem Py{A:br}{C:Addr}{us:List Value}{kw:List (Str×Value)}:(A.under (.builtin "type.__call__" ⟨.ref C::us,kw⟩)).depth=A.depth+1:=by first|rfl|simp[gP,Code.weight,Code.isCreation,Code.isGuard,Code.isCaller,Code.frames,Code.isFrame,guardIds]
theorem Px{A:br}{C:Addr}{us:List Value}{kw:List (Str×Value)}:(A.under (.builtin "type.__call__" ⟨.ref C::us,kw⟩)).units=A.units+1:=by first|rfl|simp[gP,Code.cUnits,Code.frames,Code.isFrame]
theorem ND{A:br}{C:Addr}{us:List Value}{kw:List (Str×Value)}:(A.under (.builtin "type.__call__" ⟨.ref C::us,kw⟩)).guards=A.guards:=by first|rfl|simp[gP,Code.guards,Code.isGuard,pushGuards,guardIds]
theorem Room.make{k:Nat}{A:br}(r:Room (k+1) A)(C:Addr)(us:List Value)(kw:List (Str×Value)):Room k (A.under (.builtin "type.__call__" ⟨.ref C::us,kw⟩)):=⟨r.hd,by have:=r.dp;rw[Py];omega,by have:=r.un;rw[Px];omega,by rw[ND];exact r.gd⟩
theorem Room.depth{k:Nat}{A:br}(r:Room k A):A.depth<recursionLimit:=by have:=r.dp;omega
theorem Room.units{k:Nat}{A:br}(r:Room k A):A.units+64<cLine:=by have:=r.un;omega
def tNil:TA:=λ_ H Q=>Q [] H
def Xy(ta:TE)(tr:TA):TA:=λσ H Q=>ta σ H λx H1=>tr σ H1 λxs H2=>Q (x::xs) H2
section
variable {X:Cx}{e:Expr}{es:List Expr}{te:TE}{t:TA}{pos:Pos}
theorem Zj:PA X [] tNil:=λ_ _ _ _ H Q I h=>fA ⟨[],H,I,.nil,h⟩
theorem Zg(ha:PE X e te)(hr:PA X es t)(hs:az (e::es) X.env=(false,eval e X.env)::az es X.env:=by rfl):PA X (e::es) (Xy te t):=by intro pos pins s σ H Q I h;rw[hs];show wpAny _ _ (spliced ((false,eval e X.env)::b8 pos (az es X.env))) _ _ s;refine dW (thn (ha pins s σ H _ I h) λu s1 hZ=>?_);obtain⟨x,H1,I1,r1,q1⟩:=hZ;exact thn (hr pos pins s1 σ H1 _ I1 q1) λus s2⟨xs,H2,I2,r2,q2⟩=>⟨x::xs,H2,I2,.cons r1 r2,q2⟩
def tTup(t:TA):TE:=λσ H Q=>t σ H λxs H1=>xs.length<=sizeLine/\∀p,H1 p=none->Q (.ref p) (upd H1 p (.tup xs))
def tLst(t:TA):TE:=λσ H Q=>t σ H λxs H1=>xs.length<=sizeLine/\∀p,H1 p=none->Q (.ref p) (upd H1 p (.lst xs))
theorem ZE{x1}(h:PA X es t):PE X (.Tuple es x1 pos) (tTup t):=by intro pins s σ H Q I hq;refine wpAny_Tuple_spliced (thn (h pos pins s σ H _ I hq) λus s1⟨xs,H1,I1,r,z,q⟩=>⟨by rw[<-r.length];exact z,?_⟩);have hf:H1 s1.heap.objs.size=none:=I1.hok.fresh (Nat.le_refl _);refine⟨.ref s1.heap.objs.size,upd H1 s1.heap.objs.size (.tup xs),I1.laid (t':=s1.toks) (λb u e=>Heap.get?_push_of_some _ e) (Nat.le_refl _) ?_,rfl,q _ hf⟩;exact⟨z,us,r,⟨_,Heap.get?_push_size _ rfl,rfl,_,rfl⟩⟩
theorem Z0(h:PA X es t):PE X (.List es pos) (tLst t):=by intro pins s σ H Q I hq;refine wpAny_List_spliced (thn (h pos pins s σ H _ I hq) λus s1⟨xs,H1,I1,r,z,q⟩=>⟨by rw[<-r.length];exact z,?_⟩);have hf:H1 s1.heap.objs.size=none:=I1.hok.fresh (Nat.le_refl _);refine⟨.ref s1.heap.objs.size,upd H1 s1.heap.objs.size (.lst xs),I1.laid (t':=s1.toks) (λb u e=>Heap.get?_push_of_some _ e) (Nat.le_refl _) ?_,rfl,q _ hf⟩;exact⟨z,us,0,r,Heap.get?_push_size _ rfl⟩
end
noncomputable abbrev Sp:=List V->Hp->VK->XK->Prop
noncomputable abbrev CXT:=List Env->Hp->ah->XK->Value->ah->Prop
structure Env0(P:Program)(w:World)(K:ae)(mg:Str->Option Value)(base:Heap)(A:br)(outer:List Env)(s:ah)(H:Hp):Prop where
 frames:A.frames=some outer
 mod:Mod K mg base
 bs:∀b o,base.get? b=some o->s.heap.get? b=some o/\H b=none
 bsz:base.objs.size<=s.heap.objs.size
 funs:s.heap.FunFrames base outer
 frf:∀b∈frs outer,H b=none
 hok:HOk P w H s.heap
 bare:gq s.gens
def CE(outer:List Env)(P:Program)(w:World)(H:Hp)(s:ah)(Q:VK)(u:Value)(s':ah):Prop:=∃v H',s'.os=s.os/\gq s'.gens/\Un (frs outer) [] H H' s.heap s'.heap/\HOk P w H' s'.heap/\RelV v u/\Q v H'
def CR(CX:CXT)(outer:List Env)(P:Program)(w:World)(H:Hp)(s:ah)(Q:VK)(E:XK)(r:Result)(s':ah):Prop:=match r with
|.ok (.ret u)=>CE outer P w H s Q u s'
|.ok _=>False
|.error e=>CX outer H s E e s'
structure FnOk(P:Program)(w:World)(K:ae)(mg:Str->Option Value)(base:Heap)(CX:CXT)(k:Nat)(f:Addr)(fd:b_)(ps:List Str)(sp:Sp):Prop where
 len:∀vs H Q E,sp vs H Q E->vs.length=ps.length
 run:∀(A:br)(outer:List Env)(s:ah)(H:Hp)(args:Args)(us:List Value)(vs:List V)(Q:VK)(E:XK),Room k A->Env0 P w K mg base A outer s H->BindsTo s fd args (ps.zip us)->Vals vs us->sp vs H Q E ->
  g8 (model P w) A (.call (.ref f) args) (CR CX outer P w H s Q E) s
theorem Env0.make{P:Program}{w:World}{K:ae}{mg:Str->Option Value}{base:Heap}{A:br}{outer:List Env}{s:ah}{H:Hp}(e:Env0 P w K mg base A outer s H)(C:Addr)(us:List Value)(kw:List (Str×Value)):Env0 P w K mg base (A.under (.builtin "type.__call__" ⟨.ref C::us,kw⟩)) outer s H:=⟨by first|exact e.frames|(simpa[gP,Code.envs,Code.isFrame,pushEnvs]using e.frames),e.mod,e.bs,e.bsz,e.funs,e.frf,e.hok,e.bare⟩
section
variable {X:Cx}{pins:List (Addr×Obj)}{σ:St}{H:Hp}{s s':ah}
theorem Inv.env0(I:Inv X pins σ H s):Env0 X.prog X.w X.K X.mg X.base X.A X.stack s H:=⟨I.ok.frames,I.ok.mod,I.bs,Nat.le_trans I.ok.bsz I.sz,I.stack,I.stkFree,I.hok,I.bare⟩
theorem Inv.after{Q:VK}{u:Value}(I:Inv X pins σ H s)(h:CE X.stack X.prog X.w H s Q u s'):EP X pins σ Q u s':=by obtain⟨v,H',os,bare,un,hok,r,q⟩:=h;obtain⟨hh,g,d,t,os'⟩:=s';obtain rfl:os'=s.os:=os;exact⟨v,H',I.call (h':=hh) (g':=g) (d':=d) (t':=t) (ch:=[]) un hok bare (λb z=>absurd z (by simp)),r,q⟩
end
def M7(sp:Sp)(dvs:List V)(E:XK)(t:TA):TE:=λσ H Q=>t σ H λvs H1=>sp (vs++dvs) H1 Q E
def M6(C:Addr)(m:Str)(sp:Sp)(dvs:List V)(E:XK)(ta:TE)(t:TA):TE:=λσ H Q=>ta σ H λx H1=>∃a dx fs,x=.ref a/\H1 a=some (.ins C dx fs)/\fs.lookup m=none /\t σ H1 λvs H2=>sp (x::(vs++dvs)) H2 Q E
def DW(C:Addr)(sp:Sp)(dvs:List V)(E:XK)(t:TA):TE:=λσ H Q=>t σ H λvs H1=>∀x dx,H1 x=none->H1 dx=none->dx≠x ->sp (.ref x::(vs++dvs)) (upd (upd H1 dx (.own x)) x (.ins C dx [])) (λv H2=>v=.non/\Q (.ref x) H2) E
def Binds(K:ae)(fd:b_)(ps:List Str)(ds:List Value):Prop:=∀(s:ah)(us:List Value),K.In s.heap->(us++ds).length=ps.length->BindsTo s fd ⟨us,[]⟩ (ps.zip (us++ds))
theorem Binds.all{K:ae}{fd:b_}{ps:List Str}(h:∀us:List Value,us.length=ps.length->bindArgs fd ⟨us,[]⟩=pure (ps.zip us)):Binds K fd ps []:=λs us _ hl=>by rw[bp]at hl ⊢;exact .of_eq (h us hl)
def Passes(CX:CXT)(X:Cx)(E:XK):Prop:=∀(pins:List (Addr×Obj))(σ:St)(H:Hp)(s:ah)(e:Value)(s':ah),Inv X pins σ H s->CX X.stack H s E e s'->X.xe e s'
section
variable {X:Cx}{CX:CXT}{k:Nat}{f C:Addr}{fd:b_}{ps:List Str}{sp:Sp}{dvs:List V}{ds:List Value}{E:XK}{x m:Str}{p pos apos:Pos}{e o:Expr}{es:List Expr}{ta:TE}{t:TA}
theorem Mr{pins:List (Addr×Obj)}{σ:St}{H:Hp}{s:ah}{Q:VK}{us:List Value}{vs:List V}(F:FnOk X.prog X.w X.K X.mg X.base CX k f fd ps sp)(hr:Room k X.A)(hb:Binds X.K fd ps ds)(hd:Vals dvs ds)(hx:Passes CX X E)(I:Inv X pins σ H s)(r:Vals vs us)(h:sp (vs++dvs) H Q E):wpAny (model X.prog X.w) X.A (call (.ref f) us) (EP X pins σ Q) X.xe s:=by
 have r2:Vals (vs++dvs) (us++ds):=r.append hd;have hl:(us++ds).length=ps.length:=by rw[<-r2.length];exact F.len _ _ _ _ h
 refine wpAny_call (codeAny_mono (F.run X.A X.stack s H ⟨us,[]⟩ (us++ds) (vs++dvs) Q E hr I.env0 (hb s us I.kIn hl) r2 h) λr s' hq=>?_);cases r with
|error e=>exact hx pins σ H s e s' I hq
|ok fl=>
  cases fl with
 |ret u=>exact I.after hq
 |next=>exact False.elim hq
 |brk=>exact False.elim hq
 |cont=>exact False.elim hq
theorem Kc(F:FnOk X.prog X.w X.K X.mg X.base CX k f fd ps sp)(hr:Room k X.A)(hg:Gl X x)(hm:X.mg x=some (.ref f))(hk:bw X.K (.ref f)=true)(hb:Binds X.K fd ps ds)(hd:Vals dvs ds)(hx:Passes CX X E)(ha:PA X (e::es) t)(hdb:(x==("__debug__":Str))=false:=by decide)(he:az (e::es) X.env=(false,eval e X.env)::az es X.env:=by rfl)(hpl:(b8 pos (az es X.env)).any (·.1)=false:=by rfl):PE X (.Call (.Name x p) (e::es) [] pos) (M7 sp dvs E t):=by intro pins s σ H Q I h;refine dA (MF I hg hm ?_ hdb);refine fg (h₀:=X.base) I.ok.mod.kin hk (thn (ha pos pins s σ H _ I h) λus s1⟨vs,H1,I1,r,q⟩=>⟨I1.kIn,?_⟩) he hpl;exact Mr F hr hb hd hx I1 r q
theorem Kb{pl:Sem Bool}(he:PE X o ta)(c:Cls X.K C)(hm:Meth X.K C m f)(F:FnOk X.prog X.w X.K X.mg X.base CX k f fd ps sp)(hr:Room k X.A)(hb:Binds X.K fd ps ds)(hd:Vals dvs ds)(hx:Passes CX X E)(ha:PA X (e::es) t)
  (hst:az (e::es) X.env=(false,eval e X.env)::az es X.env:=by rfl) (hpl:(b8 pos (az es X.env)).any (·.1)=false:=by rfl)
  (ht:eval (.Call (.Attribute o m apos) (e::es) [] pos) X.env=(do
   let ov <-eval o X.env
   g7 apos.atName
   let (f,first) <-fB [ov] (fF ov m pl)
   gW pos f first (b8 pos (az (e::es) X.env)) (eO pos (cV [] X.env))):=by rfl):
  PE X (.Call (.Attribute o m apos) (e::es) [] pos) (M6 C m sp dvs E ta t):=by
 intro pins s σ H Q I h
 refine d7 (pl:=pl) (thn (he pins s σ H _ I h) λu s1 hZ=>?_) ht;obtain⟨x,H1,I1,rx,a,dx,fs,ex,ea,l,q⟩:=hZ
 subst ex
 obtain rfl:u=Value.ref a:=rx
 refine J3 I1 ea c hm l ?_
 refine fg (first:=[.ref a]) (h₀:=X.base) I.ok.mod.kin hm.kp (thn (ha pos pins s1 σ H1 _ I1 q) λus s2⟨vs,H2,I2,r,q2⟩=>⟨I2.kIn,?_⟩) hst hpl
 exact Mr (us:=.ref a::us) (vs:=.ref a::vs) F hr hb hd hx I2 (.cons rfl r) q2
theorem Tw{pl:Sem Bool}(he:PE X o ta)(c:Cls X.K C)(hm:Meth X.K C m f)(F:FnOk X.prog X.w X.K X.mg X.base CX k f fd ps sp)(hr:Room k X.A)(hb:Binds X.K fd ps ds)(hd:Vals dvs ds)(hx:Passes CX X E)
  (ht:eval (.Call (.Attribute o m apos) [] [] pos) X.env=(do
   let ov <-eval o X.env
   g7 apos.atName
   let (f,first) <-fB [ov] (fF ov m pl)
   gW pos f first (b8 pos (az [] X.env)) (eO pos (cV [] X.env))):=by rfl):
  PE X (.Call (.Attribute o m apos) [] [] pos) (M6 C m sp dvs E ta tNil):=by
 intro pins s σ H Q I h
 refine d7 (pl:=pl) (thn (he pins s σ H _ I h) λu s1 hZ=>?_) ht;obtain⟨x,H1,I1,rx,a,dx,fs,ex,ea,l,q⟩:=hZ
 subst ex
 obtain rfl:u=Value.ref a:=rx
 refine J3 I1 ea c hm l ?_
 exact PySem.W.callWith_K0 (first:=[.ref a]) I1.kIn hm.kp (Mr (us:=[.ref a]) (vs:=[.ref a]) F hr hb hd hx I1 (.cons rfl .nil) q)
structure Mk(K:ae)(C f:Addr):Prop where
 makes:fK K C=true
 init:aG K (.ref C) "__init__"=some (some (.ref f))
 fn:e_ K (.ref f)=true
 kp:bw K (.ref C)=true
theorem SV{pins:List (Addr×Obj)}{σ:St}{H:Hp}{s:ah}{Q:VK}{us:List Value}{vs:List V}(M:Mk X.K C f)(F:FnOk X.prog X.w X.K X.mg X.base CX k f fd ps sp)(hr:Room (k+1) X.A)(hb:Binds X.K fd ps ds)(hd:Vals dvs ds)(hx:Passes CX X E)(I:Inv X pins σ H s)(r:Vals vs us)(h:∀x dx,H x=none->H dx=none->dx≠x->sp (.ref x::(vs++dvs)) (upd (upd H dx (.own x)) x (.ins C dx [])) (λv H2=>v=.non/\Q (.ref x) H2) E):wpAny (model X.prog X.w) X.A (call (.ref C) us) (EP X pins σ Q) X.xe s:=by
 have hq:=h (s.heap.objs.size+1) s.heap.objs.size (I.hok.fresh (Nat.le_succ _)) (I.hok.fresh (Nat.le_refl _)) (Nat.ne_of_lt (Nat.lt_succ_self _));have I2:=Inv.made (C:=C) I;have r2:Vals (V.ref (s.heap.objs.size+1)::(vs++dvs)) (Value.ref (s.heap.objs.size+1)::(us++ds)):=.cons rfl (r.append hd);have hl:(Value.ref (s.heap.objs.size+1)::us++ds).length=ps.length:=by have e:=r2.length;rw[F.len _ _ _ _ hq]at e;exact e.symm
 refine wpAny_call (TZ (f:=f) I.kIn M.makes M.init (beq_iff_eq.mp M.fn) (codeAny_mono (F.run _ X.stack _ _ ⟨Value.ref (s.heap.objs.size+1)::us,[]⟩ (Value.ref (s.heap.objs.size+1)::(us++ds)) _ _ E (hr.make C us []) (I2.env0.make C us []) (hb _ (Value.ref (s.heap.objs.size+1)::us) I2.kIn hl) r2 hq) λr s' hq'=>?_));cases r with
|error e=>exact hx pins σ _ _ e s' I2 hq'
|ok fl=>
  cases fl with
 |ret u=>obtain⟨v,H',I3,rv,ev,q3⟩:=I2.after hq';subst ev;exact⟨rv,⟨V.ref (s.heap.objs.size+1),H',I3,rfl,q3⟩⟩
 |next=>exact False.elim hq'
 |brk=>exact False.elim hq'
 |cont=>exact False.elim hq'
theorem Vh(M:Mk X.K C f)(F:FnOk X.prog X.w X.K X.mg X.base CX k f fd ps sp)(hr:Room (k+1) X.A)(hg:Gl X x)(hm:X.mg x=some (.ref C))(hb:Binds X.K fd ps ds)(hd:Vals dvs ds)(hx:Passes CX X E)(ha:PA X (e::es) t)(hdb:(x==("__debug__":Str))=false:=by decide)(he:az (e::es) X.env=(false,eval e X.env)::az es X.env:=by rfl)(hpl:(b8 pos (az es X.env)).any (·.1)=false:=by rfl):PE X (.Call (.Name x p) (e::es) [] pos) (DW C sp dvs E t):=by intro pins s σ H Q I h;refine dA (MF I hg hm ?_ hdb);refine fg (h₀:=X.base) I.ok.mod.kin M.kp (thn (ha pos pins s σ H _ I h) λus s1⟨vs,H1,I1,r,q⟩=>⟨I1.kIn,?_⟩) he hpl;exact SV M F hr hb hd hx I1 r q
end
structure FnScope(N P:List Str)(sc:Scope):Prop where
 kind:sc.kind=.function
 co:sc.isCoroutine=false
 gen:sc.isGenerator=false
 nd:N.Nodup
 pre:N.take P.length=P
 par:∀x∈P,sc.names.lookup x=some .local\/sc.names.lookup x=some .cell
 nofree:∀y∈sc.names,y.2≠.free
theorem G9{kindOf:Str->Option dR}{x:Str}:∀{binds:List (Str×Value)}{m:Str->Option Value},(∀v,(x,v)∉binds)->bindL kindOf binds m x=m x
|[],_,_=>rfl
|(n,v)::r,m,h=>by
  unfold bindL;rw[G9 λw hw=>h w (aq _ hw)];split
  ·have:x≠n:=by rintro rfl;exact h v aA
   simp[this]
  ·rfl
theorem Mb{kindOf:Str->Option dR}{x:Str}:∀{binds:List (Str×Value)}{m:Str->Option Value},(∀v,(x,v)∉binds)->bindC kindOf binds m x=m x
|[],_,_=>rfl
|(n,v)::r,m,h=>by
  unfold bindC;rw[Mb λw hw=>h w (aq _ hw)];split
  ·rfl
  ·have:x≠n:=by rintro rfl;exact h v aA
   simp[this]
theorem Ma{kindOf:Str->Option dR}{x:Str}{v:Value}:∀{P:List Str}{vs:List Value}{i:Nat}{m:Str->Option Value},P.Nodup->P[i]?=some x->vs[i]?=some v->kindOf x=some .local ->bindL kindOf (P.zip vs) m x=some v
|[],_,_,_,_,h,_,_=>by simp at h
|_::_,[],_,_,_,_,h,_=>by simp at h
|p::P,w::vs,0,m,nd,h1,h2,hk=>by simp at h1 h2;subst h1;subst h2;show bindL kindOf ((p,w)::P.zip vs) m p=_;unfold bindL;rw[G9 λv hv=>(bo.mp nd).1 (fX hv).1,if_pos hk];simp
|p::P,w::vs,i+1,m,nd,h1,h2,hk=>by show bindL kindOf ((p,w)::P.zip vs) m x=_;unfold bindL;exact Ma (i:=i) (bo.mp nd).2 (by simpa using h1) (by simpa using h2) hk
theorem Mc{kindOf:Str->Option dR}{x:Str}{v:Value}:∀{P:List Str}{vs:List Value}{i:Nat}{m:Str->Option Value},P.Nodup->P[i]?=some x->vs[i]?=some v->kindOf x≠some .local ->bindC kindOf (P.zip vs) m x=some v
|[],_,_,_,_,h,_,_=>by simp at h
|_::_,[],_,_,_,_,h,_=>by simp at h
|p::P,w::vs,0,m,nd,h1,h2,hk=>by simp at h1 h2;subst h1;subst h2;show bindC kindOf ((p,w)::P.zip vs) m p=_;unfold bindC;rw[Mb λv hv=>(bo.mp nd).1 (fX hv).1,if_neg hk];simp
|p::P,w::vs,i+1,m,nd,h1,h2,hk=>by show bindC kindOf ((p,w)::P.zip vs) m x=_;unfold bindC;exact Mc (i:=i) (bo.mp nd).2 (by simpa using h1) (by simpa using h2) hk
noncomputable def start(N:List Str)(vs:List V):St:=vs.map some++List.replicate (N.length-vs.length) none
noncomputable def cxOf(CX:CXT)(P:Program)(w:World)(K:ae)(mg:Str->Option Value)(base:Heap)(N:List Str)(qual:Str)(scope:Scope)(f:Addr)(cd:Value)(A:br)(outer:List Env)(s:ah)(H:Hp)(E:XK):Cx where
 prog:=P
 w:=w
 K:=K
 mg:=mg
 base:=base
 A:=A.deeper (eM qual scope s.heap.objs.size f cd)
 N:=N
 s₀:=s
 H₀:=H
 env:=eM qual scope s.heap.objs.size f cd
 outer:=outer
 stack:=eM qual scope s.heap.objs.size f cd::outer
 ex:=[]
 calm:=true
 fn:=λ_=>true
 pn:=[]
 xe:=λe s'=>wpAny (model P w) (A.deeper (eM qual scope s.heap.objs.size f cd)) (leaving (eM qual scope s.heap.objs.size f cd) e) (λ_ s''=>CX outer H s E e s'') (λe' s''=>CX outer H s E e' s'') s'
theorem NW{sc:Scope}{n:Nat}{x:Str}(h:sc.names.lookup x=some .cell):∃c,(cellsFrom n sc.names []).lookup x=some c:=by have q:=PySem.W.cellsFrom_some sc.names n [] (.inl h);exact b7.mp q
theorem RI{CX:CXT}{P:Program}{w:World}{K:ae}{mg:Str->Option Value}{base:Heap}{N ps:List Str}{qual:Str}{scope:Scope}{f:Addr}{cd:Value}{A:br}{outer:List Env}{s s1:ah}{H:Hp}{E:XK}{us:List Value}{vs:List V}(S:FnScope N ps scope)(hd:A.handled=none)(e0:Env0 P w K mg base A outer s H)(hl:vs.length=ps.length)(r:Vals vs us)(x:InCallC s s.heap.objs.size (bindL (eM qual scope s.heap.objs.size f cd).kindOf (ps.zip us) λ_=>none) (cellsFrom (s.heap.objs.size+1) scope.names []) (bindC (eM qual scope s.heap.objs.size f cd).kindOf (ps.zip us) λ_=>none) s1):Inv (cxOf CX P w K mg base N qual scope f cd A outer s H E) [] (start N vs) H s1:=by
 have hpl:ps.length<=N.length:=by have:=congrArg fD S.pre;rw[aF]at this;omega
 obtain⟨h1,tk,rfl,hk⟩:=x.done;have noA:∀b:Addr,b∉(cxOf CX P w K mg base N qual scope f cd A outer s H E).ex:=λb z=>absurd (show b∈([]:List Addr)from z) (by simp);refine⟨⟨e0.mod,S.kind,rfl,rfl,Nat.le_refl _,λy z c h1 h2=>?_,λy hy=>?_,λy c _ h=>?_,λ_=>hd,Around.frames_deeper e0.frames,.inr ⟨rfl,rfl⟩,λb z=>absurd z (noA b),e0.bs,e0.bsz,λb _ _=>noA b,λb z=>absurd z (noA b),e0.funs,e0.frf⟩,rfl,e0.bare,Un.kept hk,⟨_,x.toInCall.ns,λi y v h1 h2 h3=>?_⟩,λy c h=>⟨_,x.cell y c h⟩,e0.hok.fresh (Nat.le_refl _),λy c h=>?_,λp hp=>absurd (show p∈([]:List (Addr×Obj))from hp) (by simp),e0.hok.kept hk,?_⟩
 ·exact name_of_addr x.apart (cU h1) (cU h2)
 ·have hy:scope.names.lookup y=some .cell\/scope.names.lookup y=some .free:=hy;rcases hy with hy|hy
  ·exact NW hy
  ·exact absurd rfl (S.nofree _ (cU hy))
 ·exact Nat.le_of_lt (x.above y c (cU h))
 ·have hi:i<vs.length:=by
   unfold start at h2;by_cases hi:i<vs.length
   ·exact hi
   ·rw[dG (by simpa using hi)]at h2;rw[List.getElem?_replicate]at h2;split at h2<;>cases h2
  have ha:vs[i]?=some v:=by
   unfold start at h2;rw[dO (by simpa using hi),aW]at h2;cases e:vs[i]? with
  |none=>rw[e]at h2;cases h2
  |some a=>rw[e]at h2;cases h2;rfl
  obtain⟨u,hu,rv⟩:=r.get ha;have hp:ps[i]?=some y:=by rw[<-S.pre,List.getElem?_take_of_lt (by omega)];exact h1
  have ndP:ps.Nodup:=by rw[<-S.pre];exact S.nd.sublist (List.take_sublist _ _)
  refine⟨u,rv,?_⟩;rcases S.par y (a_ hp)with k|k
  ·exact .inl ⟨k,Ma ndP hp hu k⟩
  ·obtain⟨c,e⟩:=NW (n:=s.heap.objs.size+1) k;refine .inr ⟨.inl k,c,e,?_⟩;have q:=x.cell y c e;rw[Mc ndP hp hu (by show scope.names.lookup y≠_;rw[k];decide)]at q;exact q
 ·exact e0.hok.fresh (Nat.le_of_lt (x.above y c (cU h)))
 ·unfold start;show _=N.length;rw[av,bQ,List.length_replicate];omega
theorem Ew{CX:CXT}{P:Program}{w:World}{K:ae}{mg:Str->Option Value}{base:Heap}{k:Nat}{f:Addr}{name qual:Str}{params:Arguments}{body:List Stmt}{scope:Scope}{dV kV doc pm cdv ct oc:Value}{an od:Option Addr}{osl:Array (Option Value)}{N ps:List Str}{sp:Sp}(lk:K.lookup f=some ⟨oc,od,.func (bF name qual params body scope dV kV doc pm an cdv ct),osl⟩)(hcd:cw K cdv qual=true)(S:FnScope N ps scope)(len:∀vs H Q E,sp vs H Q E->vs.length=ps.length)(hbody:∀(A:br)(outer:List Env)(s:ah)(H:Hp)(vs:List V)(Q:VK)(E:XK),Room k (A.deeper (eM qual scope s.heap.objs.size f cdv))->sp vs H Q E ->∃t,PSs (cxOf CX P w K mg base N qual scope f cdv A outer s H E) body t/\t {nx:=λ_ H'=>Q .non H',rt:=Q} (start N vs) H):FnOk P w K mg base CX (k+1) f (bF name qual params body scope dV kV doc pm an cdv ct) ps sp:=by
 refine⟨len,λA outer s H args us vs Q E hr e0 hb r hsp=>?_⟩;have hl:=len _ _ _ _ hsp;have KX:K.In s.heap:=e0.mod.kin.keeps λb o e=>(e0.bs b o e).1;have lim:s.heap.NoLimit:=e0.mod.nolimit.keeps λb o e=>(e0.bs b o e).1;have hkind:∀y∈ps.zip us,scope.names.lookup y.1=some .local\/(scope.names.lookup y.1=some .cell/\((cellsFrom (s.heap.objs.size+1) scope.names []).lookup y.1).isSome=true):=λ⟨n,v⟩hy=>by
  rcases S.par n (fX hy).1 with q|q
  ·exact .inl q
  ·exact .inr ⟨q,PySem.W.cellsFrom_some _ _ _ (.inl q)⟩
 refine codeAny_call_function hr.depth (KX _ _ lk) rfl S.co S.gen rfl (PySem.W.codeRec_of KX hcd) (hb _ _ _ _ ?_);refine wpAny_newFunctionEnv_cells S.kind hkind λenv he s1 x=>?_;subst he;refine⟨lim.keeps x.toInCall.keep,codeAny_func ?_⟩;obtain⟨t,ht,hq⟩:=hbody A outer s H vs Q E (hr.deeper _) hsp;have I:Inv (cxOf CX P w K mg base N qual scope f cdv A outer s H E) [] (start N vs) H s1:=RI S hr.hd e0 hl r x;refine dz (ht [] s1 (start N vs) H _ I hq) (λfl s' hs=>?_) λe s' hs=>hs;have fin:∀{σ':St}{H':Hp}{v:V}{u:Value},Inv (cxOf CX P w K mg base N qual scope f cdv A outer s H E) [] σ' H' s'->RelV v u->Q v H'->CE outer P w H s Q u s':=λ{σ' H' v u}J rv q=>⟨v,H',J.os,J.bare,J.base,J.hok,rv,q⟩;cases fl with
|ret u=>obtain⟨v,σ',H',J,rv,q⟩:=hs;exact fin J rv q
|next=>obtain⟨σ',H',J,q⟩:=hs;exact fin (v:=V.non) (u:=Value.none) J rfl q
|brk=>obtain⟨_,_,_,q⟩:=hs;exact False.elim q
|cont=>obtain⟨_,_,_,q⟩:=hs;exact False.elim q
open PySem PySem.Spec PyProof.Rows
section
variable {X:Cx}{x:Str}{p pos:Pos}{e:Expr}{es:List Expr}{t:TA}{id T:String}{r:List V->Hp->VK->Prop}
def tCB(r:List V->Hp->VK->Prop)(t:TA):TE:=λσ H Q=>t σ H λvs H1=>r vs H1 Q
theorem Zy(hc:Xx X (.builtin id) r)(hg:Gl X x)(hm:X.mg x=none)(hv:bt x=some (.builtin id))(ha:PA X (e::es) t)(hn:x≠"__name__":=by decide)(hdb:(x==("__debug__":Str))=false:=by decide)(he:az (e::es) X.env=(false,eval e X.env)::az es X.env:=by rfl)(hpl:(b8 pos (az es X.env)).any (·.1)=false:=by rfl):PE X (.Call (.Name x p) (e::es) [] pos) (tCB r t):=by intro pins s σ H Q I h;refine dA (Xp I hg hm hv ?_ hn hdb);exact PyProof.Rows.callWith_builtin1 (thn (ha pos pins s σ H _ I h) λus s1⟨vs,H1,I1,r1,q1⟩=>hc pins s1 σ H1 vs us Q I1 r1 q1) he hpl
theorem Xn(hc:Xx X (.type T) r)(hg:Gl X x)(hm:X.mg x=none)(hv:bt x=some (.type T))(ha:PA X (e::es) t)(hn:x≠"__name__":=by decide)(hdb:(x==("__debug__":Str))=false:=by decide)(he:az (e::es) X.env=(false,eval e X.env)::az es X.env:=by rfl)(hpl:(b8 pos (az es X.env)).any (·.1)=false:=by rfl):PE X (.Call (.Name x p) (e::es) [] pos) (tCB r t):=by intro pins s σ H Q I h;refine dA (Xp I hg hm hv ?_ hn hdb);exact bc (thn (ha pos pins s σ H _ I h) λus s1⟨vs,H1,I1,r1,q1⟩=>hc pins s1 σ H1 vs us Q I1 r1 q1) he hpl
end
end L2
namespace HT
open PySem PyProof.Rows
section
variable {prog:Program}{w:World}{A:br}{E:Value->ah->Prop}{s:ah}
theorem cat_tup{t b:Addr}{vs ws:List Value}{Q:Value->ah->Prop}(ht:IsTup s.heap t vs.toArray)(hb:IsTup s.heap b ws.toArray)(hv:vs≠[])(h1:ws=[]->Q (.ref t) s)(h2:ws≠[]->Q (.ref s.heap.objs.size) {s with heap:=s.heap.push {cls:=.type "tuple",data:=.seq (vs++ws).toArray}})(hsz:vs.length+ws.length<=sizeLine):wpAny (model prog w) A (d5 .Add (.ref t) (.ref b)) Q E s:=by
 obtain⟨⟨cls,dd,data,sl⟩,ho,hc,n,hd⟩:=id ht;obtain⟨⟨cls2,dd2,data2,sl2⟩,ho2,hc2,n2,hd2⟩:=id hb;simp only at hc hd hc2 hd2;subst hc hd hc2 hd2;have e:vs.toArray++ws.toArray=(vs++ws).toArray:=by simp
 by_cases hw:ws=[]
 ·exact concat_meets ⟨_,ho,rfl⟩ ⟨_,ho2,rfl⟩ noFill_tuple_add seq_tuple_add fI fE (fy _ _) (tuple_addW1 t b vs.toArray ws.toArray n n2 dd dd2 sl sl2 (by simpa using hv) (by simp[hw])) ⟨ho,ho2,h1 hw⟩
 ·refine concat_meets ⟨_,ho,rfl⟩ ⟨_,ho2,rfl⟩ noFill_tuple_add seq_tuple_add fI fE (fy _ _) (tuple_addW2 t b vs.toArray ws.toArray n n2 dd dd2 sl sl2 (by simpa using hv) (by simpa using hw) (by rw[ao,ao];exact hsz)) ⟨ho,ho2,?_⟩;rw[e];exact h2 hw
noncomputable def sIx(n d:Nat):Option Int->Nat
|none=>d
|some v=>if v<0 then(v+(n:Int)).toNat else min v.toNat n
theorem sIx_nat(n d k:Nat):sIx n d (some (k:Int))=min k n:=by show(if(k:Int)<0 then((k:Int)+(n:Int)).toNat else min (k:Int).toNat n)=min k n;rw[if_neg (by omega),Int.toNat_natCast]
theorem Lu(n d:Nat)(hd:d<=n)(o:Option Int):sIx n d o<=n:=by
 cases o with
|none=>exact hd
|some v=>
  show(if v<0 then(v+(n:Int)).toNat else min v.toNat n)<=n;by_cases hv:v<0
  ·rw[if_pos hv];omega
  ·rw[if_neg hv];exact Nat.min_le_right _ _
theorem Q1(v:Int)(n d:Nat):(if v<0 then max (v+(n:Int)) 0 else min v (n:Int))=((sIx n d (some v):Nat):Int):=by
 show(if v<0 then max (v+(n:Int)) 0 else min v (n:Int))=(((if v<0 then(v+(n:Int)).toNat else min v.toNat n):Nat):Int);by_cases hv:v<0
 ·simp only[if_pos hv];omega
 ·simp only[if_neg hv];omega
theorem Qi(lo hi:Option Int)(n:Nat):eU lo hi 1 (n:Int)=(((sIx n 0 lo:Nat):Int),((sIx n n hi:Nat):Int)):=by
 have h1:¬((1:Int)<0):=by omega
 unfold eU;simp only[h1,if_false];refine Prod.ext ?_ ?_
 ·cases lo with
 |none=>rfl
 |some v=>exact Q1 v n 0
 ·cases hi with
 |none=>rfl
 |some v=>exact Q1 v n n
theorem Pq(i j:Nat):dk (i:Int) (j:Int) 1=j-i:=by
 unfold dk;have h1:(1:Int)>0:=by omega
 simp only[h1,if_true,Int.ediv_one];split<;>omega
theorem UN{v:Value}{o:Option Int}{Q:Option Int->ah->Prop}(p:IsPart v o)(h:Q o s):wpAny (model prog w) A (Builtin.Slice.slicePartIndex v) Q E s:=by
 cases p with
|none=>exact slicePart_none h
|int i t=>exact slicePart_int h
theorem VQ{sl:Addr}{vl vu:Value}{lo hi:Option Int}{n:Nat}{Q:Int×Int×Nat->ah->Prop}(hs:s.heap.IsSliceOf sl vl vu .none)(pl:IsPart vl lo)(pu:IsPart vu hi)(h:Q (((sIx n 0 lo:Nat):Int),1,sIx n n hi-sIx n 0 lo) s):wpAny (model prog w) A (gN (.ref sl) (pure (n:Int))) Q E s:=by
 obtain⟨os,hos,hcs,hds⟩:=id hs;unfold gN Builtin.Slice.sliceFields;refine aa (aa (cA hos hds (x:=vl) rfl (aa (cA hos hds (x:=vu) rfl (aa (cA hos hds (x:=.none) rfl (af ?_)))))));refine aa (slicePart_none ?_);show wpAny _ _ (if((1:Int)==0)=true then _ else _) _ _ s;rw[if_neg (by decide)];refine aa (UN pl (aa (UN pu (aa (af ?_)))));show wpAny _ _ (match eU lo hi 1 (n:Int)with|(lo,hi)=>pure (lo,(1:Int),dk lo hi 1)) _ _ s
 rw[Qi lo hi n];show wpAny _ _ (pure (((sIx n 0 lo:Nat):Int),(1:Int),dk ((sIx n 0 lo:Nat):Int) ((sIx n n hi:Nat):Int) 1)) _ _ s;rw[Pq];exact af h
theorem Tq(xs:Array Value)(i k:Nat):((bh k).filterMap λ(m:Nat)=>xs[((i:Int)+(m:Int)*1).toNat]?).toArray=((xs.toList.drop i).take k).toArray:=by
 have e:(λ(m:Nat)=>xs[((i:Int)+(m:Int)*1).toNat]?)=λm=>xs[i+m]?:=by
  funext m;have:((i:Int)+(m:Int)*1).toNat=i+m:=by omega
  rw[this]
 rw[e];have:=pick_run xs i k;rw[List.filterMap_map]at this;have e2:((λx=>xs[x]?) ∘ λx=>i+x)=λm=>xs[i+m]?:=rfl;rw[e2]at this;rw[this]
theorem getItem_tuple_cut{t sl:Addr}{items:Array Value}{vl vu:Value}{lo hi:Option Int}{Q:Value->ah->Prop}(ht:IsTup s.heap t items)(hs:s.heap.IsSliceOf sl vl vu .none)(pl:IsPart vl lo)(pu:IsPart vu hi)(hw:¬(sIx items.size 0 lo=0/\sIx items.size items.size hi=items.size))(h:Q (.ref s.heap.objs.size) {s with heap:=s.heap.push {cls:=.type "tuple",data:=.seq ((items.toList.drop (sIx items.size 0 lo)).take (sIx items.size items.size hi-sIx items.size 0 lo)).toArray}})(hsz:items.size<=sizeLine):wpAny (model prog w) A (fR (.ref t) (.ref sl)) Q E s:=by
 have htake:sizeOk (.seq ((items.toList.drop (sIx items.size 0 lo)).take (sIx items.size items.size hi-sIx items.size 0 lo)).toArray):=by show((items.toList.drop (sIx items.size 0 lo)).take (sIx items.size items.size hi-sIx items.size 0 lo)).toArray.size<=sizeLine;rw[ao,aF,c6,bz];omega
 have hj:sIx items.size items.size hi<=items.size:=Lu _ _ (Nat.le_refl _) hi;obtain⟨os,hos,hcs,hds⟩:=id hs;have hTs:s.TypeIs (.ref sl) "slice":=⟨os,hos,hcs⟩;unfold fR;try with_reducible refine aX ?_
 first|refine aa (af ?_)|skip
 refine aa (wpAny_sequenceKey ht.typeIs (by decide) ?_);refine aa (bf (name:=Str.ofString "__getitem__") ht.typeIs dU (a9 dU ht.typeIs entry_tuple_getitem ?_ (args_tuple_getitem _ _)));show wpAny _ _ (Builtin.Tuple.tupleItemsOf (.ref t) >>= _) _ _ s;refine aa (tupleItemsOf_ ht ?_);refine aa (wpAny_typeOf hTs ?_);rw[if_pos (by decide)];refine aa (VQ hs pl pu ?_);have hno:¬((((sIx items.size 0 lo:Nat):Int)==0&&(1:Int)==1&&(sIx items.size items.size hi-sIx items.size 0 lo)==items.size)=true):=by intro q;rw[Bool.and_eq_true,Bool.and_eq_true]at q;have q1:((sIx items.size 0 lo:Nat):Int)=0:=eq_of_beq q.1.1;have q2:sIx items.size items.size hi-sIx items.size 0 lo=items.size:=eq_of_beq q.2;exact hw ⟨by omega,by omega⟩
 show wpAny _ _ (if(((sIx items.size 0 lo:Nat):Int)==0&&(1:Int)==1&&(sIx items.size items.size hi-sIx items.size 0 lo)==items.size)=true then _ else _) _ _ s;rw[if_neg hno,Tq];first
 |exact aa (m:=bY _) (aO (af ⟨_,rfl,af h⟩) htake)
 |exact aa (m:=bY _) (aO (aa (af (af ⟨_,rfl,af h⟩))) htake)
 |exact aa (aa (m:=bY _) (aO (af (af ⟨_,rfl,af h⟩)) htake))
 |exact aa (aa (m:=bY _) (aO (af ⟨_,rfl,af h⟩) htake))
end
end HT
namespace L2
open PySem PySem.Spec PyProof.Rows
noncomputable abbrev TO:=St->Hp->(Option Int->Hp->Prop)->Prop
def PO(X:Cx)(e:Option Expr)(t:TO):Prop:=∀(pins:List (Addr×Obj))(s:ah)(σ:St)(H:Hp)(Q:Option Int->Hp->Prop),Inv X pins σ H s->t σ H Q ->wpAny (model X.prog X.w) X.A (evalPart e X.env) (λu s'=>∃o H',Inv X pins σ H' s'/\IsPart u o/\Q o H') X.xe s
noncomputable def WR:TO:=λ_ H Q=>Q none H
noncomputable def DU(t:TE):TO:=λσ H Q=>t σ H λx H1=>∃i,x=.int i/\Q (some i) H1
section
variable {X:Cx}{e:Expr}{te:TE}{lo hi:Option Expr}{tl th:TO}{pos p2:Pos}
theorem Jz:PO X none WR:=by intro pins s σ H Q I h;rw[evalPart_none];exact af ⟨none,H,I,.none,h⟩
theorem Jy(h:PE X e te):PO X (some e) (DU te):=by intro pins s σ H Q I hw;rw[evalPart_some];refine thn (h pins s σ H _ I hw) λu s1 hZ=>?_;obtain⟨x,H1,I1,r1,q1⟩:=hZ;obtain⟨i,rfl,q⟩:=q1;obtain⟨t,rfl⟩:=r1;exact⟨some i,H1,I1,.int i t,q⟩
def SlR(X:Cx)(r:V->Option Int->Option Int->Hp->VK->Prop):Prop:=∀(pins:List (Addr×Obj))(s:ah)(σ:St)(H:Hp)(x:V)(v vl vu:Value)(lo hi:Option Int)(sl:Addr)(Q:VK),Inv X pins σ H s->RelV x v->s.heap.IsSliceOf sl vl vu .none->IsPart vl lo->IsPart vu hi->r x lo hi H Q ->∃T id,typeLookup (.type T) "__getitem__"=pure (some (.builtin id))/\s.TypeIs v T/\wpAny (model X.prog X.w) X.A (fR v (.ref sl)) (EP X pins σ Q) X.xe s
def tSl(r:V->Option Int->Option Int->Hp->VK->Prop)(te:TE)(tl th:TO):TE:=λσ H Q=>te σ H λx H1=>tl σ H1 λl H2=>th σ H2 λu H3=>r x l u H3 Q
theorem XS{r:V->Option Int->Option Int->Hp->VK->Prop}(hr:SlR X r)(he:PE X e te)(hl:PO X lo tl)(hu:PO X hi th):PE X (.Subscript e (.Slice lo hi none p2) pos) (tSl r te tl th):=by intro pins s σ H Q I h;refine Subscript_ (thn (he pins s σ H _ I h) λv s1 hZ=>?_);obtain⟨x,H1,I1,r1,q1⟩:=hZ;refine wpAny_Slice (thn (hl pins s1 σ H1 _ I1 q1) λvl s2⟨l,H2,I2,pl,q2⟩=>thn (hu pins s2 σ H2 _ I2 q2) λvu s3 hZ=>?_);obtain⟨u,H3,I3,pu,q3⟩:=hZ;rw[evalPart_none];refine af ?_;have I4:Inv X pins σ H3 {s3 with heap:=s3.heap.push {cls:=.type "slice",data:=.fields #[vl,vu,.none]}}:=I3.kept (t':=s3.toks) λb ob q=>Heap.get?_push_of_some _ q;obtain⟨T,id,hT,ht,hg⟩:=hr pins {s3 with heap:=s3.heap.push {cls:=.type "slice",data:=.fields #[vl,vu,.none]}} σ H3 x v vl vu l u s3.heap.objs.size Q I4 r1 (Heap.IsSliceOf.new ..) pl pu q3;show wpAny (model X.prog X.w) X.A (subscriptTail e (.Slice lo hi none p2) v (.ref s3.heap.objs.size)) (EP X pins σ Q) X.xe {s3 with heap:=s3.heap.push {cls:=.type "slice",data:=.fields #[vl,vu,.none]}};exact tail_any (ops:=[.ref s3.heap.objs.size,v]) ht hT hg (by with_unfolding_all rfl)
noncomputable def cutV(xs:List V)(lo hi:Option Int):List V:=(xs.drop (HT.sIx xs.length 0 lo)).take (HT.sIx xs.length xs.length hi-HT.sIx xs.length 0 lo)
theorem Uk(xs:List V)(lo hi:Option Int):(cutV xs lo hi).length<=xs.length:=by unfold cutV;rw[aF,c6];omega
noncomputable def rSlT(K:ae):V->Option Int->Option Int->Hp->VK->Prop:=λx lo hi H Q=>∃a xs,x=.ref a/\SqT K H a xs /\¬(HT.sIx xs.length 0 lo=0/\HT.sIx xs.length xs.length hi=xs.length)/\∀p,H p=none->Q (.ref p) (upd H p (.tup (cutV xs lo hi)))
theorem Ln:SlR X (rSlT X.K):=by
 intro pins s σ H x v vl vu lo hi sl Q I rx hs pl pu h;obtain⟨a,xs,rfl,hx,hw,q⟩:=h;cases rx;obtain⟨its,r,ht,hz⟩:=I.tuple hx;have hlen:its.toArray.size=xs.length:=by rw[ao];exact r.length.symm
 refine⟨"tuple",_,dU.lookup,ht.typeIs,?_⟩;refine HT.getItem_tuple_cut ht hs pl pu (by rw[hlen];exact hw) ?_ (by rw[hlen];exact hz);rw[hlen];refine⟨.ref s.heap.objs.size,_,I.laid (t':=s.toks) (o:=.tup (cutV xs lo hi)) (λb ob q=>Heap.get?_push_of_some _ q) (Nat.le_refl _) ?_,rfl,q _ (I.hok.fresh (Nat.le_refl _))⟩;exact⟨Nat.le_trans (Uk xs lo hi) hz,_,(r.drop (HT.sIx xs.length 0 lo)).take (HT.sIx xs.length xs.length hi-HT.sIx xs.length 0 lo),IsTup.new _ _⟩
def Ej(K:ae):R2:=λx y H Q=>∃a b xs ys,x=.ref a/\y=.ref b/\SqT K H a xs/\SqT K H b ys/\xs≠[]/\xs.length+ys.length<=sizeLine /\(ys=[]->Q (.ref a) H)/\(ys≠[]->∀p,H p=none->Q (.ref p) (upd H p (.tup (xs++ys))))
theorem Vals.nil_iff{xs:List V}{us:List Value}(r:Vals xs us):us=[]↔xs=[]:=by
 cases r with
|nil=>simp
|cons _ _=>simp
theorem Kd:OpR X (d5 .Add) (Ej X.K):=by intro pins s σ H x y v u Q I rx ry h;obtain⟨a,b,xs,ys,rfl,rfl,ha,hb,hx,hz,q1,q2⟩:=h;cases rx;cases ry;obtain⟨its,r1,p1,_⟩:=I.tuple ha;obtain⟨its2,r2,p2,_⟩:=I.tuple hb;refine HT.cat_tup p1 p2 (λz=>hx (r1.nil_iff.mp z)) (λz=>⟨.ref a,H,I,rfl,q1 (r2.nil_iff.mp z)⟩) (λz=>?_) (by rw[<-r1.length,<-r2.length];exact hz);refine⟨.ref s.heap.objs.size,_,I.laid (t':=s.toks) (o:=.tup (xs++ys)) (λb ob q=>Heap.get?_push_of_some _ q) (Nat.le_refl _) ?_,rfl,q2 (λw=>z (r2.nil_iff.mpr w)) _ (I.hok.fresh (Nat.le_refl _))⟩;exact⟨by rw[av];exact hz,_,r1.append r2,IsTup.new _ _⟩
end
open PySem PySem.Spec PyProof.Rows
noncomputable def ixN(n:Nat)(i:Int):Option Nat:=if 0<=i then(if i<n then some i.toNat else none)else if -(n:Int)<=i then some (i+n).toNat else none
noncomputable def atI{α:Type}(xs:List α)(i:Int):Option α:=(ixN xs.length i).bind λj=>xs[j]?
theorem QS{n:Nat}{i:Int}{j:Nat}(h:ixN n i=some j):seqIndex? i n=some j/\j<n/\-(n:Int)<=i/\i<n:=by
 unfold ixN at h;by_cases h0:0<=i
 ·rw[if_pos h0]at h;by_cases h1:i<n
  ·rw[if_pos h1]at h;have e:i.toNat=j:=aB h;exact⟨by rw[seqIndex_of h0 h1,e],by omega,by omega,h1⟩
  ·rw[if_neg h1]at h;cases h
 ·rw[if_neg h0]at h;by_cases h1:-(n:Int)<=i
  ·rw[if_pos h1]at h;have e:(i+n).toNat=j:=aB h;exact⟨by rw[seqIndex_neg (by omega) h1,e],by omega,h1,by omega⟩
  ·rw[if_neg h1]at h;cases h
theorem MW{α:Type}{xs:List α}{i:Int}{v:α}(h:atI xs i=some v):∃j,seqIndex? i xs.length=some j/\xs[j]?=some v/\j<xs.length/\-(xs.length:Int)<=i/\i<xs.length:=by
 unfold atI at h;cases e:ixN xs.length i with
|none=>rw[e]at h;cases h
|some j=>rw[e]at h;obtain⟨h1,h2,h3,h4⟩:=QS e;exact⟨j,h1,h,h2,h3,h4⟩
theorem Zl{α:Type}{xs:List α}{j:Nat}{v:α}(h:xs[j]?=some v):atI xs (j:Int)=some v:=by
 have hj:j<xs.length:=(aj.mp h).1;have e:ixN xs.length (j:Int)=some j:=by unfold ixN;rw[if_pos (by omega),if_pos (by omega)];simp
 unfold atI;rw[e];exact h
def MY(b:Expr):Prop:=∀o i,subscripted b false o i=operate [o,i] (fR o i)
def IxR(X:Cx)(r:R2):Prop:=∀(value slice:Expr)(pins:List (Addr×Obj))(s:ah)(σ:St)(H:Hp)(x y:V)(v u:Value)(Q:VK),Inv X pins σ H s->RelV x v->RelV y u->r x y H Q ->subscripted slice false v u=operate [v,u] (fR v u)->wpAny (model X.prog X.w) X.A (subscriptTail value slice v u) (EP X pins σ Q) X.xe s
def MtR(X:Cx)(id:String)(r:V->List V->Hp->VK->Prop):Prop:=∀(pins:List (Addr×Obj))(s:ah)(σ:St)(H:Hp)(x:V)(xs:List V)(v:Value)(us:List Value)(Q:VK),Inv X pins σ H s->RelV x v->Vals xs us->r x xs H Q ->wpAny (model X.prog X.w) X.A (call (.builtin id) (v::us)) (EP X pins σ Q) X.xe s
section
variable {X:Cx}{a b:Expr}{ta tb:TE}{pos:Pos}
theorem Yd{r:R2}(hr:IxR X r)(ha:PE X a ta)(hb:PE X b tb)(hs:MY b):PE X (.Subscript a b pos) (tOp r ta tb):=by intro pins s σ H Q I h;exact Subscript_ (binT ha hb I h λv u s2 x y H2 I2 rx ry q=>hr a b pins s2 σ H2 x y v u Q I2 rx ry q (hs _ _))
def rIxL(K:ae):R2:=λx y H Q=>∃p xs i v,x=.ref p/\y=.int i/\SqL K H p xs/\atI xs i=some v/\Q v H
def rIxT(K:ae):R2:=λx y H Q=>∃p xs i v,x=.ref p/\y=.int i/\SqT K H p xs/\atI xs i=some v/\Q v H
def rIxS:R2:=λx y H Q=>∃z i c,x=.str z/\y=.int i/\z.length<=sizeLine/\atI z.cps.toList i=some c/\Q (.str ⟨#[c]⟩) H
theorem Ky:IxR X (rIxL X.K):=by
 intro value slice pins s σ H x y v u Q I rx ry h hs;obtain⟨p,xs,i,z,rfl,rfl,hq,he,q⟩:=h;cases rx;obtain⟨t,rfl⟩:=ry;obtain⟨its,r,pl,hz⟩:=I.list hq;obtain⟨j,h1,h2,h3,h4,h5⟩:=MW he;obtain⟨w,ew,rw'⟩:=r.get h2;have hl:=r.length;have hn:=Jg;have fin:EP X pins σ Q w s:=⟨z,H,I,rw',q⟩;by_cases h0:0<=i
 ·have hj:i.toNat=j:=by rw[seqIndex_of h0 h5]at h1;exact aB h1
  exact item_listR pl.isList h0 (by omega) (by rw[hj];simpa using ew) fin hs
 ·have hj:(i+(its.toArray.size:Int)).toNat=j:=by rw[seqIndex_neg (by omega) h4]at h1;rw[ao,<-hl];exact aB h1
  exact subscriptTail_builtinR (x:=w) pl.isList.typeIs slot_list_getitem.lookup (wpAny_getItem_list_neg (Q:=λr s'=>r=w/\EP X pins σ Q r s') pl.isList (by omega) (by rw[ao]<;>omega) (by omega) (by rw[hj];simpa using ew) ⟨rfl,fin⟩) hs
theorem Z5:IxR X (rIxT X.K):=by intro value slice pins s σ H x y v u Q I rx ry h hs;obtain⟨p,xs,i,z,rfl,rfl,hq,he,q⟩:=h;cases rx;obtain⟨t,rfl⟩:=ry;obtain⟨its,r,pl,hz⟩:=I.tuple hq;obtain⟨j,h1,h2,h3,h4,h5⟩:=MW he;obtain⟨w,ew,rw'⟩:=r.get h2;have hl:=r.length;have hn:=Jg;have fin:EP X pins σ Q w s:=⟨z,H,I,rw',q⟩;exact subscriptTail_builtinR (x:=w) pl.typeIs dU.lookup (getItem_tuple (j:=j) (Q:=λr s'=>r=w/\EP X pins σ Q r s') pl (by omega) (by omega) (by rw[ao,<-hl];exact h1) (by simpa using ew) ⟨rfl,fin⟩) hs
theorem ML:IxR X rIxS:=by
 intro value slice pins s σ H x y v u Q I rx ry h hs;obtain⟨z,i,c,rfl,rfl,hz,he,q⟩:=h;obtain⟨t,rfl⟩:=rx;obtain⟨t',rfl⟩:=ry;obtain⟨j,h1,h2,h3,h4,h5⟩:=MW he;have hl:z.cps.toList.length=z.length:=by simp[Str.length]
 rw[hl]at h1 h4 h5;have hn:=Jg;exact tail_any (typeIs_str s z t) slot_str_getitem.lookup (getItem_str (c:=c) (by have e1:decide (i < -(2 ^ 63:Int))=false:=decide_eq_false (by omega);have e2:decide (i >= 2 ^ 63)=false:=decide_eq_false (by omega);rw[e1,e2,Bool.or_false]) (by rw[h1];simpa using h2) ⟨.str ⟨#[c]⟩,H,I.tok _,⟨_,rfl⟩,q⟩) hs
theorem Pw(its:List Value)(n j:Nat)(u:Value):Obj.mapSeq (·.setIfInBounds j u) {cls:=.type "list",data:=.seq its.toArray n}={cls:=.type "list",data:=.seq (its.set j u).toArray n}:=by simp[Obj.mapSeq]
theorem Inv.lst{pins:List (Addr×Obj)}{σ:St}{H:Hp}{s:ah}{p:Addr}{xs:List V}(I:Inv X pins σ H s)(h:H p=some (.lst xs)):∃(its:List Value)(n:Nat),Vals xs its/\s.heap.get? p=some {cls:=.type "list",data:=.seq its.toArray n}/\xs.length<=sizeLine:=by obtain⟨z,its,n,r,e⟩:=I.hok p _ h;exact⟨its,n,r,e,z⟩
theorem Inv.lstUpd{pins:List (Addr×Obj)}{σ:St}{H:Hp}{s:ah}{p:Addr}{xs ys:List V}{its its':List Value}{n n':Nat}{f:Obj->Obj}(I:Inv X pins σ H s)(h:H p=some (.lst xs))(ho:s.heap.get? p=some {cls:=.type "list",data:=.seq its.toArray n})(hf:f {cls:=.type "list",data:=.seq its.toArray n}={cls:=.type "list",data:=.seq its'.toArray n'})(r:Vals ys its')(hz:ys.length<=sizeLine)(t:Nat):Inv X pins σ (upd H p (.lst ys)) {s with heap:=s.heap.update p f,toks:=t}:=by
 have e:(s.heap.update p f).get? p=some {cls:=.type "list",data:=.seq its'.toArray n'}:=by rw[Heap.get?_update_self f ho (by rw[hf]<;>rfl),hf]
 refine I.write (x:=p) (e:=p) (by rw[h];trivial) (.inl rfl) (λb u hb q=>(Heap.get?_update_other _ _ (bR hb)).trans q) ⟨_,e⟩ ?_;exact⟨hz,its',n',r,e⟩
noncomputable def Ei:V->V->V->Hp->(Hp->Prop)->Prop:=λo i v H Q=>∃p xs k j,o=.ref p/\i=.int k/\H p=some (.lst xs)/\ixN xs.length k=some j/\Q (upd H p (.lst (xs.set j v)))
theorem set_list:PSet X Ei:=by
 intro pins s σ H o i v ov iv u Q I ro ri rv h;obtain⟨p,xs,k,j,rfl,rfl,hp,hj,q⟩:=h;cases ro;obtain⟨t,rfl⟩:=ri;obtain⟨its,n,r,ho,hz⟩:=I.lst hp;obtain⟨h1,h2,h3,h4⟩:=QS hj;have hl:=r.length;have hn:=Jg;have I':Inv X pins σ (upd H p (.lst (xs.set j v))) {s with heap:=s.heap.update p (Obj.mapSeq (·.setIfInBounds j u))}:=I.lstUpd hp ho (Pw its n j u) (r.set rv j) (by rw[List.length_set];exact hz) s.toks;by_cases h0:0<=k
 ·have hk:k.toNat=j:=by rw[seqIndex_of h0 h4]at h1;exact aB h1
  exact PySem.W.ki_setAt ho h0 (by omega) (by rw[ao,<-hl];exact h4) (by rw[hk];exact⟨_,I',q⟩)
 ·have hk:(k+(its.toArray.size:Int)).toNat=j:=by rw[seqIndex_neg (by omega) h3]at h1;rw[ao,<-hl];exact aB h1
  exact PySem.W.ki_setBack ho (by omega) (by rw[ao,<-hl];exact h3) (by omega) (by rw[hk];exact⟨_,I',q⟩)
theorem Mm(lo hi:Option Int)(n:Nat):(fq lo hi none n).1=((HT.sIx n 0 lo:Nat):Int)/\(fq lo hi none n).2.1=((HT.sIx n n hi:Nat):Int)/\(fq lo hi none n).2.2=1:=by
 refine⟨?_,?_,rfl⟩
 ·cases lo with
 |none=>simp[fq,HT.sIx]
 |some i=>
   simp only[fq,HT.sIx,Option.getD_none,show(1:Int)>0 by decide,if_true];by_cases h:i<0
   ·simp only[h,if_true]<;>omega
   ·simp only[h,if_false]<;>omega
 ·cases hi with
 |none=>simp[fq,HT.sIx]
 |some i=>
   simp only[fq,HT.sIx,Option.getD_none,show(1:Int)>0 by decide,if_true];by_cases h:i<0
   ·simp only[h,if_true]<;>omega
   ·simp only[h,if_false]<;>omega
theorem Gy(its:List Value)(lo hi:Option Int):slicePick its.toArray lo hi none=((its.drop (HT.sIx its.length 0 lo)).take (HT.sIx its.length its.length hi-HT.sIx its.length 0 lo)).toArray:=by obtain⟨h1,h2,h3⟩:=Mm lo hi its.toArray.size;unfold slicePick;rw[h1,h2,h3];simp only[sliceRange_one,pick_run,ao]<;>rfl
noncomputable def rSlL(K:ae):V->Option Int->Option Int->Hp->VK->Prop:=λx lo hi H Q=>∃a xs,x=.ref a/\SqL K H a xs/\∀p,H p=none->Q (.ref p) (upd H p (.lst (cutV xs lo hi)))
theorem Qv:SlR X (rSlL X.K):=by intro pins s σ H x v vl vu lo hi sl Q I rx hs pl pu h;obtain⟨a,xs,rfl,hx,q⟩:=h;cases rx;obtain⟨its,r,ht,hz⟩:=I.list hx;have hlen:=r.length;refine⟨"list",_,slot_list_getitem.lookup,ht.isList.typeIs,?_⟩;refine wpAny_getItem_list_slice ht.isList hs pl pu .none (by simp) ?_ (by rw[ao]<;>omega);rw[Gy,<-hlen];refine⟨.ref s.heap.objs.size,_,I.laid (t':=s.toks) (o:=.lst (cutV xs lo hi)) (λb ob q=>Heap.get?_push_of_some _ q) (Nat.le_refl _) ?_,rfl,q _ (I.hok.fresh (Nat.le_refl _))⟩;exact⟨Nat.le_trans (Uk xs lo hi) hz,_,0,(r.drop (HT.sIx xs.length 0 lo)).take (HT.sIx xs.length xs.length hi-HT.sIx xs.length 0 lo),Heap.get?_push_size _ rfl⟩
theorem Ja:Xx X (.builtin "len") (λxs H Q=>∃p ys,xs=[.ref p]/\(SqL X.K H p ys\/SqT X.K H p ys)/\Q (.int ys.length) H):=by
 intro pins s σ H xs us Q I r h;obtain⟨p,ys,rfl,hq,q⟩:=h;obtain⟨u,rfl,rx⟩:=vals1 r;cases rx;have hn:=Jg;rcases hq with hq|hq
 ·obtain⟨its,r',pl,hz⟩:=I.list hq;have hlen:=r'.length;exact Calls.call_len_list pl.isList (by simp only[ao]<;>omega) ⟨.int ys.length,H,I.tok _,⟨s.toks+1,by rw[ao,hlen]⟩,q⟩
 ·obtain⟨its,r',pl,hz⟩:=I.tuple hq;have hlen:=r'.length;exact len_tuple pl (by simp only[ao]<;>omega) ⟨.int ys.length,H,I.tok _,⟨s.toks+1,by rw[ao,hlen]⟩,q⟩
theorem MT:Xx X (.builtin "len") (λxs H Q=>∃z,xs=[.str z]/\z.length<=sizeLine/\Q (.int z.length) H):=by intro pins s σ H xs us Q I r h;obtain⟨z,rfl,hz,q⟩:=h;obtain⟨u,rfl,t,rfl⟩:=vals1 r;have hn:=Jg;exact len_str (by omega) ⟨.int z.length,H,I.tok _,⟨_,rfl⟩,q⟩
theorem MS:Xx X (.type "list") (λxs H Q=>∃p ys,xs=[.ref p]/\(SqL X.K H p ys\/SqT X.K H p ys)/\∀l,H l=none->Q (.ref l) (upd H l (.lst ys))):=by
 intro pins s σ H xs us Q I r h;obtain⟨p,ys,rfl,hq,q⟩:=h;obtain⟨u,rfl,rx⟩:=vals1 r;cases rx;have fin:∀(its:List Value),Vals ys its->ys.length<=sizeLine->∀(h':Heap)(c':Nat),(∀b o',s.heap.get? b=some o'->h'.get? b=some o') ->h'.get? s.heap.objs.size=some {cls:=.type "list",dict:=none,data:=.seq its.toArray c',slots:=#[]}->EP X pins σ Q (.ref s.heap.objs.size) {s with heap:=h'}:=λits r' hz h' c' kp e=>⟨.ref s.heap.objs.size,_,I.laid (t':=s.toks) kp (Nat.le_refl _) (show ZY X.prog X.w _ h' _ (.lst ys)from⟨hz,its,c',r',e⟩),rfl,q _ (I.hok.fresh (Nat.le_refl _))⟩;rcases hq with hq|hq
 ·obtain⟨its,r',pl,hz⟩:=I.list hq;have hlen:=r'.length;obtain⟨o,ho,hc,n,hd⟩:=pl.isList;exact call_list_seq p (.inl rfl) ho hc hd (λh' c' kp e=>fin its r' hz h' c' kp e) (by simp only[ao]<;>omega)
 ·obtain⟨its,r',pl,hz⟩:=I.tuple hq;have hlen:=r'.length;obtain⟨o,ho,hc,n,hd⟩:=pl;exact call_list_seq p (.inr rfl) ho hc hd (λh' c' kp e=>fin its r' hz h' c' kp e) (by simp only[ao]<;>omega)
theorem GF:Xx X (.type "tuple") (λxs H Q=>∃p ys,xs=[.ref p]/\((SqL X.K H p ys/\∀l,H l=none->Q (.ref l) (upd H l (.tup ys)))\/(SqT X.K H p ys/\Q (.ref p) H))):=by
 intro pins s σ H xs us Q I r h;obtain⟨p,ys,rfl,h⟩:=h;obtain⟨u,rfl,rx⟩:=vals1 r;cases rx;rcases h with⟨hq,q⟩|⟨hq,q⟩
 ·obtain⟨its,r',pl,hz⟩:=I.list hq;have hlen:=r'.length;refine call_tuple_list pl.isList (λh' kp=>?_) (by simp only[ao]<;>omega);have I1:Inv X pins σ H {s with heap:=h'}:=I.kept (t':=s.toks) kp;have I2:Inv X pins σ (upd H h'.objs.size (.tup ys)) {s with heap:=h'.push {cls:=.type "tuple",data:=.seq its.toArray}}:=I1.laid (t':=s.toks) (λb o e=>Heap.get?_push_of_some _ e) (Nat.le_refl _) (show ZY X.prog X.w _ _ _ (.tup ys)from⟨hz,its,r',IsTup.new _ _⟩);exact⟨.ref h'.objs.size,_,I2,rfl,q _ (I1.hok.fresh (Nat.le_refl _))⟩
 ·obtain⟨its,r',pl,hz⟩:=I.tuple hq;exact call_tuple_same pl ⟨.ref p,H,I,rfl,q⟩
def tyV(K:ae)(T:String)(x:V)(H:Hp):Prop:=match x with
|.str _=>T="str"
|.int _=>T="int"
|.ref p=>(T="list"/\∃xs,SqL K H p xs)\/(T="tuple"/\∃o,K.lookup p=some o/\o.cls=.type "tuple"/\o.dict=none) \/(T="dict"/\((∃kvs,H p=some (.dK kvs))\/∃kvs,H p=some (.dT kvs)))\/(T="set"/\∃S n,H p=some (.set S n))
|_=>False
theorem Sq{pins:List (Addr×Obj)}{σ:St}{H:Hp}{s:ah}{T:String}{x:V}{v:Value}(I:Inv X pins σ H s)(r:RelV x v)(ty:tyV X.K T x H):s.TypeIs v T/\∀a,v=.ref a->∃ob,s.heap.get? a=some ob/\ob.dict=none:=by
 cases x with
|str z=>obtain⟨t,rfl⟩:=r;cases(show T="str" from ty);exact⟨typeIs_str s z t,λ_ e=>nomatch e⟩
|int i=>obtain⟨t,rfl⟩:=r;cases(show T="int" from ty);exact⟨typeIs_int s i t,λ_ e=>nomatch e⟩
|ref p=>
  cases r;rcases ty with⟨rfl,xs,hq⟩|⟨rfl,o,hk,hc,hd⟩|⟨rfl,hk⟩|⟨rfl,S,n,hk⟩
  ·obtain⟨its,_,pl,_⟩:=I.list hq;refine⟨pl.isList.typeIs,λa e=>?_⟩;cases e;obtain⟨o,n,e,c,hd,_⟩:=pl;exact⟨o,e,hd⟩
  ·refine⟨⟨o,I.kIn p o hk,hc⟩,λa e=>?_⟩;cases e;exact⟨o,I.kIn _ o hk,hd⟩
  ·have z:∃o,s.heap.get? p=some o/\o.ExactDict:=by
    rcases hk with⟨kvs,hk⟩|⟨kvs,hk⟩
    ·obtain⟨_,_,_,_,o,_,_,e,ex,_⟩:=I.hok p _ hk;exact⟨o,e,ex⟩
    ·obtain⟨_,_,_,_,o,_,_,e,ex,_⟩:=I.hok p _ hk;exact⟨o,e,ex⟩
   obtain⟨o,e,ex⟩:=z;refine⟨⟨o,e,ex.1⟩,λa e2=>?_⟩;cases e2;exact⟨o,e,ex.2.1⟩
  ·obtain⟨o,_,_,_,e,ex,_⟩:=I.hok p _ hk;refine⟨⟨o,e,ex.1⟩,λa e2=>?_⟩;cases e2;exact⟨o,e,ex.2.1⟩
|_=>exact False.elim ty
def tBM0(K:ae)(T:String)(r:V->List V->Hp->VK->Prop)(to:TE):TE:=λσ H Q=>to σ H λx H1=>tyV K T x H1/\r x [] H1 Q
def tBM(K:ae)(T:String)(r:V->List V->Hp->VK->Prop)(to:TE)(t:TA):TE:=λσ H Q=>to σ H λx H1=>tyV K T x H1/\t σ H1 λxs H2=>r x xs H2 Q
variable {o e:Expr}{es:List Expr}{to:TE}{t:TA}{name:Str}{apos cpos:Pos}{T id:String}{r:V->List V->Hp->VK->Prop}
theorem Pt(pa:PlainAttrs T)(slot:Slot T name id)(hty:typeOf (.builtin id)=pure (.type "method_descriptor"))(hm:MtR X id r)(ho:PE X o to)(hbase:c8 o name X.env (eval o X.env)=eval o X.env:=by rfl)(hline:(apos.endLine==cpos.line)=true:=by rfl):PE X (.Call (.Attribute o name apos) [] [] cpos) (tBM0 X.K T r to):=by intro pins s σ H Q I h;refine f_ hbase hline (thn (ho pins s σ H _ I h) λv s1 hZ=>?_);obtain⟨x,H1,I1,r1,ty,q1⟩:=hZ;obtain⟨h1,h2⟩:=Sq I1 r1 ty;exact⟨T,id,pa,slot,hty,h1,h2,cv rfl (gw (hm pins s1 σ H1 x [] v [] Q I1 r1 .nil q1))⟩
theorem Vl(pa:PlainAttrs T)(slot:Slot T name id)(hty:typeOf (.builtin id)=pure (.type "method_descriptor"))(hm:MtR X id r)(ho:PE X o to)(ha:PA X (e::es) t)(hbase:c8 o name X.env (eval o X.env)=eval o X.env:=by rfl)(hfew:((b8 cpos (az (e::es) X.env)).all (λx=>!x.1)&&(eO cpos (cV [] X.env)).all (λx=>x.1.isSome)&&decide ((e::es).length+([]:List g9).length+(if([]:List g9).isEmpty then 0 else 1)<30))=true:=by rfl)(hline:(apos.endLine==cpos.line)=true:=by rfl)(hs:az (e::es) X.env=(false,eval e X.env)::az es X.env:=by rfl)(hplain:(b8 cpos (az es X.env)).any (·.1)=false:=by rfl):PE X (.Call (.Attribute o name apos) (e::es) [] cpos) (tBM X.K T r to t):=by
 intro pins s σ H Q I h;refine wpAny_Call_method_late hbase hfew hline rfl (thn (ho pins s σ H _ I h) λv s1 hZ=>?_);obtain⟨x,H1,I1,r1,ty,q1⟩:=hZ;obtain⟨h1,h2⟩:=Sq I1 r1 ty;refine⟨T,id,pa,slot,hty,h1,h2,?_⟩;have hA:=ha cpos pins s1 σ H1 _ I1 q1;rw[hs]at hA ⊢;refine cv (by show(false||(b8 cpos (az es X.env)).any (·.1))=false;rw[hplain]<;>rfl) (gg ?_)
 exact thn hA λus s2⟨vs,H2,I2,r2,q2⟩=>hm pins s2 σ H2 x vs v us Q I2 r1 r2 q2
end
open PySem PySem.Spec PyProof.Rows
def MtM(X:Cx)(id:String)(r:V->List V->Hp->VK->Prop):Prop:=∀(pins:List (Addr×Obj))(s:ah)(σ:St)(H:Hp)(x:V)(xs:List V)(v:Value)(us:List Value)(Q:VK),Inv X pins σ H s->RelV x v->Vals xs us->r x xs H Q ->wpAny (model X.prog X.w) X.A (call (.builtin id) (v::us)) (EP X pins σ Q) X.xe s
theorem Vals.one:∀{x:V}{us:List Value},Vals [x] us->∃u,us=[u]/\RelV x u
|_,_,.cons r .nil=>⟨_,rfl,r⟩
theorem Vals.zero:∀{us:List Value},Vals [] us->us=[]
|_,.nil=>rfl
section
variable {X:Cx}{pins:List (Addr×Obj)}{σ:St}{H:Hp}{s:ah}{l b:Addr}{xs ys zs:List V}
theorem Inv.lset{its its':List Value}{n:Nat}{f:Array Value->Array Value}{t':Nat}(I:Inv X pins σ H s)(hH:H l=some (.lst xs))(e:s.heap.get? l=some {cls:=.type "list",data:=.seq its.toArray n})(hf:f its.toArray=its'.toArray)(hv:Vals ys its')(hz:ys.length<=sizeLine):Inv X pins σ (upd H l (.lst ys)) {s with heap:=s.heap.update l (Obj.mapSeq f),toks:=t'}:=by have q:=PySem.IsL.update e f;rw[hf]at q;refine I.write (x:=l) (e:=l) (by rw[hH];exact trivial) (.inl rfl) (λb' u hb hu=>(Heap.get?_update_other s.heap (Obj.mapSeq f) (bR hb)).trans hu) ⟨_,q⟩ ?_;exact⟨hz,its',_,hv,q⟩
theorem Inv.lstM(I:Inv X pins σ H s)(hH:H l=some (.lst xs)):xs.length<=sizeLine/\∃(its:List Value)(n:Nat),Vals xs its/\xs.length=its.length/\s.heap.get? l=some {cls:=.type "list",data:=.seq its.toArray n}:=by obtain⟨z,its,n,r,e⟩:=I.hok l _ hH;exact⟨z,its,n,r,r.length,e⟩
end
section
variable {X:Cx}
noncomputable def W6:V->List V->Hp->VK->Prop:=λx vs H Q=>∃l xs y,x=.ref l/\vs=[y]/\H l=some (.lst xs)/\xs.length<sizeLine/\Q .non (upd H l (.lst (xs++[y])))
theorem YI:MtM X "list.append" W6:=by intro pins s σ H x vs v us Q I rx rv h;obtain⟨l,xs,y,rfl,rfl,hH,hz,q⟩:=h;cases rx;obtain⟨u,rfl,ru⟩:=rv.one;obtain⟨z,its,n,r,hl,e⟩:=I.lstM hH;refine call_meets F.slot_list_append ⟨_,e,rfl⟩ F.entry_list_append (F.args_list_append_2 _ _) (PySem.list_append l its.toArray n u (by rw[ao];omega)) ⟨e,?_⟩;refine⟨.non,_,I.lset (its':=its++[u]) hH e (by simp) (r.append (.cons ru .nil)) ?_,rfl,q⟩;rw[av,f6];omega
noncomputable def Lx:V->List V->Hp->VK->Prop:=λx vs H Q=>∃l xs,x=.ref l/\vs=[]/\H l=some (.lst xs)/\Q .non (upd H l (.lst []))
theorem Nz:MtM X "list.clear" Lx:=by intro pins s σ H x vs v us Q I rx rv h;obtain⟨l,xs,rfl,rfl,hH,q⟩:=h;cases rx;have hus:=rv.zero;subst hus;obtain⟨z,its,n,r,hl,e⟩:=I.lstM hH;refine call_meets F.slot_list_clear ⟨_,e,rfl⟩ F.entry_list_clear (F.args_list_clear_1 _) (AutoSeq1.list_clear_list_0 l its.toArray n (by rw[ao];omega)) ⟨e,?_⟩;exact⟨.non,_,I.lset (its':=[]) (ys:=[]) hH e rfl .nil (Nat.zero_le _),rfl,q⟩
end
end L2
namespace Att
open PySem PySem.W PySem.Calls PyProof.Rows
theorem Uq{P:Params}{h:Heap}:∀(ns:List Int)(vs:List Value),WellAll P h vs (ns.map WData.int)->IntsAre vs ns:=by
 intro ns;induction ns with
|nil=>intro vs w;rw[fS]at w;cases w;exact .nil
|cons n ns ih=>
  intro vs w;rw[ax]at w;cases w with
 |cons a b=>cases a;exact .cons _ _ (ih _ b)
theorem Rb{l:OpenLaw}{n:Nat}(hn:l.most=some n){P:Params}{h:Heap}{args:List WData}{vals:List Value}(hpre:l.row.toRowW.claim.pre args=true)(hwl:WellAll P h vals args):∃a vs ns,vals=[Value.ref a]/\args=[WData.list (ns.map WData.int)]/\h.get? a=some {cls:=.type "list",data:=.seq vs.toArray}/\IntsAre vs ns/\ns.length<=n:=by
 have hsh:WShape.hasAll [] args [.list .int]=true:=(pre_splitW hpre).1;have hc:l.pre.holds [] {args:=args}=true:=(pre_splitW hpre).2;obtain⟨d,r,rfl,h1,h2⟩:=hasAllW_cons hsh;obtain rfl:=hasAllW_nil h2;obtain⟨xs,rfl,h3⟩:=hasW_list h1;obtain⟨ns,rfl⟩:=items_int h3;have hlen:ns.length<=n:=by
  unfold OpenLaw.pre at hc;have h4:(WTm.not (.lt (.lit (.int (n:Int))) (.len (.arg 0)))).holds [] {args:=[.list (ns.map .int)]}=true:=by have h4:=(holds_andW hc).1;rw[hn]at h4;exact h4
  have h5:=condW_of h4 (w_not (w_lt w_lit (w_len_list (w_arg rfl))));rw[bQ]at h5;refine Nat.le_of_not_lt λq=>?_;have q':(n:Int)<((ns.length:Nat):Int):=by omega
  first
  |(rw[decide_eq_true q']at h5;exact absurd h5 (by decide))
  |(simp at h5;omega)
 cases hwl with
|cons w1 w2=>
  cases w2;cases w1 with
 |list ho hall=>exact⟨_,_,ns,rfl,rfl,ho,Uq ns _ hall,hlen⟩
theorem Rj(l:OpenLaw)(args:List WData):l.row.toRowW.claim.post args (.bool true) args=true:=postW_of (r:=l.row.toRowW) (X:=(true==true)) (show WShape.has [] (.bool true) .bool=true by first|rfl|decide|simp[WShape.has,WShape.arms,WShape.armsAll]) (show(WTm.eq .res (.lit (.bool true))).value [] {args:=args,res:=some (.bool true),after:=args}=some (.bool (true==true))from w_eq_bool (w_res rfl) w_lit) rfl
theorem attach_call{l:OpenLaw}{n:Nat}{q:Program}{loose:List Str}{XP:(Str->Option Value)->Heap->Prop}{YP:World->Heap->Prop}{d:DefRec}(hn:l.most=some n)(hdf:d.params.defaults=[])(call:∀(w:World)(s₀ s₁:ah)(mg mb:Str->Option Value)(fa:Addr)(o:Obj)(pm cd doc:Value)(a:Addr)(vs:List Value)(ns:List Int),Ground q loose [] XP w s₀ mg mb s₁.heap->YP w s₁.heap ->s₁.heap.get? fa=some o->o.data=.func (docDef d.name d.params d.body d.scope pm cd doc)->s₁.heap.CodeRec cd d.name->mg d.name=some (.ref fa) ->s₁.heap.get? a=some {cls:=.type "list",data:=.seq vs.toArray}->IntsAre vs ns->ns.length<=n->s₁.gens=#[] ->g8 (model l.prog w) callerA (.call (.ref fa) ⟨[.ref a],[]⟩) (λr s'=>r=.ok (.ret (.bool true))/\OldK s₁.heap s'.heap/\s'.os=s₁.os/\gq s'.gens) s₁):WalkO q loose XP YP l.row.toRowW d [] (λf vs=>PySem.call f vs):=by intro w s₀ s₁ mg mb G Y fa o pm cd doc dV kV ho hd hcd hD hmg hg args vals as hpre hlay hrd hwl hlo;obtain rfl:dV=.none:=Dflts.none hD hdf;obtain rfl:kV=.none:=Dflts.noKw hD;obtain⟨a,vs,ns,rfl,rfl,hobj,hints,hlen⟩:=Rb hn hpre hwl;refine enter_call (codeAny_mono (call w s₀ s₁ mg mb fa o pm cd doc a vs ns G Y ho (fd_plain hd) hcd hmg hobj hints hlen hg) λr s' hq=>?_);obtain⟨rfl,h2,h3,h4⟩:=hq;exact⟨.inl ⟨.bool true,.bool true,[],rfl,λ_=>rfl,.bool true,Rj l _,λ_=>⟨List.Pairwise.nil,λ_ hm=>(nomatch hm)⟩⟩,h2,h3,h4⟩
end Att
namespace L2
open PySem PySem.Spec PyProof.Rows
theorem GL:∀{vs:List Value}{ns:List Int},IntsAre vs ns->Vals (ns.map V.int) vs
|_,_,.nil=>.nil
|_,_,.cons n t h=>.cons ⟨t,rfl⟩ (GL h)
def Only(H:Hp):Prop:=∀b,H b=none\/∃o xs,H b=some (.frz o (.lst xs))
theorem T7{P:Program}{w:World}{K:ae}{mg mb:Str->Option Value}{CX:CXT}{k:Nat}{fa a:Addr}{fd:b_}{x:Str}{sp:Sp}{s₁:ah}{vs:List Value}{ns:List Int}(KX:K.In s₁.heap)(hns:s₁.heap.Ns a8 mg)(hb:s₁.heap.Ns builtinsNs mb)(hbb:∀x:Str,x≠"__name__"->mb x=bt x)(hlim:s₁.heap.NoLimit)(hg:s₁.gens=#[])(ha:s₁.heap.get? a=some {cls:=.type "list",data:=.seq vs.toArray})(hi:IntsAre vs ns)(hl:ns.length<=sizeLine)(hr:Room k callerA)(F:∀base:Heap,K.In base->base.Ns a8 mg->FnOk P w K mg base CX k fa fd [x] sp)(hbind:∀(s:ah)(u:Value),BindsTo s fd ⟨[u],[]⟩ [(x,u)])(hsp:∀H:Hp,Only H->SqL K H a (ns.map V.int)->sp [.ref a] H (λv _=>v=.bl true) λ_ _ _=>False)(hCX:∀H e s',CX [] H s₁ (λ_ _ _=>False) e s'->False):g8 (model P w) callerA (.call (.ref fa) ⟨[.ref a],[]⟩) (λr s'=>r=.ok (.ret (.bool true))/\OldK s₁.heap s'.heap/\s'.os=s₁.os/\gq s'.gens) s₁:=by
 have rv:=GL hi;have lenV:=hi.length;have core:∀H:Hp,Only H->SqL K H a (ns.map V.int)->HOk P w H s₁.heap->(∀b,H b≠none->b=a)->(H a≠none->K.lookup a=none) ->g8 (model P w) callerA (.call (.ref fa) ⟨[.ref a],[]⟩) (λr s'=>r=.ok (.ret (.bool true))/\OldK s₁.heap s'.heap/\s'.os=s₁.os/\gq s'.gens) s₁:=by
  intro H hO hS hok hA hK;have base_of:∀{b:Addr}{o:Obj},s₁.heap.get? b=some o->H b=none->(hidT s₁.heap H).get? b=some o:=λe n=>Wf e n;have noA:∀{b:Addr}{o:Obj}{es:Array DictEntry}{ep:Nat},s₁.heap.get? b=some o->o.data=.dict es ep->H b=none:=λ{b o es ep}e d=>by
   cases q:H b with
  |none=>rfl
  |some u=>have e':b=a:=hA b (by rw[q];simp);subst e';rw[ha]at e;cases e;have d':Data.seq vs.toArray _=Data.dict es ep:=d;cases d'
  have nsK:∀{b:Addr}{m:Str->Option Value},s₁.heap.Ns b m->(hidT s₁.heap H).Ns b m:=λ{b m}⟨o,es,ep,e,d,r⟩=>⟨o,es,ep,base_of e (noA e d),d,r⟩;have hKb:K.In (hidT s₁.heap H):=λb o e=>base_of (KX b o e) (by
   cases q:H b with
  |none=>rfl
  |some u=>have e':b=a:=hA b (by rw[q];simp);subst e';rw[hK (by rw[q];simp)]at e;cases e)
  have hM:Mod K mg (hidT s₁.heap H):=⟨hKb,nsK hns,⟨mb,nsK hb,hbb⟩,let ⟨mc,h1,h2⟩:=hlim;⟨mc,nsK h1,h2⟩⟩;have e0:Env0 P w K mg (hidT s₁.heap H) callerA [] s₁ H:=⟨rfl,hM,λb o e=>Ki e,Nat.le_of_eq (RJ _ _),trivial,λb hb=>absurd (show b∈([]:List Addr)from hb) (by simp),hok,.of_eq hg⟩;refine codeAny_mono ((F _ hKb (nsK hns)).run callerA [] s₁ H ⟨[.ref a],[]⟩ [.ref a] [.ref a] _ _ hr e0 (hbind s₁ (.ref a)) (.cons rfl .nil) (hsp H hO hS)) λr s' h=>?_;cases r with
 |error e=>exact(hCX H e s' h).elim
 |ok fl=>
   cases fl with
  |next=>exact False.elim h
  |brk=>exact False.elim h
  |cont=>exact False.elim h
  |ret u=>
    obtain⟨v,H',os,bare,un,hok',r',q⟩:=h;have q':v=.bl true:=q;subst q';obtain rfl:u=Value.bool true:=r';refine⟨rfl,OldK.of_keep λb o e=>?_,os,bare⟩;cases q:H b with
   |none=>exact un.keep b o e q (by intro z;exact absurd (show b∈([]:List Addr)from z) (by simp)) (by simp)
   |some u=>
     rcases hO b with z|⟨ob,xs,z⟩
     ·rw[q]at z;cases z
     ·have z2:=un.frzs b ob _ z;obtain⟨e1,_⟩:=hok b _ z;obtain⟨e2,_⟩:=hok' b _ z2;rw[e]at e1;cases e1;exact e2
 cases hk:K.lookup a with
|some o=>have e:=KX a o hk;rw[ha]at e;cases e;refine core (λ_=>none) (λ_=>.inl rfl) (.inr ⟨_,vs.toArray,_,hk,rfl,rfl,rfl,by rw[ao,lenV];exact hl,by simpa using rv⟩) (λb u z=>by have z':(none:Option HO)=some u:=z;cases z') (λb z=>absurd rfl z) λz=>absurd rfl z
|none=>
  refine core (λb=>if b=a then some (.frz {cls:=.type "list",data:=.seq vs.toArray} (.lst (ns.map V.int)))else none) (λb=>?_) (.inl (.inr ⟨{cls:=.type "list",data:=.seq vs.toArray},if_pos rfl⟩)) (λb u z=>?_) (λb z=>?_) λ_=>hk
  ·by_cases hb:b=a
   ·exact .inr ⟨_,_,if_pos hb⟩
   ·exact .inl (if_neg hb)
  ·by_cases hb:b=a
   ·have z':=(if_pos hb).symm.trans z;cases z';subst hb;exact⟨ha,by rw[bQ];exact hl,vs,_,rv,ha⟩
   ·have z':=(if_neg hb).symm.trans z;cases z'
  ·by_cases hb:b=a
   ·exact hb
   ·exact absurd (if_neg hb) z
open PySem PySem.Spec PyProof.Rows
noncomputable abbrev KOf{K:ae}{h:Heap}(_:K.In h):ae:=K
theorem walk_of{l:hV}{n k:Nat}{q:Program}{loose:List Str}{XP:(Str->Option Value)->Heap->Prop}{YP:World->Heap->Prop}{d:DefRec}{K:Params->ae}{CX:World->CXT}{sp:World->Sp}{x:Str}(hn:l.most=some n)(hn2:n<=sizeLine)(hdf:d.params.defaults=[])(hr:Room k callerA)(hY:∀(w:World)(h:Heap),YP w h->(K w.params).In h)(F:∀(w:World)(mg:Str->Option Value)(fa:Addr)(h:Heap),(K w.params).In h->h.Ns a8 mg->mg d.name=some (.ref fa) ->∃fd:b_,(∀(s:ah)(u:Value),BindsTo s fd ⟨[u],[]⟩ [(x,u)]) /\∀base:Heap,(K w.params).In base->base.Ns a8 mg->FnOk l.prog w (K w.params) mg base (CX w) k fa fd [x] (sp w))(hsp:∀(w:World)(H:Hp)(a:Addr)(ns:List Int),ns.length<=n->Only H->SqL (K w.params) H a (ns.map V.int)->sp w [.ref a] H (λv _=>v=.bl true) λ_ _ _=>False)(hCX:∀(w:World)(H:Hp)(s:ah)(e:Value)(s':ah),CX w [] H s (λ_ _ _=>False) e s'->False):PySem.W.WalkO q loose XP YP l.row.toRowW d [] (λf vs=>PySem.call f vs):=by refine Att.attach_call hn hdf λw s₀ s₁ mg mb fa o pm cd doc a vs ns G Y ho hd hcd hmg hobj hints hlen hg=>?_;have KX:=hY w _ Y;obtain⟨fd,hb,hF⟩:=F w mg fa _ KX G.T.g hmg;exact T7 KX G.T.g G.T.b G.T.builtins G.T.nolimit hg hobj hints (Nat.le_trans hlen hn2) hr hF hb (λH hO hS=>hsp w H a ns hlen hO hS) λH e s'=>hCX w H s₁ e s'
open PySem PySem.Spec PyProof.Rows
noncomputable def inClass(s:Stmt)(j:Nat):Stmt:=match s with
|.ClassDef _ _ _ body _ _ _ _ _ _ _=>body.getD j (.Pass ⟨0,0,0,0⟩)
|_=>.Pass ⟨0,0,0,0⟩
noncomputable def Yt(s:Stmt):Arguments:=match s with
|.FunctionDef _ a _ _ _ _ _ _ _ _=>a
|_=>{posonlyargs:=[],args:=[],vararg:=none,kwonlyargs:=[],kw_defaults:=[],kwarg:=none,defaults:=[]}
noncomputable def Z9(s:Stmt):List Stmt:=match s with
|.FunctionDef _ _ b _ _ _ _ _ _ _=>b
|_=>[]
noncomputable def Zf(s:Stmt):Scope:=match s with
|.FunctionDef _ _ _ _ _ _ sc _ _ _=>sc
|_=>{kind:=.function,names:=[],isGenerator:=false,isCoroutine:=false}
noncomputable abbrev CX0:CXT:=λ_ _ _ _ _ _=>False
abbrev E0:XK:=λ_ _ _=>False
theorem Z1{X:Cx}:Passes CX0 X E0:=λ_ _ _ _ _ _ _ h=>h.elim
structure Fun(K:ae)(x qual:Str)(st:Stmt)(f:Addr)(fd:b_):Prop where
 ex:∃(oc:Value)(od:Option Addr)(kV doc pm:Value)(an:Option Addr)(cdv ct:Value)(osl:Array (Option Value)),
  fd=bF x qual (Yt st) (Z9 st) (Zf st) .none kV doc pm an cdv ct/\K.lookup f=some ⟨oc,od,.func fd,osl⟩/\cw K cdv qual=true
 kp:bw K (.ref f)=true
section
variable {P:Program}{w:World}{K:ae}{mg:Str->Option Value}{base:Heap}
theorem Fun.ok{x qual:Str}{st:Stmt}{f:Addr}{fd:b_}{N ps:List Str}{k:Nat}{sp:Sp}(F:Fun K x qual st f fd)(S:FnScope N ps (Zf st))(len:∀vs H Q E,sp vs H Q E->vs.length=ps.length)(hbody:∀(cdv:Value)(A:br)(outer:List Env)(s:ah)(H:Hp)(vs:List V)(Q:VK)(E:XK),Room k (A.deeper (eM qual (Zf st) s.heap.objs.size f cdv))->sp vs H Q E ->∃t,PSs (cxOf CX0 P w K mg base N qual (Zf st) f cdv A outer s H E).nox (Z9 st) t/\t {nx:=λ_ H'=>Q .non H',rt:=Q} (start N vs) H):FnOk P w K mg base CX0 (k+1) f fd ps sp:=by obtain⟨oc,od,kV,doc,pm,an,cdv,ct,osl,rfl,lk,hcd⟩:=F.ex;refine Ew lk hcd S len λA outer s H vs Q E hr hsp=>?_;obtain⟨t,h,q⟩:=hbody cdv A outer s H vs Q E hr hsp;exact⟨t,h.nox,q⟩
theorem Fun.binds{x qual:Str}{st:Stmt}{f:Addr}{fd:b_}{ps:List Str}(F:Fun K x qual st f fd)(h:∀(kV doc pm:Value)(an:Option Addr)(cdv ct:Value)(us:List Value),us.length=ps.length->bindArgs (bF x qual (Yt st) (Z9 st) (Zf st) .none kV doc pm an cdv ct) ⟨us,[]⟩=pure (ps.zip us)):Binds K fd ps []:=by obtain⟨oc,od,kV,doc,pm,an,cdv,ct,osl,rfl,lk,hcd⟩:=F.ex;exact .all (h kV doc pm an cdv ct)
theorem Jh{x qual:Str}{st:Stmt}{f:Addr}{oc:Value}{od an:Option Addr}{osl:Array (Option Value)}{kV doc pm cdv ct:Value}(l:K.lookup f=some ⟨oc,od,.func (bF x qual (Yt st) (Z9 st) (Zf st) .none kV doc pm an cdv ct),osl⟩)(c:cw K cdv qual=true)(k:bw K (.ref f)=true):Fun K x qual st f (bF x qual (Yt st) (Z9 st) (Zf st) .none kV doc pm an cdv ct):=⟨⟨oc,od,kV,doc,pm,an,cdv,ct,osl,rfl,l,c⟩,k⟩
end
theorem ZT{A:br}{k:Nat}(hr:Room k A):A.units+1<cLine:=Nat.lt_of_le_of_lt (Nat.add_le_add_left (by decide:1<=64) _) hr.units
theorem XM{n:Nat}(h:n<=1000):n<sizeLine:=Nat.lt_of_le_of_lt h (by decide)
section
variable {X:Cx}
theorem pv(i:Nat){x:Str}{pos:Pos}(hN:X.N[i]?=some x:=by rfl)(hv:Vis X.env.scope x:=by first|exact aN rfl|exact fJ (aN rfl)|exact fJ (fJ rfl))(hd:(x==("__debug__":Str))=false:=by decide)(hcd:(x==("__classdict__":Str))=false:=by decide):PE X (.Name x pos) (tVar i):=LB hN hv hd hcd
end
theorem iteF{A B:Prop}(h:B):if false=true then A else B:=by rw[if_neg Bool.false_ne_true];exact h
theorem iteT{A B:Prop}(h:A):if true=true then A else B:=by rw[if_pos rfl];exact h
theorem ite2{c A B:Prop}[Decidable c](h1:c->A)(h2:¬c->B):if c then A else B:=by
 by_cases h:c
 ·rw[if_pos h];exact h1 h
 ·rw[if_neg h];exact h2 h
def Same(H H':Hp):Prop:=∀b o,H b=some o->H' b=some o
theorem Same.refl(H:Hp):Same H H:=λ_ _ h=>h
theorem Same.trans{H H1 H2:Hp}(a:Same H H1)(b:Same H1 H2):Same H H2:=λc o h=>b c o (a c o h)
open PySem PySem.Spec PyProof.Rows
section
variable {κ:Type}[DecidableEq κ]
noncomputable def valV(kvs:List (κ×V))(k:κ):Option V:=(kvs.find? λkv=>decide (kv.1=k)).map (·.2)
noncomputable def putK(kvs:List (κ×V))(k:κ)(v:V):List (κ×V):=if(kvs.any λkv=>decide (kv.1=k))=true then kvs.map (λkv=>if kv.1=k then(kv.1,v)else kv)else kvs++[(k,v)]
theorem Yk{p:κ×V}{r:List (κ×V)}{k:κ}(e:p.1=k):valV (p::r) k=some p.2:=by simp[valV,cq,e]
theorem Yl{p:κ×V}{r:List (κ×V)}{k:κ}(e:¬p.1=k):valV (p::r) k=valV r k:=by simp[valV,cq,e]
theorem YC(k:κ):∀kvs:List (κ×V),(kvs.any λkv=>decide (kv.1=k))=(valV kvs k).isSome
|[]=>rfl
|p::r=>by
  rw[List.any_cons];by_cases e:p.1=k
  ·simp only[Yk e,decide_eq_true e,Bool.true_or,Option.isSome_some]
  ·rw[Yl e,decide_eq_false e,Bool.false_or];exact YC k r
theorem M5(k j:κ)(y:V):∀kvs:List (κ×V),valV (kvs.map λkv=>if kv.1=k then(kv.1,y)else kv) j=(valV kvs j).map λx=>if j=k then y else x
|[]=>rfl
|p::r=>by
  have ih:=M5 k j y r;rw[ax];by_cases h:p.1=k
  ·rw[if_pos h];by_cases e:p.1=j
   ·rw[Yk (p:=(p.1,y)) e,Yk e,fP,if_pos (e.symm.trans h)]
   ·rw[Yl (p:=(p.1,y)) e,Yl e,ih]
  ·rw[if_neg h];by_cases e:p.1=j
   ·rw[Yk (p:=p) e,Yk e,fP,if_neg (λz=>h (e.trans z))]
   ·rw[Yl (p:=p) e,Yl e,ih]
theorem YV(k j:κ)(y:V):∀kvs:List (κ×V),valV kvs k=none->valV (kvs++[(k,y)]) j=if j=k then some y else valV kvs j
|[],_=>by
  by_cases e:k=j
  ·rw[if_pos e.symm];exact Yk (p:=(k,y)) e
  ·rw[if_neg (λz=>e z.symm)];exact Yl (p:=(k,y)) e
|p::r,hn=>by
  rw[List.cons_append];have hk:¬p.1=k:=λz=>by rw[Yk z]at hn;cases hn
  rw[Yl hk]at hn;have ih:=YV k j y r hn;by_cases e:p.1=j
  ·rw[Yk e,Yk e,if_neg (λz=>hk (e.trans z))]
  ·rw[Yl e,Yl e,ih]
theorem Yu(kvs:List (κ×V))(k j:κ)(y:V):valV (putK kvs k y) j=if j=k then some y else valV kvs j:=by
 unfold putK;by_cases a:(kvs.any λkv=>decide (kv.1=k))=true
 ·rw[if_pos a,M5];rw[YC]at a;by_cases e:j=k
  ·obtain⟨x,hx⟩:=b7.mp a;rw[if_pos e,e,hx,fP,if_pos rfl]
  ·rw[if_neg e];cases valV kvs j with
  |none=>rfl
  |some x=>rw[fP,if_neg e]
 ·rw[if_neg a];refine YV k j y kvs ?_;rw[YC]at a;cases q:valV kvs k with
 |none=>rfl
 |some x=>rw[q]at a;exact(a rfl).elim
theorem Xa(kvs:List (κ×V))(k:κ)(v:V):(putK kvs k v).length<=kvs.length+1:=by
 unfold putK;split
 ·rw[bQ];omega
 ·rw[av,aU,List.length_nil];omega
theorem Ti{kvs:List (κ×V)}{k:κ}(v:V)(h:valV kvs k=none):putK kvs k v=kvs++[(k,v)]:=by unfold putK;rw[YC,h];exact if_neg (by decide)
theorem RelO.isSome_eq{o:Option V}{u:Option Value}(r:RelO o u):o.isSome=u.isSome:=by
 cases o with
|none=>cases u with
 |none=>rfl
 |some _=>exact(show False from r).elim
|some _=>cases u with
 |none=>exact(show False from r).elim
 |some _=>rfl
theorem RelO.getD{o:Option V}{u:Option Value}{d:V}{d':Value}(r:RelO o u)(rd:RelV d d'):RelV (o.getD d) (u.getD d'):=by
 cases o with
|none=>cases u with
 |none=>exact rd
 |some _=>exact(show False from r).elim
|some _=>cases u with
 |none=>exact(show False from r).elim
 |some _=>exact r
theorem KV.val{kvs:List (κ×V)}{vs:List (κ×Value)}(r:KV kvs vs)(k:κ):RelO (valV kvs k) (valueAt vs k):=by
 unfold KV at r;induction r with
|nil=>exact bB
|@cons p q ps qs h t ih=>
  obtain⟨h1,h2⟩:=h;by_cases e:p.1=k
  ·have e':q.1=k:=h1.symm.trans e;have b:valueAt (q::qs) k=some q.2:=by simp[valueAt,cq,e']
   rw[Yk e,b];exact h2
  ·have e':¬q.1=k:=λz=>e (h1.trans z);have b:valueAt (q::qs) k=valueAt qs k:=by simp[valueAt,cq,e']
   rw[Yl e,b];exact ih
theorem KV.any{kvs:List (κ×V)}{vs:List (κ×Value)}(r:KV kvs vs)(k:κ):(kvs.any λkv=>decide (kv.1=k))=vs.any λkv=>decide (kv.1=k):=by
 unfold KV at r;induction r with
|nil=>rfl
|cons h t ih=>rw[List.any_cons,List.any_cons,ih,h.1]
theorem KV.repl{kvs:List (κ×V)}{vs:List (κ×Value)}(r:KV kvs vs)(k:κ){y:V}{u:Value}(ry:RelV y u):KV (kvs.map λkv=>if kv.1=k then(kv.1,y)else kv) (vs.map λkv=>if kv.1=k then(kv.1,u)else kv):=by
 unfold KV at r ⊢;induction r with
|nil=>exact .nil
|@cons p q ps qs h t ih=>
  rw[ax,ax];refine .cons ?_ ih;obtain⟨h1,h2⟩:=h;by_cases e:p.1=k
  ·rw[if_pos e,if_pos (h1.symm.trans e)];exact⟨h1,ry⟩
  ·rw[if_neg e,if_neg (λz=>e (h1.trans z))];exact⟨h1,h2⟩
theorem KV.put{kvs:List (κ×V)}{vs:List (κ×Value)}(r:KV kvs vs)(k:κ){y:V}{u:Value}(ry:RelV y u):KV (putK kvs k y) (stored vs k u):=by
 unfold putK stored;rw[r.any k];by_cases e:(vs.any λkv=>decide (kv.1=k))=true
 ·rw[if_pos e,if_pos e];exact r.repl k ry
 ·rw[if_neg e,if_neg e];exact c7 r ⟨rfl,ry⟩
theorem KV.length{kvs:List (κ×V)}{vs:List (κ×Value)}(r:KV kvs vs):kvs.length=vs.length:=aR r
end
theorem U8{P:Program}{w:World}{k:Key}{u:Value}(r:RelV (kV k) u):(Zv P w).is k u=true:=by
 cases k with
|inl i=>obtain⟨t,e⟩:=(show ∃t,u=Value.int i t from r);subst e;exact NC P w i t
|inr x=>obtain⟨t,e⟩:=(show ∃t,u=Value.str x t from r);subst e;exact NB P w x t
theorem GY{P:Program}{w:World}:∀{ks:List Key}{us:List Value},Vals (ks.map kV) us->ItemsAre (Zv P w) ks us
|[],_,r=>by rw[fS]at r;cases r;exact .nil
|k::ks,_,r=>by
  rw[ax]at r;cases r with
 |cons h t=>exact .cons (U8 h) (GY t)
noncomputable abbrev KT(H:Hp):List (List Key×V)->List (List Key×Addr×Value)->Prop:=bS λp q=>p.1=q.1/\H q.2.1=some (.tup (p.1.map kV))/\RelV p.2 q.2.2
theorem KT.val{H:Hp}{kvs:List (List Key×V)}{xs:List (List Key×Addr×Value)}(r:KT H kvs xs)(k:List Key):RelO (valV kvs k) ((atKey xs k).map (·.2)):=by
 induction r with
|nil=>exact bB
|@cons p q ps qs h t ih=>
  obtain⟨h1,_,h2⟩:=h;by_cases e:p.1=k
  ·have e':q.1=k:=h1.symm.trans e;have b:atKey (q::qs) k=some q.2:=by simp[atKey,cq,e']
   rw[Yk e,b];exact h2
  ·have e':¬q.1=k:=λz=>e (h1.trans z);have b:atKey (q::qs) k=atKey qs k:=by simp[atKey,cq,e']
   rw[Yl e,b];exact ih
theorem KT.repl{H:Hp}{kvs:List (List Key×V)}{xs:List (List Key×Addr×Value)}(r:KT H kvs xs)(k:List Key){y:V}{u:Value}(ry:RelV y u):KT H (kvs.map λkv=>if kv.1=k then(kv.1,y)else kv) (xs.map (putAt k u)):=by
 induction r with
|nil=>exact .nil
|@cons p q ps qs h t ih=>
  rw[ax,ax];refine .cons ?_ ih;obtain⟨h1,h2,h3⟩:=h;unfold putAt;by_cases e:p.1=k
  ·rw[if_pos e,if_pos (h1.symm.trans e)];exact⟨h1,h2,ry⟩
  ·rw[if_neg e,if_neg (λz=>e (h1.trans z))];exact⟨h1,h2,h3⟩
theorem KT.put{H:Hp}{kvs:List (List Key×V)}{xs:List (List Key×Addr×Value)}(r:KT H kvs xs)(k:List Key){b:Addr}{y:V}{u:Value}(hb:H b=some (.tup (k.map kV)))(ry:RelV y u):KT H (putK kvs k y) (storedH xs k b u):=by
 have e:(kvs.any λkv=>decide (kv.1=k))=(atKey xs k).isSome:=by rw[YC,(r.val k).isSome_eq,dZ]
 unfold putK storedH;rw[e];by_cases q:(atKey xs k).isSome=true
 ·rw[if_pos q,if_pos q];exact r.repl k ry
 ·rw[if_neg q,if_neg q];exact c7 r ⟨rfl,hb,ry⟩
theorem KT.keeps{H H':Hp}{kvs:List (List Key×V)}{xs:List (List Key×Addr×Value)}(r:KT H kvs xs)(ht:∀b ys,H b=some (.tup ys)->H' b=some (.tup ys)):KT H' kvs xs:=Paired.mapP r λ_ _ z=>⟨z.1,ht _ _ z.2.1,z.2.2⟩
section
variable {P:Program}{w:World}{H:Hp}{h:Heap}{a:Addr}
theorem K3{u:HO}(ok:HOk P w H h)(e:Rd H a u):ZY P w H h a u:=e.ok ok
theorem Gi{kvs:List (Key×V)}(ok:HOk P w H h)(e:Rd H a (.dK kvs)):kvs.length<=sizeLine/\(a==bu)=false/\∃vs,KV kvs vs/\h.DictOf (Zv P w) a vs:=show ZY P w H h a (.dK kvs)from K3 ok e
theorem Ex{kvs:List (Key×V)}(ok:HOk P w H h)(e:H a=some (.dK kvs)):kvs.length<=sizeLine/\(a==bu)=false/\∃vs,KV kvs vs/\h.DictOf (Zv P w) a vs:=Gi ok (.inl e)
theorem J2{ks:List Key}(ok:HOk P w H h)(e:H a=some (.tup (ks.map kV))):(bG (Zv P w)).is h ks a:=by obtain⟨_,its,r,o,h1,h2,n,h3⟩:=(show ZY P w H h a (.tup (ks.map kV))from ok a _ e);exact⟨o,its.toArray,n,h1,h2,h3,by simpa using GY r⟩
theorem Gg{kvs:List (List Key×V)}(ok:HOk P w H h)(e:Rd H a (.dT kvs)):kvs.length<=sizeLine/\(a==bu)=false /\∃xs,KT H kvs xs/\h.DictOfH (bG (Zv P w)) a xs:=by
 obtain⟨z,y,xs,r,o,es,ep,h1,h2,h3,h4,h5⟩:=(show ZY P w H h a (.dT kvs)from K3 ok e);refine⟨z,y,xs,r,o,es,ep,h1,h2,h3,h4,λx hx=>?_,h5⟩;have all:∀{l:List (List Key×V)}{m:List (List Key×Addr×Value)},KT H l m->∀x∈m,(bG (Zv P w)).is h x.1 x.2.1:=by
  intro l m q;induction q with
 |nil=>intro x hx;exact nomatch hx
 |@cons p q ps qs hq t ih=>
   intro x hx;rcases ar.mp hx with e|hx
   ·subst e;exact J2 ok (by rw[<-hq.1];exact hq.2.1)
   ·exact ih x hx
 exact all r x hx
theorem Gh{kvs:List (List Key×V)}(ok:HOk P w H h)(e:H a=some (.dT kvs)):kvs.length<=sizeLine/\(a==bu)=false /\∃xs,KT H kvs xs/\h.DictOfH (bG (Zv P w)) a xs:=Gg ok (.inl e)
end
def DGet(H:Hp)(a:Addr)(y:V)(r:Option V):Prop:=(∃kvs k,Rd H a (.dK kvs)/\y=kV k/\r=valV kvs k)\/∃kvs k b,Rd H a (.dT kvs)/\y=.ref b/\H b=some (.tup (k.map kV))/\r=valV kvs k
def DPut(H:Hp)(a:Addr)(y v:V)(H':Hp):Prop:=(∃kvs k,H a=some (.dK kvs)/\y=kV k/\kvs.length<sizeLine/\H'=upd H a (.dK (putK kvs k v))) \/∃kvs k b,H a=some (.dT kvs)/\y=.ref b/\H b=some (.tup (k.map kV))/\kvs.length<sizeLine/\H'=upd H a (.dT (putK kvs k v))
theorem DGet.k{H:Hp}{a:Addr}{kvs:List (Key×V)}{k:Key}(e:H a=some (.dK kvs)):DGet H a (kV k) (valV kvs k):=.inl ⟨kvs,k,.inl e,rfl,rfl⟩
theorem DGet.t{H:Hp}{a b:Addr}{kvs:List (List Key×V)}{k:List Key}(e:H a=some (.dT kvs))(eb:H b=some (.tup (k.map kV))):DGet H a (.ref b) (valV kvs k):=.inr ⟨kvs,k,b,.inl e,rfl,eb,rfl⟩
theorem DPut.k{H:Hp}{a:Addr}{kvs:List (Key×V)}{k:Key}{v:V}(e:H a=some (.dK kvs))(hl:kvs.length<sizeLine):DPut H a (kV k) v (upd H a (.dK (putK kvs k v))):=.inl ⟨kvs,k,e,rfl,hl,rfl⟩
theorem DPut.t{H:Hp}{a b:Addr}{kvs:List (List Key×V)}{k:List Key}{v:V}(e:H a=some (.dT kvs))(eb:H b=some (.tup (k.map kV)))(hl:kvs.length<sizeLine):DPut H a (.ref b) v (upd H a (.dT (putK kvs k v))):=.inr ⟨kvs,k,b,e,rfl,eb,hl,rfl⟩
section
variable {X:Cx}{pins:List (Addr×Obj)}{σ:St}{H:Hp}{s:ah}{a:Addr}{y v:V}{u r:Value}{o:Option V}{A:br}{E:Value->ah->Prop}
theorem Inv.big(I:Inv X pins σ H s):bu<s.heap.objs.size:=by have h:a8<s.heap.objs.size:=(I.mod.glob.keeps I.bk).lt;exact Nat.lt_trans (by decide) h
theorem RO{Q:Value->ah->Prop}(hu:A.units+1<cLine)(I:Inv X pins σ H s)(g:DGet H a y (some v))(ry:RelV y u)(h:∀w' s',Inv X pins σ H s'->RelV v w'->Q w' s'):wpAny (model X.prog X.w) A (fR (.ref a) u) Q E s:=by
 rcases g with⟨kvs,k,e,ey,l⟩|⟨kvs,k,b,e,ey,eb,l⟩
 ·subst ey;obtain⟨z,hd,vs,rel,dd⟩:=Gi I.hok e;obtain⟨w',hw,rw'⟩:=RelO.some_of (v:=v) (o:=valueAt vs k) (by rw[l];exact rel.val k);exact wpAny_getItem_of (U8 ry) dd.mapOf hw (h w' _ (I.tok _) rw')
 ·subst ey;cases(show u=Value.ref b from ry);obtain⟨z,hd,xs,rel,dd⟩:=Gg I.hok e;obtain⟨w',hw,rw'⟩:=RelO.some_of (v:=v) (o:=(atKey xs k).map (·.2)) (by rw[l];exact rel.val k);obtain⟨p,hp,hp2⟩:=cu.mp hw;refine wpAny_getItem_heap (cL hu) (J2 I.hok eb) dd hp ?_;rw[hp2];exact h w' _ (I.tok _) rw'
theorem d_in{Q:Value->ah->Prop}(hu:A.units+1<cLine)(I:Inv X pins σ H s)(g:DGet H a y o)(ry:RelV y u)(h:∀s',Inv X pins σ H s'->Q (.bool o.isSome) s'):wpAny (model X.prog X.w) A (bA .In u (.ref a)) Q E s:=by
 rcases g with⟨kvs,k,e,ey,l⟩|⟨kvs,k,b,e,ey,eb,l⟩
 ·subst ey;obtain⟨z,hd,vs,rel,dd⟩:=Gi I.hok e;refine wpAny_in_of (U8 ry) hd dd.mapOf ?_;rw[<-(rel.val k).isSome_eq,<-l];exact h _ (I.tok _)
 ·subst ey;cases(show u=Value.ref b from ry);obtain⟨z,hd,xs,rel,dd⟩:=Gg I.hok e;refine wpAny_in_heap (cL hu) (J2 I.hok eb) hd dd ?_;have q:=(rel.val k).isSome_eq;rw[dZ]at q;rw[<-q,<-l];exact h _ (I.tok _)
theorem KA{Q:Value->ah->Prop}(hu:A.units+1<cLine)(I:Inv X pins σ H s)(g:DGet H a y o)(ry:RelV y u)(h:∀s',Inv X pins σ H s'->Q (.bool (!o.isSome)) s'):wpAny (model X.prog X.w) A (bA .NotIn u (.ref a)) Q E s:=by
 rcases g with⟨kvs,k,e,ey,l⟩|⟨kvs,k,b,e,ey,eb,l⟩
 ·subst ey;obtain⟨z,hd,vs,rel,dd⟩:=Gi I.hok e;refine wpAny_notIn_of (U8 ry) hd dd.mapOf ?_;rw[<-(rel.val k).isSome_eq,<-l];exact h _ (I.tok _)
 ·subst ey;cases(show u=Value.ref b from ry);obtain⟨z,hd,xs,rel,dd⟩:=Gg I.hok e;refine wpAny_notIn_heap (cL hu) (J2 I.hok eb) hd dd ?_;have q:=(rel.val k).isSome_eq;rw[dZ]at q;rw[<-q,<-l];exact h _ (I.tok _)
theorem MO{h':Heap}{t':Nat}{ob:HO}(I:Inv X pins σ H s)(mu:Mut (H a))(hs:Heap.SameBut a s.heap h')(he:∃q,h'.get? a=some q)(new:ZY X.prog X.w (upd H a ob) h' a ob):Inv X pins σ (upd H a ob) {s with heap:=h',toks:=t'}:=I.write (x:=a) (e:=a) mu (.inl rfl) (λb q hb z=>(hs.2 b hb).trans z) he new
theorem DI{P:Program}{w:World}{H':Hp}{h':Heap}{kvs:List (Key×V)}{vs:List (Key×Value)}(z:kvs.length<=sizeLine)(hd:(a==bu)=false)(rel:KV kvs vs)(dd:h'.DictOf (Zv P w) a vs):ZY P w H' h' a (.dK kvs):=⟨z,hd,vs,rel,dd⟩
theorem RN{H':Hp}{Q:Unit->ah->Prop}(hu:A.units+1<cLine)(I:Inv X pins σ H s)(g:DPut H a y v H')(ry:RelV y u)(rv:RelV v r)(h:∀s',Inv X pins σ H' s'->Q () s'):wpAny (model X.prog X.w) A (setItem (.ref a) u r) Q E s:=by
 rcases g with⟨kvs,k,e,ey,l,eH⟩|⟨kvs,k,b,e,ey,eb,l,eH⟩
 ·subst ey eH;obtain⟨z,hd,vs,rel,dd⟩:=Ex I.hok e;have hz:vs.length<=sizeLine:=by rw[<-rel.length];exact z
  have hl:(putK kvs k v).length<=sizeLine:=by have:=Xa kvs k v;omega
  refine wpAny_setItem_pairs (hsz:=hz) (U8 ry) dd λh' dd' hs=>h _ ?_;have he:∃q,h'.get? a=some q:=let ⟨q,_,_,hq,_⟩:=dd';⟨q,hq⟩
  exact MO I (by rw[e];exact bB) hs he (DI hl hd (rel.put k rv) dd')
 ·subst ey eH;cases(show u=Value.ref b from ry);obtain⟨z,hd,xs,rel,dd⟩:=Gh I.hok e;have hz:xs.length<=sizeLine:=by rw[<-aR rel];exact z
  have hl:(putK kvs k v).length<=sizeLine:=by have:=Xa kvs k v;omega
  refine wpAny_setItem_heap (hsz:=hz) (cL hu) (J2 I.hok eb) dd λh' dd' hs=>h _ ?_;obtain⟨q,es,ep,hq,h2,h3,h4,_,h5⟩:=dd';refine MO I (by rw[e];exact bB) hs ⟨q,hq⟩ ⟨hl,hd,_,(rel.put k eb rv).keeps λc ys ec=>?_,q,es,ep,hq,h2,h3,h4,h5⟩;rw[Zc (ne_of ec e (λz=>nomatch z))];exact ec
end
def NoSl(i:Expr):Prop:=∀ov iv,subscripted i false ov iv=operate [ov,iv] (fR ov iv)
theorem Mf{prog:Program}{w:World}{A:br}{E:Value->ah->Prop}{s:ah}{env:Env}{value slice:Expr}{pos:Pos}{T id:String}{Q:Value->ah->Prop}(hl:typeLookup (.type T) "__getitem__"=pure (some (.builtin id)))(hs:NoSl slice)(h:wpAny (model prog w) A (eval value env) (λo s₁=>wpAny (model prog w) A (eval slice env) (λi s₂=>s₂.TypeIs o T/\wpAny (model prog w) A (fR o i) Q E s₂) E s₁) E s):wpAny (model prog w) A (eval (.Subscript value slice pos) env) Q E s:=by
 refine Subscript_ (dz h (λo s₁ h₁=>dz h₁ (λi s₂ h₂=>?_) λ_ _ x=>x) λ_ _ x=>x);obtain⟨hT,h₂⟩:=h₂;unfold subscriptTail;refine aa ?_;rw[getitemInPython_of_ne hT.not_modules];refine aa (fw hT hl ?_);have fin:wpAny (model prog w) A (subscripted slice false o i) (λr s₃=>wpAny (model prog w) A (letTemporaryGo value o r >>= λ_=>pure r) Q E s₃) E s₂:=by rw[hs o i];exact wpAny_operating (dz h₂ (λr s₃ h₃=>aa (wpAny_letTemporaryGo (af h₃))) λ_ _ x=>x)
 first
 |exact af (aa fin)
 |exact aa (af (aa fin))
 |exact aa fin
theorem NP{X:Cx}{pins:List (Addr×Obj)}{σ:St}{H:Hp}{s:ah}{a:Addr}{y:V}{o:Option V}(I:Inv X pins σ H s)(g:DGet H a y o):s.TypeIs (.ref a) "dict":=by
 rcases g with⟨kvs,k,e,_,_⟩|⟨kvs,k,b,e,_,_,_⟩
 ·obtain⟨_,_,vs,_,dd⟩:=Gi I.hok e;exact dd.typeIs
 ·obtain⟨_,_,xs,_,dd⟩:=Gg I.hok e;exact dd.typeIs
def Eb(td ty:TE):TE:=λσ H Q=>td σ H λx H1=>ty σ H1 λy H2=>∃a v,x=.ref a/\DGet H2 a y (some v)/\Q v H2
def tDIn(ty td:TE):TE:=λσ H Q=>ty σ H λy H1=>td σ H1 λx H2=>∃a o,x=.ref a/\DGet H2 a y o/\Q (.bl o.isSome) H2
def Eg(td ty tv:TE):TS:=λD σ H=>tv σ H λv H1=>td σ H1 λx H2=>ty σ H2 λy H3=>∃a H4,x=.ref a/\DPut H3 a y v H4/\D.nx σ H4
section
variable {X:Cx}{o i e value:Expr}{pos pos' tpos:Pos}{td ty tv:TE}
theorem YM(hu:X.A.units+1<cLine)(ho:PE X o td)(hi:PE X i ty)(hs:NoSl i):PE X (.Subscript o i pos) (Eb td ty):=by intro pins s σ H Q I h;refine Mf ft.lookup hs (thn (ho pins s σ H _ I h) λu s1⟨x,H1,I1,rx,q1⟩=>thn (hi pins s1 σ H1 _ I1 q1) λiv s2 hZ=>?_);obtain⟨y,H2,I2,ry,a,v,ex,g,q2⟩:=hZ;subst ex;obtain rfl:u=Value.ref a:=rx;exact⟨NP I2 g,RO hu I2 g ry λw' s3 I3 rw'=>⟨v,H2,I3,rw',q2⟩⟩
theorem Tz(hu:X.A.units+1<cLine)(hi:PE X i ty)(ho:PE X o td):PC X .In i o (tDIn ty td):=by intro pins s σ H Q I h;refine thn (hi pins s σ H _ I h) λiv s1⟨y,H1,I1,ry,q1⟩=>thn (ho pins s1 σ H1 _ I1 q1) λu s2 hZ=>?_;obtain⟨x,H2,I2,rx,a,ov,ex,g,q2⟩:=hZ;subst ex;obtain rfl:u=Value.ref a:=rx;exact d_in hu I2 g ry λs3 I3=>⟨.bl ov.isSome,H2,I3,rfl,q2⟩
theorem Yx(hu:X.A.units+1<cLine)(ho:PE X o td)(hi:PE X i ty)(hv:PE X value tv)(hs:f7 value (some (.Subscript o i pos')) pos.line X.env=pure false):PS X (.Assign [.Subscript o i pos'] value pos) (Eg td ty tv):=by intro pins s σ H D I h;refine wpAny_Assign_Subscript (thn (hv pins s σ H _ I h) λr s1⟨v,H1,I1,rv,q1⟩=>thn (ho pins s1 σ H1 _ I1 q1) λu s2⟨x,H2,I2,rx,q2⟩=>thn (hi pins s2 σ H2 _ I2 q2) λiv s3 hZ=>?_) hs;obtain⟨y,H3,I3,ry,a,H4,ex,g,q3⟩:=hZ;subst ex;obtain rfl:u=Value.ref a:=rx;exact RN hu I3 g ry rv λs4 I4=>⟨σ,H4,I4,q3⟩
end
theorem Wl{P:Program}{w:World}{H:Hp}(h:Heap)(hb:bu<h.objs.size):ZY P w H (h.push {cls:=.type "dict",data:=.dict #[]}) h.objs.size (.dK []):=⟨Nat.zero_le _,beq_eq_false_iff_ne.mpr (bR (Nat.ne_of_lt hb)),[],.nil,Heap.DictOf.new h⟩
theorem Wk{P:Program}{w:World}{H:Hp}(h:Heap)(hb:bu<h.objs.size):ZY P w H (h.push {cls:=.type "dict",data:=.dict #[]}) h.objs.size (.dT []):=⟨Nat.zero_le _,beq_eq_false_iff_ne.mpr (bR (Nat.ne_of_lt hb)),[],.nil,_,#[],0,Heap.get?_push_size _ rfl,⟨rfl,rfl,rfl⟩,rfl,rfl,cW⟩
def Sv:TE:=λ_ H Q=>∀p,H p=none->Q (.ref p) (upd H p (.dK []))
def Lj:TE:=λ_ H Q=>∀p,H p=none->Q (.ref p) (upd H p (.dT []))
section
variable {X:Cx}{pos:Pos}
theorem Vj:PE X (.Dict [] [] pos) Sv:=λpins s σ H Q I h=>wpAny_Dict_empty ⟨.ref s.heap.objs.size,_,I.laid (a:=s.heap.objs.size) (o:=.dK []) (t':=s.toks) (λ_ _ q=>Heap.get?_push_of_some _ q) (Nat.le_refl _) (Wl s.heap I.big),rfl,h _ (I.hok.fresh (Nat.le_refl _))⟩
theorem Y9:PE X (.Dict [] [] pos) Lj:=λpins s σ H Q I h=>wpAny_Dict_empty ⟨.ref s.heap.objs.size,_,I.laid (a:=s.heap.objs.size) (o:=.dT []) (t':=s.toks) (λ_ _ q=>Heap.get?_push_of_some _ q) (Nat.le_refl _) (Wk s.heap I.big),rfl,h _ (I.hok.fresh (Nat.le_refl _))⟩
end
structure M1(X:Cx)(o:Expr)(m:Str)(apos:Pos)(e:Expr)(cpos:Pos):Prop where
 base:c8 o m X.env (eval o X.env)=eval o X.env
 few:((b8 cpos (az [e] X.env)).all (λx=>!x.1)&&(eO cpos (cV [] X.env)).all (λx=>x.1.isSome)
 &&decide (([e]:List Expr).length+([]:List g9).length+(if([]:List g9).isEmpty then 0 else 1)<30))=true
 line:(apos.endLine==cpos.line)=true
 trees:b8 cpos (az [e] X.env)=[(false,eval e X.env)]
structure M2(X:Cx)(o:Expr)(m:Str)(apos:Pos)(e f:Expr)(cpos:Pos):Prop where
 base:c8 o m X.env (eval o X.env)=eval o X.env
 few:((b8 cpos (az [e,f] X.env)).all (λx=>!x.1)&&(eO cpos (cV [] X.env)).all (λx=>x.1.isSome)
 &&decide (([e,f]:List Expr).length+([]:List g9).length+(if([]:List g9).isEmpty then 0 else 1)<30))=true
 line:(apos.endLine==cpos.line)=true
 trees:b8 cpos (az [e,f] X.env)=[(false,eval e X.env),(false,eval f X.env)]
def IsD(H:Hp)(a:Addr):Prop:=(∃kvs,Rd H a (.dK kvs))\/∃kvs,Rd H a (.dT kvs)
theorem Dw{X:Cx}{pins:List (Addr×Obj)}{σ:St}{H:Hp}{s:ah}{a:Addr}(I:Inv X pins σ H s)(d:IsD H a):s.TypeIs (.ref a) "dict"/\(∀b,Value.ref a=.ref b->∃ob,s.heap.get? b=some ob/\ob.dict=none)/\(a==bu)=false:=by
 rcases d with⟨kvs,e⟩|⟨kvs,e⟩
 ·obtain⟨_,hd,vs,_,dd⟩:=Gi I.hok e;refine⟨dd.typeIs,λb q=>?_,hd⟩;cases q;obtain⟨ob,_,_,h1,h2,_⟩:=dd;exact⟨ob,h1,h2.2.1⟩
 ·obtain⟨_,hd,xs,_,dd⟩:=Gg I.hok e;refine⟨dd.typeIs,λb q=>?_,hd⟩;cases q;obtain⟨ob,_,_,h1,h2,_⟩:=dd;exact⟨ob,h1,h2.2.1⟩
section
variable {X:Cx}{pins:List (Addr×Obj)}{σ:St}{H:Hp}{s:ah}{a:Addr}{y d:V}{u r:Value}{o:Option V}{A:br}{E:Value->ah->Prop}
theorem DJ{Q:Value->ah->Prop}(hu:A.units+1<cLine)(I:Inv X pins σ H s)(g:DGet H a y o)(ry:RelV y u)(rd:RelV d r)(h:∀w' s',Inv X pins σ H s'->RelV (o.getD d) w'->Q w' s'):wpAny (model X.prog X.w) A (call (.builtin "dict.get") [.ref a,u,r]) Q E s:=by
 rcases g with⟨kvs,k,e,ey,l⟩|⟨kvs,k,b,e,ey,eb,l⟩
 ·subst ey;obtain⟨z,hd,vs,rel,dd⟩:=Gi I.hok e;refine fC fQ dd.typeIs PySem.F.entry_dict_get (PySem.F.args_dict_get_3 _ _ _) (meets_dict_get_default (Zv X.prog X.w) a (U8 ry) hd r) ⟨_,dd.mapOf,h _ _ (I.tok _) ?_⟩;rw[l];exact(rel.val k).getD rd
 ·subst ey;cases(show u=Value.ref b from ry);obtain⟨z,hd,xs,rel,dd⟩:=Gg I.hok e;refine fC fQ dd.typeIs PySem.F.entry_dict_get (PySem.F.args_dict_get_3 _ _ _) (meetsH_dict_get_default (bG (Zv X.prog X.w)) a b hd r) ⟨cL hu,k,xs,J2 I.hok eb,dd,h _ _ (I.tok _) ?_⟩;rw[l];exact(rel.val k).getD rd
end
def Ll(td ty tx:TE):TE:=λσ H Q=>td σ H λx H1=>∃a,x=.ref a/\IsD H1 a/\ty σ H1 λy H2=>tx σ H2 λz H3=>∃o,DGet H3 a y o/\Q (o.getD z) H3
section
variable {X:Cx}{o e f:Expr}{apos cpos:Pos}{td ty tx:TE}
theorem Vk(hu:X.A.units+1<cLine)(ho:PE X o td)(he:PE X e ty)(hf:PE X f tx)(m:M2 X o "get" apos e f cpos):PE X (.Call (.Attribute o "get" apos) [e,f] [] cpos) (Ll td ty tx):=by
 intro pins s σ H Q I h;refine wpAny_Call_method m.base m.few m.line cS fQ PySem.F.type_dict_get (thn (ho pins s σ H _ I h) λu s1 hZ=>?_);obtain⟨x,H1,I1,rx,a,ex,d,q1⟩:=hZ;subst ex;obtain rfl:u=Value.ref a:=rx;obtain⟨t1,t2,_⟩:=Dw I1 d;refine⟨t1,t2,?_⟩;rw[m.trees];refine cv rfl (gg (dW (thn (he pins s1 σ H1 _ I1 q1) λiv s2⟨y,H2,I2,ry,q2⟩=>dW (thn (hf pins s2 σ H2 _ I2 q2) λfv s3⟨z,H3,I3,rz,ov,g,q3⟩=>fA ?_))));exact DJ hu I3 g ry rz λw' s4 I4 rw'=>⟨_,H3,I4,rw',q3⟩
end
open PySem PySem.Spec PyProof.Rows
section
variable {κ:Type}[DecidableEq κ]
theorem M4{kvs:List (κ×V)}{k:κ}(h:valV kvs k=none):¬k∈kvs.map (·.1):=by intro m;obtain⟨p,hp,e⟩:=ai.mp m;have q:(kvs.any λkv=>decide (kv.1=k))=true:=fM.mpr ⟨p,hp,decide_eq_true e⟩;rw[YC,h]at q;exact absurd q (by simp)
theorem WN{kvs:List (κ×V)}{k:κ}{v:V}(h:valV kvs k=some v):k∈kvs.map (·.1):=by
 have q:(kvs.any λkv=>decide (kv.1=k))=true:=by rw[YC,h];all_goals rfl
 obtain⟨p,hp,e⟩:=fM.mp q;exact ai.mpr ⟨p,hp,of_decide_eq_true e⟩
theorem Mz:∀{l:List κ}{k:κ},l.Nodup->¬k∈l->(l++[k]).Nodup
|[],k,_,_=>by simp
|a::r,k,h,hk=>by
  obtain⟨h1,h2⟩:=bo.mp h;show(a::(r++[k])).Nodup;refine bo.mpr ⟨λm=>?_,Mz h2 λm=>hk (ar.mpr (fJ m))⟩;rcases aK.mp m with q|q
  ·exact h1 q
  ·exact hk (ar.mpr (aN (a7.mp q).symm))
theorem Kk{kvs:List (κ×V)}{k:κ}(v:V)(hn:(kvs.map (·.1)).Nodup)(h:valV kvs k=none):((putK kvs k v).map (·.1)).Nodup:=by rw[Ti v h,aE];exact Mz hn (M4 h)
end
theorem JV(z:Str):gX z="str_ascii_iterator"\/gX z="str_iterator":=by
 unfold gX;split
 ·exact .inl rfl
 ·exact .inr rfl
theorem GH{P:Program}{w:World}{A:br}(hh:A.handled=none)(it:Addr)(x:Str)(t:Tok):Walks P w A it [it] [it] x.cps.size (SignAt x) (λi h=>h.IsStrIter it (gX x) x t i):=by
 rcases JV x with e|e
 ·rw[e];exact Walks.strAscii hh it x t
 ·rw[e];exact Walks.strWide hh it x t
noncomputable def Its(z:Str):It:=⟨λi _=>i<z.length,λi H x H'=>H'=H/\∃c,z.cps.toList[i]?=some c/\x=.str ⟨#[c]⟩,λi _=>z.length<=i⟩
theorem Sr{P:Program}{w:World}{K:ae}{tg:Expr}(z:Str)(t:Tok)(it:Addr):
  Turn P w K tg (Its z) [it] it (λi h=>i<=z.length/\h.IsStrIter it (gX z) z t i) where
 mem:=by simp
 obj:=λi h st b hb=>by
  have e:b=it:=by simpa using hb
  subst e
  obtain⟨_,o,e,c,d⟩:=st
  exact⟨o,e,λv z=>by rw[d]at z;cases z⟩
 keep:=λi h h' st k=>by
  obtain⟨l,o,e,r⟩:=st
  exact⟨l,o,k it (by simp) o e,r⟩
 item:=by
  intro X hP hw hK hc i pins s σ H E I hf st hg
  subst hP hw hK
  obtain⟨f0,f1,f2,f3,f4,f5⟩:=hf it (by simp)
  have W:=GH (P:=X.prog) (w:=X.w) (I.ok.hd hc) it z t
  refine W.item i s _ _ hg st.2 λv h' tk hv st' kk=>?_
  obtain⟨c,u,hcps,rfl⟩:=hv
  have I1:Inv X pins σ H {s with heap:=h',toks:=tk}:=I.turned (λb o hb e=>kk b o (by simpa using hb) e) f0 f1 f3 f4 f5
  obtain⟨o,e,c',d⟩:=id st'
  refine⟨_,rfl,G0 (s:={s with heap:=h',toks:=tk}) e c' d ?_ ⟨.str ⟨#[c]⟩,H,I1,⟨u,rfl⟩,⟨rfl,c,by simpa using hcps,rfl⟩,⟨hg,st'⟩,λb hb=>(hf b hb).1⟩⟩
  rcases JV z with e|e<;>rw[e]<;>decide
 done:=by
  intro X hP hw hK hc i pins s σ H E I hf st hg
  subst hP hw hK
  obtain⟨f0,f1,f2,f3,f4,f5⟩:=hf it (by simp)
  have W:=GH (P:=X.prog) (w:=X.w) (I.ok.hd hc) it z t
  obtain⟨hl,st⟩:=st
  have e:i=z.length:=Nat.le_antisymm hl hg
  subst e
  exact W.done s _ _ st λh' tk kk=>⟨rfl,I.turned (λb o hb e=>kk b o (by simpa using hb) e) f0 f1 f3 f4 f5⟩
 self:=λA i s Q E st h=>by
  obtain⟨_,st⟩:=st
  rcases JV z with e|e
  ·rw[e]at st;exact wpAny_pyIter_striter_ascii st h
  ·rw[e]at st;exact wpAny_pyIter_striter_wide st h
section
variable {X:Cx}{tg:Expr}
noncomputable def iStr(tl:TE):TI:=λσ H R=>tl σ H λx H1=>∃z,x=.str z/\R (Its z) H1
theorem Lz{l:Expr}{tl:TE}(hl:PE X l tl):PI X tg l (iStr tl):=by
 intro pins s σ H R I h;refine thn (hl pins s σ H _ I h) λv s1 hZ=>?_;obtain⟨x,H1,I1,r1,q1⟩:=hZ;obtain⟨z,e,q⟩:=q1;subst e;obtain⟨t,rfl⟩:=r1;refine wpAny_pyIter_strU ?_;refine⟨s1.heap.objs.size,[s1.heap.objs.size],_,_,H1,rfl,I1.kept (t':=s1.toks) λb o e=>Heap.get?_push_of_some _ e,Sr z t _,⟨Nat.zero_le _,_,Heap.get?_push_size _ rfl,rfl,rfl⟩,λb hb=>?_,q⟩;have e:b=s1.heap.objs.size:=by simpa using hb
 subst e;exact I1.fpOk (Nat.le_refl _) (I1.hok.fresh (Nat.le_refl _))
end
theorem XX{α:Type}{n:Nat}{l:List α}(h:l.length=n+1):∃a t,l=a::t/\t.length=n:=by
 cases l with
|nil=>cases h
|cons a t=>exact⟨a,t,rfl,Nat.succ.inj h⟩
theorem len1{α:Type}{l:List α}(h:l.length=1):∃a,l=[a]:=by obtain⟨a,t,rfl,h'⟩:=XX h;exact⟨a,by rw[ck h']⟩
theorem len2{α:Type}{l:List α}(h:l.length=2):∃a b,l=[a,b]:=by obtain⟨a,t,rfl,h'⟩:=XX h;obtain⟨b,rfl⟩:=len1 h';exact⟨a,b,rfl⟩
theorem len3{α:Type}{l:List α}(h:l.length=3):∃a b c,l=[a,b,c]:=by obtain⟨a,t,rfl,h'⟩:=XX h;obtain⟨b,c,rfl⟩:=len2 h';exact⟨a,b,c,rfl⟩
theorem len4{α:Type}{l:List α}(h:l.length=4):∃a b c d,l=[a,b,c,d]:=by obtain⟨a,t,rfl,h'⟩:=XX h;obtain⟨b,c,d,rfl⟩:=len3 h';exact⟨a,b,c,d,rfl⟩
theorem len5{α:Type}{l:List α}(h:l.length=5):∃a b c d e,l=[a,b,c,d,e]:=by obtain⟨a,t,rfl,h'⟩:=XX h;obtain⟨b,c,d,e,rfl⟩:=len4 h';exact⟨a,b,c,d,e,rfl⟩
theorem len6{α:Type}{l:List α}(h:l.length=6):∃a b c d e f,l=[a,b,c,d,e,f]:=by obtain⟨a,t,rfl,h'⟩:=XX h;obtain⟨b,c,d,e,f,rfl⟩:=len5 h';exact⟨a,b,c,d,e,f,rfl⟩
section
variable {prog:Program}{w:World}{A:br}{R:Result->ah->Prop}{s:ah}
noncomputable abbrev NoX:Value->ah->Prop:=λ_ _=>False
theorem Ld{α:Type}{M:Model}{t:Sem α}{Q:α->ah->Prop}{E:Value->ah->Prop}(h:wpAny M A t Q NoX s):wpAny M A t Q E s:=dz h (λ_ _ q=>q) λ_ _ x=>x.elim
theorem NT{elt target iter:Expr}{ifs:List Expr}{scope:Scope}{pos:Pos}{it acc:Value}{env:Env}(I:Nat->ah->Prop)
  (turn:∀n s,I n s->wpAny (model prog w) A (gU it) (λr s₁=>match r with
  |none=>R (.ok .next) s₁
  |some v=>wpAny (model prog w) A (gC target it v) (λ_ s₀=>wpAny (model prog w) A (assign target env v) (λ_ s₂=>
     wpAny (model prog w) A (forIn ifs true λc r=>if r=true then do let ok <-isTrue c env (eval c env);pure (dN ok)else pure (dN r)) (λok s₃=>
      if ok=true then wpAny (model prog w) A (eval elt env) (λx s₄=>wpAny (model prog w) A (call (.builtin "list.append") [acc,x]) (λ_ s₅=>∃m,m<n/\I m s₅) NoX s₄) NoX s₃
      else ∃m,m<n/\I m s₃) NoX s₂) NoX s₀) NoX s₁) NoX s)
  (n:Nat) (h:I n s):
  g8 (model prog w) A (.compLoop (.ListComp elt [⟨target,iter,ifs,0⟩] scope pos) 0 it acc env) R s:=by
 refine codeAny_loop rfl I (λn s hI=>?_) n h
 show wpAny _ A ((compTurn (.ListComp elt [⟨target,iter,ifs,0⟩] scope pos) 0 it acc env).onRaise (λx=>do noteFrame x env;theTreesLotGoes x)) _ _ s
 refine wpAny_noted (Ld ?_)
 rw[compTurn_list]
 refine aa (h_ (aa (thn (turn n s hI) (λr s₁ h₁=>?_))))
 cases r with
|none=>exact af h₁
|some v=>
  refine aa (thn h₁ λ_ s₀ h₀=>?_)
  refine aa (thn h₀ λ_ s₂ h₂=>aa (thn h₂ λok s₃ h₃=>?_))
  cases ok with
 |false=>exact af ⟨rfl,h₃⟩
 |true=>exact aa (aa (thn h₃ λx s₄ h₄=>aa (thn h₄ λ_ s₅ h₅=>af (af ⟨rfl,h₅⟩))))
end
noncomputable def clGo(env:Env):List (Str×dR)->List (Str×Addr)->List (Str×Addr)
|[],cs=>cs
|(n,k)::r,cs=>clGo env r (if k==.free then(n,(env.cells.lookup n).getD 0)::cs else cs)
noncomputable def clOf(scope:Scope)(env:Env):List (Str×Addr):=clGo env scope.names []
theorem J5{env:Env}:∀(names:List (Str×dR))(cs:List (Str×Addr)),(∀x∈names,x.2=.free->∃c,env.cells.lookup x.1=some c) ->
  (forIn names cs λ(x:Str×dR)(r:List (Str×Addr))=>(match x with
  |(name,kind)=>if(kind==.free)=true then(do let c <-cellOf env name;pure (dN ((name,c)::r)))else pure (dN r):Sem (ForInStep (List (Str×Addr)))))
   = pure (clGo env names cs)
|[],cs,_=>rfl
|(n,k)::r,cs,h=>by
  rw[List.forIn_cons]
  cases hk:k==bU with
 |true=>
   obtain⟨c,hc⟩:=h (n,k) aA (by simpa using hk)
   have e:cellOf env n=pure c:=by unfold cellOf;rw[show env.cells.lookup n=some c from hc]
   simp only[hk,if_true,e,clGo,pure_bind]
   rw[show env.cells.lookup n=some c from hc]
   exact J5 r _ λx hx=>h x (aq _ hx)
 |false=>
   simp only[hk,Bool.false_eq_true,if_false,clGo,pure_bind]
   exact J5 r _ λx hx=>h x (aq _ hx)
theorem PY{scope:Scope}{env:Env}(h:∀x∈scope.names,x.2=.free->∃c,env.cells.lookup x.1=some c):closureFor scope env=pure (clOf scope env):=by have e:=J5 (env:=env) scope.names [] h;unfold closureFor clOf;rw[<-e];simp only[bind_pure]
theorem JH{env:Env}{x:Str}:∀(names:List (Str×dR))(cs:List (Str×Addr)),(∀y∈names,y.2=.free->∃c,env.cells.lookup y.1=some c)->(∀c,cs.lookup x=some c->env.cells.lookup x=some c) ->(∀c,(clGo env names cs).lookup x=some c->env.cells.lookup x=some c)/\(((x,bU)∈names\/(cs.lookup x).isSome=true)->((clGo env names cs).lookup x).isSome=true)
|[],cs,_,h=>⟨h,λz=>z.elim (λz=>absurd z (by simp)) id⟩
|(n,k)::r,cs,hf,h=>by
  have hr:∀y∈r,y.2=bU->∃c,env.cells.lookup y.1=some c:=λy hy=>hf y (aq _ hy);show(∀c,(clGo env r (if k==.free then(n,(env.cells.lookup n).getD 0)::cs else cs)).lookup x=some c->_)/\(_->((clGo env r (if k==.free then(n,(env.cells.lookup n).getD 0)::cs else cs)).lookup x).isSome=true);cases hk:k==bU with
 |true=>
   obtain⟨c0,hc0⟩:=hf (n,k) aA (by simpa using hk);have hc0':env.cells.lookup n=some c0:=hc0;simp only[if_true,hc0',Option.getD_some];have h2:∀c,((n,c0)::cs).lookup x=some c->env.cells.lookup x=some c:=λc q=>by
    rw[cZ]at q;cases hx:x==n with
   |true=>
     rw[hx]at q;have e:x=n:=by simpa using hx
     subst e;cases q;exact hc0'
   |false=>rw[hx]at q;exact h c q
   obtain⟨a,b⟩:=JH r ((n,c0)::cs) hr h2;refine⟨a,λz=>b ?_⟩;by_cases hx:x=n
   ·right;subst hx;simp
   ·rcases z with z|z
    ·rcases ar.mp z with e|z
     ·exact absurd (congrArg Prod.fst e) hx
     ·exact .inl z
    ·right;have:(x==n)=false:=by simpa using hx
     rw[cZ,this];exact z
 |false=>
   simp only[Bool.false_eq_true,if_false];obtain⟨a,b⟩:=JH r cs hr h;refine⟨a,λz=>b ?_⟩;rcases z with z|z
   ·rcases ar.mp z with e|z
    ·have:k=.free:=(congrArg Prod.snd e).symm;rw[this]at hk;exact absurd hk (by decide)
    ·exact .inl z
   ·exact .inr z
structure CompScope(scope sc:Scope):Prop where
 kind:scope.kind=.function
 nocell:∀y∈scope.names,y.2≠.cell
 loc:∀y∈scope.names,y.2=.local->scope.names.lookup y.1=some .local
 free:∀y∈scope.names,y.2=.free->sc.names.lookup y.1=some .cell\/sc.names.lookup y.1=some .free
theorem Vd{scope:Scope}{env:Env}{x:Str}(nc:∀y∈scope.names,y.2≠.cell):∀{k:dR},(relabel scope env).names.lookup x=some k->(k=.cell\/k=.free)->(x,bU)∈scope.names:=by
 have go:∀(names:List (Str×dR)),(∀y∈names,y.2≠fu)->∀{k:dR},(names.map λ(n,k)=>if(k==bU&&env.scope.kind==.function&&env.kindOf n==some .cell)then(n,fu)else(n,k)).lookup x=some k->(k=.cell\/k=.free)->(x,bU)∈names:=by
  intro names;induction names with
 |nil=>intro _ k h _;simp at h
 |cons y r ih=>
   intro hn k h hk;obtain⟨n,k'⟩:=y;have hn':∀y∈r,y.2≠fu:=λy hy=>hn y (aq _ hy);have hk':k'≠fu:=hn (n,k') aA;rw[ax]at h;by_cases hc:(k'==bU&&env.scope.kind==.function&&env.kindOf n==some .cell)=true
   ·simp only[hc,if_true]at h;rw[cZ]at h;cases hx:x==n with
   |true=>
     have e:x=n:=by simpa using hx
     have e2:k'=.free:=by simp only[Bool.and_eq_true]at hc;simpa using hc.1.1
     subst e e2;exact aA
   |false=>rw[hx]at h;exact aq _ (ih hn' h hk)
   ·simp only[hc]at h;simp only[if_false,Bool.false_eq_true]at h;rw[cZ]at h;cases hx:x==n with
   |true=>
     rw[hx]at h;cases h;have e:x=n:=by simpa using hx
     subst e;rcases hk with e|e
     ·exact absurd e hk'
     ·rw[e];exact aA
   |false=>rw[hx]at h;exact aq _ (ih hn' h hk)
 intro k h hk;exact go scope.names nc h hk
theorem GB{scope:Scope}{env:Env}{x:Str}:(relabel scope env).names.lookup x=some .local->scope.names.lookup x=some .local:=by
 have go:∀(names:List (Str×dR)),(names.map λ(n,k)=>if(k==bU&&env.scope.kind==.function&&env.kindOf n==some .cell)then(n,fu)else(n,k)).lookup x=some .local->names.lookup x=some .local:=by
  intro names;induction names with
 |nil=>intro h;simp at h
 |cons y r ih=>
   intro h;obtain⟨n,k'⟩:=y;rw[ax]at h;rw[cZ];by_cases hc:(k'==bU&&env.scope.kind==.function&&env.kindOf n==some .cell)=true
   ·simp only[hc,if_true]at h;rw[cZ]at h;cases hx:x==n with
   |true=>rw[hx]at h;cases h
   |false=>rw[hx]at h;exact ih h
   ·simp only[hc]at h;simp only[if_false,Bool.false_eq_true]at h;rw[cZ]at h;cases hx:x==n with
   |true=>rw[hx]at h;exact h
   |false=>rw[hx]at h;exact ih h
 exact go scope.names
noncomputable def Xu(X:Cx)(scope:Scope)(N:List Str)(C:Addr)(s:ah)(H:Hp)(ex:List Addr)(pn:List (Addr×Obj)):Cx where
 prog:=X.prog
 w:=X.w
 K:=X.K
 mg:=X.mg
 base:=X.base
 A:=X.A
 N:=N
 s₀:=s
 H₀:=H
 env:=compEnvC scope (clOf scope X.env) C X.env
 outer:=X.stack
 stack:=X.stack
 ex:=ex
 calm:=X.calm
 fn:=λ_=>false
 pn:=pn
 xe:=NoX
noncomputable def inner(cp:List (Option Nat))(σ:St):St:=cp.map λo=>o.bind λj=>(σ[j]?).join
structure CompNames(N0:List Str)(scope:Scope)(N:List Str)(cp:List (Option Nat)):Prop where
 len:cp.length=N.length
 at_:∀(i j:Nat)(x:Str),cp[i]?=some (some j)->N[i]?=some x->N0[j]?=some x/\scope.names.lookup x=some .free
noncomputable def namesOk(N0:List Str)(scope:Scope)(N:List Str)(cp:List (Option Nat)):Bool:=(cp.length==N.length)&&(bh cp.length).all λi=>match cp[i]?,N[i]? with
 |some (some j),some x=>N0[j]?==some x&&scope.names.lookup x==some .free
 |_,_=>true
theorem CompNames.mk'{N0:List Str}{scope:Scope}{N:List Str}{cp:List (Option Nat)}(h:namesOk N0 scope N cp=true):CompNames N0 scope N cp:=by unfold namesOk at h;rw[Bool.and_eq_true,cz]at h;refine⟨by simpa using h.1,λi j x h1 h2=>?_⟩;have hi:i<cp.length:=(aj.mp h1).1;have q:=h.2 i (cj.mpr hi);rw[h1,h2]at q;simpa using q
section
variable {X:Cx}{pins:List (Addr×Obj)}{σ:St}{H:Hp}{s:ah}
theorem NV{scope:Scope}(I:Inv X pins σ H s)(S:CompScope scope X.env.scope):∀y∈scope.names,y.2=.free->∃c,X.env.cells.lookup y.1=some c:=λy hy e=>I.ok.has y.1 (S.free y hy e)
theorem Wc{scope:Scope}{N:List Str}{cp:List (Option Nat)}{fp:List Addr}{od:Obj}{h4:Heap}{tk:Nat}(S:CompScope scope X.env.scope)(CN:CompNames X.N scope N cp)(I:Inv X pins σ H s)(hfp:∀b∈fp,FpOk X pins H b)(hfo:∀b∈fp,∃o,s.heap.get? b=some o)(hod:∀v,od.data≠.cell v)(hns:h4.Ns (s.heap.push od).objs.size (λx=>([]:List (Str×Value)).reverse.lookup x))(hk:∀b o,(s.heap.push od).get? b=some o->h4.get? b=some o)(hfr:od.isFreed=false):Inv (Xu X scope N (s.heap.push od).objs.size {s with heap:=s.heap.push od} H (s.heap.objs.size::fp) (X.pn++pins)) [(s.heap.objs.size,od)] (inner cp σ) H {s with heap:=h4,toks:=tk}:=by
 have cl:=NV I S;have look:∀x c,(clOf scope X.env).lookup x=some c->X.env.cells.lookup x=some c:=λx=>(JH scope.names [] cl (λc q=>by simp at q)).1;have hasc:∀x,(x,bU)∈scope.names->∃c,(clOf scope X.env).lookup x=some c:=λx hx=>
  b7.mp ((JH scope.names [] cl (λc q=>by simp at q)).2 (.inl hx));have kp:∀b o,s.heap.get? b=some o->(s.heap.push od).get? b=some o:=λb o e=>Heap.get?_push_of_some _ e;have kp4:∀b o,s.heap.get? b=some o->h4.get? b=some o:=λb o e=>hk b o (kp b o e);have hz:(s.heap.push od).objs.size=s.heap.objs.size+1:=Heap.size_push ..;have I3:Inv X pins σ H {s with heap:=s.heap.push od}:=I.kept (t':=s.toks) kp;have hD:H s.heap.objs.size=none:=I.hok.fresh (Nat.le_refl _);have hC:H (s.heap.push od).objs.size=none:=I3.hok.fresh (Nat.le_refl _);have hDo:h4.get? s.heap.objs.size=some od:=hk _ _ (Heap.get?_push_size _ hfr);have stk:∀b∈frs X.stack,b<s.heap.objs.size:=λb hb=>by
  rcases ar.mp (I.stkSub b hb)with e|e
  ·rw[e];exact I.lt
  ·exact Nat.lt_of_not_le λz=>I.nofs z e
 have fpn:∀b∈fp,b∉frs X.stack:=λb hb hs=>by
  obtain⟨_,g1,g2,_⟩:=hfp b hb;rcases ar.mp (I.stkSub b hs)with e|e
  ·exact g1 e
  ·exact g2 e
 have fplt:∀b∈fp,b<s.heap.objs.size:=λb hb=>let ⟨o,e⟩:=hfo b hb;Heap.lt_size e
 refine⟨⟨I.ok.mod,S.kind,I.ok.glob,I.ok.blt,Nat.le_refl _,λx y c h1 h2=>I.ok.inj x y c (look x c h1) (look y c h2),λx hx=>?_,λx c hf _=>(by cases hf),I.ok.hd,I.ok.frames,.inl rfl,λb hb=>?_,I3.bs,Nat.le_trans I.ok.bsz I3.sz,λb o e hb=>?_,λb hb=>?_,I3.stack,I3.stkFree⟩,rfl,I.bare,Un.kept hk,⟨_,hns,λi x v h1 h2 h3=>?_⟩,λx c hx=>?_,hC,λx c hx=>I.freeC x c (look x c hx),λp hp=>?_,I.hok.kept kp4,?_⟩
 ·have hx':(relabel scope X.env).names.lookup x=some .cell\/(relabel scope X.env).names.lookup x=some .free:=hx;rcases hx' with e|e
  ·exact hasc x (Vd S.nocell e (.inl rfl))
  ·exact hasc x (Vd S.nocell e (.inr rfl))
 ·show b≠(s.heap.push od).objs.size/\∀x c,(clOf scope X.env).lookup x=some c->c≠b;rcases ar.mp hb with e|hb
  ·subst e;refine⟨by rw[hz];exact Nat.ne_of_lt (Nat.lt_succ_self _),λx c hx z=>?_⟩;obtain⟨v,q⟩:=I.cell x c (look x c hx);exact absurd q.lt (by rw[z];exact Nat.lt_irrefl _)
  ·exact⟨by rw[hz];exact Nat.ne_of_lt (Nat.lt_succ_of_lt (fplt b hb)),λx c hx=>(hfp b hb).2.2.2.2.1 x c (look x c hx)⟩
 ·rcases ar.mp hb with z|hb
  ·subst z;have h1:=Heap.lt_size (I.bk _ _ e);exact Nat.lt_irrefl _ h1
  ·obtain⟨_,_,_,g3,_⟩:=hfp b hb;rcases g3 with g3|g3
   ·exact I.ok.noex b o e g3
   ·have h1:=Heap.lt_size e;have h2:=I.ok.bsz;exact absurd (Nat.lt_of_lt_of_le h1 (Nat.le_trans h2 g3)) (Nat.lt_irrefl _)
 ·show b∉frs X.stack;rcases ar.mp hb with z|hb
  ·subst z;exact λz=>Nat.lt_irrefl _ (stk _ z)
  ·exact fpn b hb
 ·have h2':(inner cp σ)[i]?=some (some v):=h2;unfold inner at h2';rw[aW]at h2';cases hc:cp[i]? with
 |none=>rw[hc]at h2';cases h2'
 |some oj=>
   rw[hc]at h2';cases oj with
  |none=>have:(none:Option V)=some v:=aB h2';cases this
  |some j=>
    have h2'':(σ[j]?).join=some v:=aB h2';have hσ:σ[j]?=some (some v):=by
     cases q:σ[j]? with
    |none=>rw[q]at h2'';cases h2''
    |some o=>rw[q]at h2'';exact congrArg some h2''
    obtain⟨hN,hlook⟩:=CN.at_ i j x hc h1;have hfree:(x,bU)∈scope.names:=cU hlook;have hk2:=S.free _ hfree rfl;obtain⟨m,hn,hl⟩:=I.loc;have hvis:Vis X.env.scope x:=hk2.elim (λz=>.inr (.inl z)) λz=>.inr (.inr z);obtain⟨u,ru,lk⟩:=hl j x v hN hσ hvis;refine⟨u,ru,?_⟩;rcases lk with⟨z,_⟩|⟨_,c,hcl,cc⟩
    ·rcases hk2 with q|q<;>(have z':=z.symm.trans q;cases z')
    ·obtain⟨c2,hc2⟩:=hasc x hfree;have hcc:c2=c:=by have:=(look x c2 hc2).symm.trans hcl;exact aB this
     subst hcc;obtain⟨o,ho,hd⟩:=cc;refine .inr ⟨?_,c2,hc2,⟨o,kp4 _ _ ho,hd⟩⟩;rcases h3 with q|q|q
     ·have q':=(GB q).symm.trans hlook;cases q'
     ·exact .inl q
     ·exact .inr q
 ·obtain⟨v,o,ho,hd⟩:=I.cell x c (look x c hx);exact⟨v,o,kp4 _ _ ho,hd⟩
 ·have hp':p∈(X.pn++pins)++[(s.heap.objs.size,od)]:=hp;rcases aK.mp hp' with hp1|hp1
  ·obtain⟨e,n,ne,nf,d⟩:=I.pin p hp1;have hlt:=Heap.lt_size e;refine⟨kp4 _ _ e,n,by show p.1≠(s.heap.push od).objs.size;rw[hz];exact Nat.ne_of_lt (Nat.lt_succ_of_lt hlt),λhb=>?_,d⟩;rcases ar.mp (I.stkSub _ hb)with z|z
   ·exact ne z
   ·exact nf z
  ·have e:p=(s.heap.objs.size,od):=by simpa using hp1
   subst e;exact⟨hDo,hD,by show s.heap.objs.size≠(s.heap.push od).objs.size;rw[hz];exact Nat.ne_of_lt (Nat.lt_succ_self _),λz=>Nat.lt_irrefl _ (stk _ z),hod⟩
 ·show(inner cp σ).length=N.length;unfold inner;rw[bQ];exact CN.len
end
noncomputable def ZV(its:List Value)(k:Nat):Obj:={cls:=.type "list",data:=.seq its.toArray k}
theorem Ui{its:List Value}{k:Nat}:∀v,(ZV its k).data≠.cell v:=λv z=>by have z':Data.seq its.toArray k=Data.cell v:=z;cases z'
section
variable {X:Cx}
def PTs(X:Cx)(ifs:List Expr)(t:TT):Prop:=
 ∀(pins:List (Addr×Obj))(s:ah)(σ:St)(H:Hp)(Q:Bool->Hp->Prop),Inv X pins σ H s->t σ H Q ->
  wpAny (model X.prog X.w) X.A (forIn ifs true λc r=>if r=true then do let ok <-isTrue c X.env (eval c X.env);pure (dN ok)else pure (dN r)) (TP X pins σ Q) X.xe s
def tYes:TT:=λ_ H Q=>Q true H
theorem Uv:PTs X [] tYes:=λ_ _ _ H _ I h=>wpAny_tests_nil ⟨H,I,h⟩
theorem X5{c:Expr}{t:TT}(h:PT X c t):PTs X [c] t:=λpins s σ H Q I hw=>wpAny_tests_one (h pins s σ H Q I hw)
def Sw(cp:List (Option Nat))(wi:TI)(g:TG)(tc:TT)(te:TE):TE:=λσ H Q=>wi σ H λJ H1=>∃W:Nat->Nat->List V->St->Hp->Prop,(∃m,W 0 m [] (inner cp σ) H1)/\∀i m ys τ H,W i m ys τ H ->(J.stop i H/\∀l,H l=none->Q (.ref l) (upd H l (.lst ys))) \/(J.go i H/\ys.length<sizeLine/\∃N:List V->St->Hp->Prop,(∀ys' τ' H',N ys' τ' H'->∃m',m'<m/\W (i+1) m' ys' τ' H') /\∀x H',J.yld i H x H'->g x τ H' λτ2 H2=>tc τ2 H2 λb H3=>if b=true then te τ2 H3 λy H4=>N (ys++[y]) τ2 H4 else N ys τ2 H3)
theorem XD{J:It}{g:TG}{tc:TT}{te:TE}{τ0:St}{H0:Hp}{R:List V->Hp->Prop}(n:Nat)(hn:n<=sizeLine)(Pv:Nat->List V->St->Hp->Prop)(h0:Pv 0 [] τ0 H0)(hl:∀i ys τ H,Pv i ys τ H->ys.length<=i)(hgo:∀i ys τ H,i<n->Pv i ys τ H->J.go i H)(hstop:∀ys τ H,Pv n ys τ H->J.stop n H)(hs:∀i ys τ H x H',i<n->Pv i ys τ H->J.yld i H x H'->g x τ H' λτ2 H2=>tc τ2 H2 λb H3=>if b=true then te τ2 H3 λy H4=>Pv (i+1) (ys++[y]) τ2 H4 else Pv (i+1) ys τ2 H3)(hd:∀ys τ H,Pv n ys τ H->R ys H):∃W:Nat->Nat->List V->St->Hp->Prop,(∃m,W 0 m [] τ0 H0)/\∀i m ys τ H,W i m ys τ H ->(J.stop i H/\R ys H) \/(J.go i H/\ys.length<sizeLine/\∃N:List V->St->Hp->Prop,(∀ys' τ' H',N ys' τ' H'->∃m',m'<m/\W (i+1) m' ys' τ' H') /\∀x H',J.yld i H x H'->g x τ H' λτ2 H2=>tc τ2 H2 λb H3=>if b=true then te τ2 H3 λy H4=>N (ys++[y]) τ2 H4 else N ys τ2 H3):=by
 refine⟨λi m ys τ H=>m=n-i/\i<=n/\Pv i ys τ H,⟨n,rfl,Nat.zero_le _,h0⟩,?_⟩;rintro i m ys τ H ⟨rfl,hi,p⟩;by_cases hlt:i<n
 ·refine .inr ⟨hgo i ys τ H hlt p,?_,Pv (i+1),λys' τ' H' p'=>⟨n-(i+1),by omega,rfl,hlt,p'⟩,λx H' y=>hs i ys τ H x H' hlt p y⟩;have:=hl i ys τ H p;omega
 ·have e:i=n:=by omega
  subst e;exact .inl ⟨hstop ys τ H p,hd ys τ H p⟩
theorem VI{J:It}{g:TG}{te:TE}{τ0:St}{H0:Hp}{R:List V->Hp->Prop}(n:Nat)(hn:n<=sizeLine)(Pv:Nat->List V->St->Hp->Prop)(h0:Pv 0 [] τ0 H0)(hl:∀i ys τ H,Pv i ys τ H->ys.length<=i)(hgo:∀i ys τ H,i<n->Pv i ys τ H->J.go i H)(hstop:∀ys τ H,Pv n ys τ H->J.stop n H)(hs:∀i ys τ H x H',i<n->Pv i ys τ H->J.yld i H x H'->g x τ H' λτ2 H2=>te τ2 H2 λy H4=>Pv (i+1) (ys++[y]) τ2 H4)(hd:∀ys τ H,Pv n ys τ H->R ys H):∃W:Nat->Nat->List V->St->Hp->Prop,(∃m,W 0 m [] τ0 H0)/\∀i m ys τ H,W i m ys τ H ->(J.stop i H/\R ys H) \/(J.go i H/\ys.length<sizeLine/\∃N:List V->St->Hp->Prop,(∀ys' τ' H',N ys' τ' H'->∃m',m'<m/\W (i+1) m' ys' τ' H') /\∀x H',J.yld i H x H'->g x τ H' λτ2 H2=>tYes τ2 H2 λb H3=>if b=true then te τ2 H3 λy H4=>N (ys++[y]) τ2 H4 else N ys τ2 H3):=XD (J:=J) (g:=g) (tc:=tYes) (te:=te) n hn Pv h0 hl hgo hstop hs hd
theorem G4{use:Option (Value->Sem Unit)}{R:Value->ah->Prop}{elt iter tg:Expr}{ifs:List Expr}{scope:Scope}{pos pos2:Pos}{N:List Str}{cp:List (Option Nat)}{wi:TI}{g:TG}{tc:TT}{te:TE}{Q:VK}{pins:List (Addr×Obj)}{s:ah}{σ:St}{H:Hp}(hc:X.calm=true)(hS:CompScope scope X.env.scope)(hN:CompNames X.N scope N cp)(hi:PI X tg iter wi)(hg:∀C s H ex pn,PG (Xu X scope N C s H ex pn) tg g)(ht:∀C s H ex pn,PTs (Xu X scope N C s H ex pn) ifs tc)(he:∀C s H ex pn,PE (Xu X scope N C s H ex pn) elt te)(hs:∀x,fT iter X.env x=pure x)(I:Inv X pins σ H s)(h:Sw cp wi g tc te σ H Q)(out:∀(D C:Addr)(H5:Hp)(s4:ah)(m:Str->Option Value),Inv X pins σ H5 s4->s4.heap.Ns C m->C≠X.env.locals->(∀y c,X.env.cells.lookup y=some c->c≠C)->H5 C=none->X.s₀.heap.objs.size<=C->(∀p∈X.pn++pins,p.1≠C)->Q (.ref D) H5->compPost (model X.prog X.w) X.A X.xe use R (.ref D) C (.ok .next) s4):wpAny (model X.prog X.w) X.A (comprehension (.ListComp elt [⟨tg,iter,ifs,0⟩] scope pos) scope X.env pos2 (newList []) false (eval iter X.env) use) R X.xe s:=by
 refine wpAny_comprehension_free (use:=use) (cl:=clOf scope X.env) rfl hs (PY (NV I hS)) hS.kind hS.loc (thn (hi pins s σ H _ I h) λv s1 h1=>thn h1 λitv s2 h2=>?_);obtain⟨it,fp,tn,J,H2,rfl,I2,T,st2,f2,W,⟨m0,w0⟩,turn⟩:=h2;refine aO (wpAny_newFunctionEnv hS.nocell (by intro y hy;simp at hy) (λh4 hns hsb=>?_) hS.kind);dsimp only at hns hsb ⊢;have hz:(s2.heap.push (ZV [] 0)).objs.size=s2.heap.objs.size+1:=Heap.size_push ..;have hk4:∀b o,(s2.heap.push (ZV [] 0)).get? b=some o->h4.get? b=some o:=λb o e=>hsb.extBut b o (Nat.ne_of_lt (Heap.lt_size e)) (Heap.get?_push_of_some _ e);have hfo:∀b∈fp,∃o,s2.heap.get? b=some o:=λb hb=>let ⟨o,e,_⟩:=T.obj _ _ st2 b hb;⟨o,e⟩
 have fplt:∀b∈fp,b<s2.heap.objs.size:=λb hb=>let ⟨o,e⟩:=hfo b hb;Heap.lt_size e
 generalize hXc:Xu X scope N (s2.heap.push (ZV [] 0)).objs.size {s2 with heap:=s2.heap.push (ZV [] 0)} H2 (s2.heap.objs.size::fp) (X.pn++pins)=Xc;have J0:∀tk,Inv Xc [(s2.heap.objs.size,ZV [] 0)] (inner cp σ) H2 {s2 with heap:=h4,toks:=tk}:=λtk=>by rw[<-hXc];exact Wc hS hN I2 f2 hfo Ui hns hk4 rfl
 have hg':PG Xc tg g:=hXc▸hg _ _ _ _ _;have ht':PTs Xc ifs tc:=hXc▸ht _ _ _ _ _;have he':PE Xc elt te:=hXc▸he _ _ _ _ _;have eP:Xc.prog=X.prog:=by rw[<-hXc];rfl
 have eW:Xc.w=X.w:=by rw[<-hXc];rfl
 have eK:Xc.K=X.K:=by rw[<-hXc];rfl
 have eA:Xc.A=X.A:=by rw[<-hXc];rfl
 have eC:Xc.calm=true:=by rw[<-hXc];exact hc
 have eX:Xc.xe=NoX:=by rw[<-hXc];rfl
 have eE:Xc.env=compEnvC scope (clOf scope X.env) (s2.heap.push (ZV [] 0)).objs.size X.env:=by rw[<-hXc];rfl
 have eL:Xc.env.locals=(s2.heap.push (ZV [] 0)).objs.size:=by rw[eE];rfl
 have eFs:Xc.fs=frs X.stack:=by rw[<-hXc];rfl
 have eEx:Xc.ex=s2.heap.objs.size::fp:=by rw[<-hXc];rfl
 have eH0:Xc.H₀=H2:=by rw[<-hXc];rfl
 have eS0:Xc.s₀={s2 with heap:=s2.heap.push (ZV [] 0)}:=by rw[<-hXc];rfl
 have ePn:Xc.pn=X.pn++pins:=by rw[<-hXc];rfl
 have stk:∀b∈frs X.stack,b<s2.heap.objs.size:=λb hb=>by
  rcases ar.mp (I2.stkSub b hb)with e|e
  ·rw[e];exact I2.lt
  ·exact Nat.lt_of_not_le λz=>I2.nofs z e
 have hDne:s2.heap.objs.size≠Xc.env.locals:=by rw[eL,hz];exact Nat.ne_of_lt (Nat.lt_succ_self _)
 have hDfs:s2.heap.objs.size∉Xc.fs:=by rw[eFs];exact λz=>Nat.lt_irrefl _ (stk _ z)
 have hDp:∀p∈Xc.pn,p.1≠s2.heap.objs.size:=λp hp=>by rw[ePn]at hp;exact Nat.ne_of_lt (Heap.lt_size (I2.pin p hp).1)
 have hDc:∀{τ:St}{H':Hp}{s':ah}{ps:List (Addr×Obj)},Inv Xc ps τ H' s'->∀x c,Xc.env.cells.lookup x=some c->c≠s2.heap.objs.size:=λI' x c e=>(I'.ok.exf _ (by rw[eEx];exact aA)).2 x c e;have stat:∀{τ:St}{H':Hp}{s':ah}{ps:List (Addr×Obj)}{o:Obj},Inv Xc ps τ H' s'->(∀b∈fp,H' b=none)->∀b∈fp,FpOk Xc [(s2.heap.objs.size,o)] H' b:=λI' hn b hb=>by
  have q:=I'.ok.exf b (by rw[eEx];exact aq _ hb);refine⟨hn b hb,q.1,I'.ok.exfs b (by rw[eEx];exact aq _ hb),.inl (by rw[eEx];exact aq _ hb),q.2,λp hp=>?_⟩;rcases aK.mp hp with hp|hp
  ·rw[ePn]at hp;exact(f2 b hb).2.2.2.2.2 p hp
  ·have e:p.1=s2.heap.objs.size:=by rw[a7]at hp;rw[hp]
   rw[e];exact Nat.ne_of_gt (fplt b hb)
 have run:∀s5:ah,(∃tk,s5={s2 with heap:=h4,toks:=tk})->g8 (model X.prog X.w) X.A (.compLoop (.ListComp elt [⟨tg,iter,ifs,0⟩] scope pos) 0 (.ref it) (.ref s2.heap.objs.size) Xc.env) (compPost (model X.prog X.w) X.A X.xe use R (.ref s2.heap.objs.size) (s2.heap.push (ZV [] 0)).objs.size) s5:=by
  rintro s5 ⟨tk,rfl⟩;refine NT (λn s'=>∃i ys τ H' its k,Inv Xc [(s2.heap.objs.size,ZV its k)] τ H' s'/\Vals ys its/\tn i s'.heap/\(∀b∈fp,H' b=none)/\W i n ys τ H'/\ys.length<=sizeLine) ?_ m0 ⟨0,[],inner cp σ,H2,[],0,J0 tk,.nil,T.keep _ _ _ st2 λb hb o e=>hk4 b o (Heap.get?_push_of_some _ e),λb hb=>(f2 b hb).1,w0,Nat.zero_le _⟩;rintro n s3 ⟨i,ys,τ,H3,its,k,I3,rv,st3,fr3,w3,hl3⟩;rcases turn i n ys τ H3 w3 with⟨stop,qn⟩|⟨go,hl,Nw,hNw,step⟩
  ·have dn:=T.done Xc eP eW eK eC i _ s3 τ H3 NoX I3 (stat I3 fr3) st3 stop;rw[eA]at dn;refine thn dn λr s4⟨hr,I4⟩=>?_;subst hr;obtain⟨m,hn,_⟩:=id I4.loc;rw[eL]at hn;have hs':Heap.SameBut (s2.heap.push (ZV [] 0)).objs.size s4.heap s4.heap:=Heap.SameBut.refl ..;obtain⟨eD,nD,_⟩:=I4.pin (s2.heap.objs.size,ZV its k) (ba _ aA);have u4:=I4.base;rw[eFs,eEx,eH0,eS0]at u4;have hD2:H2 s2.heap.objs.size=none:=I2.hok.fresh (Nat.le_refl _);have hfree:=I4.free;rw[eL]at hfree;have kp:∀b o,s2.heap.get? b=some o->(s2.heap.push (ZV [] 0)).get? b=some o:=λb o e=>Heap.get?_push_of_some _ e;have nD':∀b o,s2.heap.get? b=some o->b≠s2.heap.objs.size:=λb o e=>Nat.ne_of_lt (Heap.lt_size e);have nC':∀b o,s2.heap.get? b=some o->b≠(s2.heap.push (ZV [] 0)).objs.size:=λb o e=>by rw[hz];exact Nat.ne_of_lt (Nat.lt_succ_of_lt (Heap.lt_size e))
   have nex:∀b o,s2.heap.get? b=some o->b∉fp->b∉s2.heap.objs.size::fp:=λb o e hb z=>(ar.mp z).elim (nD' b o e) hb;have I5:Inv X pins σ (upd H3 s2.heap.objs.size (.lst ys)) s4:=by
    refine I2.call' (s':=s4) (ch:=fp) ?_ ⟨λb o e n hb hx=>?_,λb o e n hb hx=>?_,λb o e n hx=>?_,λb o e hx=>?_,λb xs q=>?_,λb o u q=>?_,λb ps q=>?_⟩ ?_ I4.bare λb hb=>?_
    ·have:=I4.os;rw[eS0]at this;exact this
    ·exact(hs'.2 b (nC' b o e)).trans (u4.keep b o (kp b o e) n hb (nex b o e hx))
    ·obtain⟨sl,q⟩:=u4.slot b o (kp b o e) n hb (nex b o e hx);exact⟨sl,(hs'.2 b (nC' b o e)).trans q⟩
    ·rw[Zc (nD' b o e)];exact u4.free b o (kp b o e) n (nex b o e hx)
    ·obtain⟨o',q⟩:=u4.there b o (kp b o e) (nex b o e hx);exact⟨o',(hs'.2 b (nC' b o e)).trans q⟩
    ·rw[Zc (ne_of_none q hD2)];exact u4.tups b xs q
    ·rw[Zc (ne_of_none q hD2)];exact u4.frzs b o u q
    ·rw[Zc (ne_of_none q hD2)];exact u4.tbls b ps q
    ·intro b ob q;have keepC:∀c v,H3 c≠none->s4.heap.get? c=some v->s4.heap.get? c=some v:=λc v hc q=>(hs'.2 c (λz=>hc (by rw[z];exact hfree))).trans q;by_cases hb:b=s2.heap.objs.size
     ·subst hb;rw[Zd]at q;cases q;exact⟨hl3,its,k,rv,(hs'.2 _ (by rw[hz];exact Nat.ne_of_lt (Nat.lt_succ_self _))).trans eD⟩
     ·rw[Zc hb]at q;have ok4:ZY X.prog X.w H3 s4.heap b ob:=by have:=I4.hok b ob q;rw[eP,eW]at this;exact this
      refine ok4.stay (λc v hc' q'=>keepC c v ?_ q') (λc q'=>by rw[Zc (ne_of_none q' nD)];exact q') λc xs q'=>by rw[Zc (ne_of_none q' nD)];exact q'
      rcases hc' with rfl|hc'
      ·rw[q];simp
      ·rw[hc'];simp
    ·obtain⟨g0,g1,g2,g3,g4,g5⟩:=f2 b hb;exact⟨g3,g1,g4,g5⟩
   have hCn:(s2.heap.push (ZV [] 0)).objs.size≠X.env.locals:=by rw[hz];exact Nat.ne_of_gt (Nat.lt_succ_of_lt I2.lt)
   have hCc:∀y c,X.env.cells.lookup y=some c->c≠(s2.heap.push (ZV [] 0)).objs.size:=λy c e=>by obtain⟨v,o,ho,_⟩:=I2.cell y c e;exact nC' c o ho
   have hCH:upd H3 s2.heap.objs.size (.lst ys) (s2.heap.push (ZV [] 0)).objs.size=none:=by rw[Zc (by rw[hz];exact Nat.succ_ne_self _)];exact hfree
   exact out _ _ _ _ m I5 hn hCn hCc hCH (by rw[hz];exact Nat.le_succ_of_le I2.sz) (λp hp=>nC' p.1 p.2 (I2.pin p hp).1) (qn _ nD)
  ·have itm:=T.item Xc eP eW eK eC i _ s3 τ H3 NoX I3 (stat I3 fr3) st3 go;rw[eA]at itm;refine thn itm λr s4⟨u,hr,h4'⟩=>?_;subst hr;refine thn h4' λ_ s5 hZ=>?_;obtain⟨x,H5,I5,r5,y5,st5,fr5⟩:=hZ;have I5':=I5.pinned (stat I5 fr5) (T.obj _ _ st5);have a1:=hg' _ s5 τ H5 x u _ I5' r5 (step x H5 y5);rw[eP,eW,eA,eX]at a1;refine thn a1 λ_ s6 hZ=>?_;obtain⟨τ6,H6,I6,q6⟩:=hZ;have a2:=ht' _ s6 τ6 H6 _ I6 q6;rw[eP,eW,eA,eX]at a2;refine thn a2 λok s7⟨H7,I7,q7⟩=>?_;have tnAt:∀{τ':St}{H':Hp}{s':ah},Inv Xc ([(s2.heap.objs.size,ZV its k)]++UZ fp s5.heap) τ' H' s'->tn (i+1) s'.heap/\∀b∈fp,H' b=none:=λI'=>
    ⟨T.keep _ _ _ st5 λb hb o e=>(I'.pin (b,o) (ba _ (ba _ (mem_pinsAt hb e)))).1,λb hb=>by
     obtain⟨o,e,d⟩:=T.obj _ _ st5 b hb;exact(I'.pin (b,o) (ba _ (ba _ (mem_pinsAt hb e)))).2.1⟩;cases ok with
  |false=>rw[if_neg Bool.false_ne_true]at q7;rw[if_neg Bool.false_ne_true];obtain⟨m',hm,w7⟩:=hNw _ _ _ q7;exact⟨m',hm,i+1,ys,τ6,H7,its,k,I7.unpinned,rv,(tnAt I7).1,(tnAt I7).2,w7,hl3⟩
  |true=>
    rw[if_pos rfl]at q7;rw[if_pos rfl];have a3:=he' _ s7 τ6 H7 _ I7 q7;rw[eP,eW,eA,eX]at a3;refine thn a3 λv s8 hZ=>?_;obtain⟨y,H8,I8,r8,q8⟩:=hZ;obtain⟨m',hm,w8⟩:=hNw _ _ _ q8;obtain⟨eD,nD,_⟩:=I8.pin (s2.heap.objs.size,ZV its k) (ba _ (bI _ aA));have hlen:=rv.length;refine call_meets F.slot_list_append ⟨_,eD,rfl⟩ F.entry_list_append (F.args_list_append_2 _ _) (PySem.list_append s2.heap.objs.size its.toArray k v (by rw[ao];omega)) ⟨eD,?_⟩;have q0:=PySem.IsL.update eD (·.push v);obtain⟨k',q⟩:∃k',(s8.heap.update s2.heap.objs.size (Obj.mapSeq (·.push v))).get? s2.heap.objs.size=some (ZV (its++[v]) k'):=⟨_,by
     have e:(its++[v]).toArray=its.toArray.push v:=by simp
     unfold ZV;rw[e];exact q0⟩;have I9:Inv Xc [] τ6 H8 s8:=I8.pins_of λp hp=>absurd (show p∈([]:List (Addr×Obj))from hp) (by simp);refine⟨m',hm,i+1,ys++[y],τ6,H8,its++[v],k',?_,rv.append (.cons r8 .nil),T.keep _ _ _ (tnAt I8).1 λb hb o e=>?_,(tnAt I8).2,w8,?_⟩
    ·refine Inv.pins_of (pins:=[]) (I9.turned (t':=s8.toks) (it:=s2.heap.objs.size) (λb o hb e=>(Heap.get?_update_other _ _ (bR hb)).trans e) nD hDne (.inl (by rw[eEx];exact aA)) (hDc I9) (λp hp=>hDp p (by simpa using hp))) λp hp=>?_;have e:p=(s2.heap.objs.size,ZV (its++[v]) k'):=by simpa using hp
     subst e;exact⟨q,nD,hDne,hDfs,Ui⟩
    ·exact(Heap.get?_update_other _ _ (Nat.ne_of_gt (fplt b hb))).trans e
    ·rw[av,f6];omega
 have st4:tn 0 h4:=T.keep _ _ _ st2 λb hb o e=>hk4 b o (Heap.get?_push_of_some _ e);have fin:=codeAny_compStart_list (run _ ⟨_,rfl⟩) (T.self X.A 0 {s2 with heap:=h4,toks:=s2.toks+([]:List (Str×Value)).length} _ (notedBy (model X.prog X.w) X.A Xc.env λex s'=>(compPost (model X.prog X.w) X.A X.xe use R (.ref s2.heap.objs.size) (s2.heap.push (ZV [] 0)).objs.size) (.error ex) s') st4 (run _ ⟨_,rfl⟩));rw[eE]at fin;exact fin
theorem JB{elt iter tg:Expr}{ifs:List Expr}{scope:Scope}{pos:Pos}{N:List Str}{cp:List (Option Nat)}{wi:TI}{g:TG}{tc:TT}{te:TE}(hc:X.calm=true){sc:Scope}{N0:List Str}(hS0:CompScope scope sc)(hN0:CompNames N0 scope N cp)(hi:PI X tg iter wi)(hg:∀C s H ex pn,PG (Xu X scope N C s H ex pn) tg g)(ht:∀C s H ex pn,PTs (Xu X scope N C s H ex pn) ifs tc)(he:∀C s H ex pn,PE (Xu X scope N C s H ex pn) elt te)(hsc:X.env.scope=sc:=by rfl)(hxn:X.N=N0:=by rfl)(hs:∀x,fT iter X.env x=pure x:=by intro _;rfl):PE X (.ListComp elt [⟨tg,iter,ifs,0⟩] scope pos) (Sw cp wi g tc te):=by subst hsc hxn;intro pins s σ H Q I h;rw[eval_ListComp];exact G4 (use:=none) hc hS0 hN0 hi hg ht he hs I h λD C H5 s4 m I5 hn h1 h2 h3 h4 h5 q=>⟨m,hn,λh' hs'=>⟨.ref D,_,I5.turned (t':=s4.toks) (it:=C) (λb o hb e=>(hs'.2 b hb).trans e) h3 h1 (.inr h4) h2 h5,rfl,q⟩⟩
theorem WM{bs:List Bool}:∀{us:List Value},Vals (bs.map V.bl) us->∀(i:Nat)(v:Value),us[i]?=some v->∃b,bs[i]?=some b/\v=.bool b:=by
 induction bs with
|nil=>intro us r i v e;rw[fS]at r;cases r;simp at e
|cons b bs ih=>
  intro us r i v e;rw[ax]at r;cases r with
 |cons r1 r2=>
   cases i with
  |zero=>simp at e;subst e;exact⟨b,rfl,r1⟩
  |succ i=>obtain⟨b',h1,h2⟩:=ih r2 i v (by simpa using e);exact⟨b',by simpa using h1,h2⟩
theorem all_range(bs:List Bool):(bh bs.length).all (λi=>bs.getD i true)=bs.all id:=by
 rw[Bool.eq_iff_iff,cz,cz];constructor
 ·intro h b hb;obtain⟨i,hi⟩:=aZ.mp hb;have hl:i<bs.length:=(aj.mp hi).1;have:=h i (cj.mpr hl);rw[aQ,hi]at this;exact this
 ·intro h i hi;have hl:=cj.mp hi;rw[aQ,List.getElem?_eq_getElem hl];exact h _ (aL hl)
theorem WE(hc:X.calm=true):Xx X (.builtin "all") (λxs H Q=>∃(p:Addr)(bs:List Bool),xs=[.ref p]/\SqL X.K H p (bs.map V.bl)/\Q (.bl (bs.all id)) H):=by
 intro pins s σ H xs us Q I r h;obtain⟨p,bs,rfl,hq,q⟩:=h;obtain⟨u,rfl,ru⟩:=vals1 r;cases ru;obtain⟨its,rv,pl,hz⟩:=I.list hq;have hl:=rv.length;rw[bQ]at hl;refine call_all_walk (wpAny_pyIter_list pl.isList ?_);have hne:p≠s.heap.objs.size:=by obtain⟨o,n,e,_⟩:=pl;exact Nat.ne_of_lt (Heap.lt_size e)
 refine⟨s.heap.objs.size,_,_,_,_,_,λi=>bs.getD i true,rfl,Walks.list (A:=X.A.in1) (I.ok.hd hc) s.heap.objs.size p hne its.toArray,⟨⟨_,Heap.get?_push_size _ rfl,rfl,rfl⟩,?_⟩,λi v s' Q' E' hp hQ=>?_,λh' tk kk=>?_⟩
 ·obtain⟨o,e,c,n,d⟩:=pl.isList;exact⟨o,Heap.get?_push_of_some _ e,c,n,d⟩
 ·obtain⟨b,hb,rfl⟩:=WM rv i v (by simpa using hp);have:bs.getD i true=b:=by rw[aQ,hb];rfl
  exact bC (this▸hQ)
 ·have e:(bh its.toArray.size).all (λi=>bs.getD i true)=bs.all id:=by rw[ao,<-hl];exact all_range bs
  rw[e];refine⟨.bl (bs.all id),H,I.kept (t':=tk) λb o q=>?_,rfl,q⟩;exact kk b o (by simp;exact Nat.ne_of_lt (Heap.lt_size q)) (Heap.get?_push_of_some _ q)
theorem WS{ys:List Str}:∀{us:List Value},Vals (ys.map V.str) us->StrsAre us ys:=by
 induction ys with
|nil=>intro us r;rw[fS]at r;cases r;exact .nil
|cons y ys ih=>
  intro us r;rw[ax]at r;cases r with
 |cons r1 r2=>obtain⟨t,e⟩:=r1;subst e;exact .cons y t (ih r2)
theorem Km:MtR X "str.join" (λx vs H Q=>∃(z:Str)(p:Addr)(ys:List Str),x=.str z/\vs=[.ref p]/\SqL X.K H p (ys.map V.str)/\(ys.map (·.length)).sum+ys.length*z.length<=16777216/\Q (.str (Txt.join z ys)) H):=by intro pins s σ H x xs v us Q I rx rs h;obtain⟨z,p,ys,rfl,rfl,hq,hz,q⟩:=h;obtain⟨t,rfl⟩:=rx;obtain⟨u,rfl,ru⟩:=vals1 rs;cases ru;obtain⟨its,rv,pl,hl⟩:=I.list hq;exact join_list pl.isList (by simpa using WS rv) hz λt' k=>⟨.str (Txt.join z ys),H,I.tok k,⟨t',rfl⟩,q⟩
theorem Pe:SlR X (λx lo hi H Q=>∃z,x=.str z/\z.length<=sizeLine/\Q (.str (Txt.slice z lo hi)) H):=by
 intro pins s σ H x v vl vu lo hi sl Q I rx hs pl pu h;obtain⟨z,rfl,hz,q⟩:=h;obtain⟨t,rfl⟩:=rx;have fin:∀t' k,EP X pins σ Q (.str (Txt.slice z lo hi) t') {s with toks:=k}:=λt' k=>⟨.str _,H,I.tok k,⟨t',rfl⟩,q⟩;have len:=Nat.le_trans (Txt.slice_le z lo hi) hz;refine⟨"str",_,PyProof.Rows.slot_str_getitem.lookup,typeIs_str _ _ _,?_⟩;obtain⟨o,ho,hc,hd⟩:=hs;cases pl with
|none=>
  cases pu with
 |none=>exact d9 (l:=none) (u:=none) (st:=none) ⟨o,ho,hc,hd⟩ rfl (gB ⟨len,fin⟩)
 |int j uj=>exact d9 (l:=none) (u:=some (j,uj)) (st:=none) ⟨o,ho,hc,hd⟩ rfl (gB ⟨len,fin⟩)
|int i ui=>
  cases pu with
 |none=>exact d9 (l:=some (i,ui)) (u:=none) (st:=none) ⟨o,ho,hc,hd⟩ rfl (gB ⟨len,fin⟩)
 |int j uj=>exact d9 (l:=some (i,ui)) (u:=some (j,uj)) (st:=none) ⟨o,ho,hc,hd⟩ rfl (gB ⟨len,fin⟩)
def EB(i j:Int):Prop:=0<j/\j.natAbs.log2<9000
theorem TH:OpR X (d5 .FloorDiv) (rI EB λi j=>.int (i / j)):=opI λi j _ _ _ _ _ hc q=>by have h1:(0:Int)<j:=hc.1;exact floordiv_int (by omega) (by rw[Int.fdiv_eq_ediv_of_nonneg i (by omega)];exact q) (.inl (PyProof.noPylong_of_log2 hc.2))
theorem WC:Xx X (.builtin "isinstance") (λxs H Q=>∃x c t b,xs=[x,.ty c]/\TyOf X.K H x t/\ay X.K t (.type c)=some b/\Q (.bl b) H):=by intro pins s σ H xs us Q I r h;obtain⟨x,c,t,b,rfl,ty,e,q⟩:=h;obtain⟨u,w',rfl,ru,rw'⟩:=vals2 r;cases rw';exact RH I ru ty e λtk=>⟨.bl b,H,I.tok tk,rfl,q⟩
end
theorem V6:bt "int"=some (.type "int"):=by decide +kernel
theorem MU:bt "bool"=some (.type "bool"):=by decide +kernel
theorem WG:bt "str"=some (.type "str"):=by decide +kernel
def Df(K:ae)(mg:Str->Option Value)(x:Str)(st:Stmt)(ps:List Str):Prop:=∃f fd,Fun K x x st f fd/\mg x=some (.ref f)/\Binds K fd ps []
def Can(P:Program)(w:World)(K:ae)(mg:Str->Option Value)(base:Heap)(k:Nat)(x:Str)(ps:List Str)(sp:Sp):Prop:=∃f fd,FnOk P w K mg base CX0 k f fd ps sp/\mg x=some (.ref f)/\bw K (.ref f)=true/\Binds K fd ps []
section
variable {P:Program}{w:World}{K:ae}{mg:Str->Option Value}{base:Heap}
theorem Df.can{x:Str}{st:Stmt}{N ps:List Str}{k:Nat}{sp:Sp}(D:Df K mg x st ps)(S:FnScope N ps (Zf st))(len:∀vs H Q E,sp vs H Q E->vs.length=ps.length)(hbody:∀(f:Addr)(cdv:Value)(A:br)(outer:List Env)(s:ah)(H:Hp)(vs:List V)(Q:VK)(E:XK),Room k (A.deeper (eM x (Zf st) s.heap.objs.size f cdv))->sp vs H Q E ->∃t,PSs (cxOf CX0 P w K mg base N x (Zf st) f cdv A outer s H E).nox (Z9 st) t/\t {nx:=λ_ H'=>Q .non H',rt:=Q} (start N vs) H):Can P w K mg base (k+1) x ps sp:=by obtain⟨f,fd,F,m,b⟩:=D;exact⟨f,fd,F.ok S len (λcdv A outer s H vs Q E hr h=>hbody f cdv A outer s H vs Q E hr h),m,F.kp,b⟩
end
section
variable {X:Cx}
theorem Ym{k:Nat}{x:Str}{ps:List Str}{sp:Sp}{p pos:Pos}{e:Expr}{es:List Expr}{t:TA}(C:Can X.prog X.w X.K X.mg X.base k x ps sp)(hr:Room k X.A)(hg:Gl X x)(ha:PA X (e::es) t)(hdb:(x==("__debug__":Str))=false:=by decide)(he:az (e::es) X.env=(false,eval e X.env)::az es X.env:=by rfl)(hpl:(b8 pos (az es X.env)).any (·.1)=false:=by rfl):PE X (.Call (.Name x p) (e::es) [] pos) (M7 sp [] E0 t):=by obtain⟨f,fd,F,m,kp,b⟩:=C;exact Kc F hr hg m kp b .nil Z1 ha hdb he hpl
end
inductive Th(H:Hp):V->String->Prop where
|non:Th H .non "NoneType"
|bl (b:Bool):Th H (.bl b) "bool"
|int (i:Int):Th H (.int i) "int"
|str (z:Str) (h:z.length<=1000):Th H (.str z) "str"
|lst {a:Addr}{xs:List V} (e:H a=some (.lst xs)):Th H (.ref a) "list"
|tup {a:Addr}{xs:List V} (e:H a=some (.tup xs)):Th H (.ref a) "tuple"
|dK {a:Addr}{kvs:List (Key×V)} (e:H a=some (.dK kvs)):Th H (.ref a) "dict"
theorem Th.ty{K:ae}{H:Hp}{v:V}{T:String}(h:Th H v T):TyOf K H v (.type T):=by
 cases h with
|non=>exact .non
|bl b=>exact .bl b
|int i=>exact .int i
|str z h=>exact .str z
|lst e=>exact .lst e
|tup e=>exact .tup e
|dK e=>exact .dK e
theorem Th.same{H H':Hp}(s:Same H H'){v:V}{T:String}(h:Th H v T):Th H' v T:=by
 cases h with
|non=>exact .non
|bl b=>exact .bl b
|int i=>exact .int i
|str z h=>exact .str z h
|lst e=>exact .lst (s _ _ e)
|tup e=>exact .tup (s _ _ e)
|dK e=>exact .dK (s _ _ e)
section
variable (K:ae)
theorem L3:ay K (.type "NoneType") (.type "int")=some false:=by kernel_rfl
theorem L4:ay K (.type "NoneType") (.type "bool")=some false:=by kernel_rfl
theorem L1:ay K (.type "NoneType") (.type "str")=some false:=by kernel_rfl
theorem Dn:ay K (.type "bool") (.type "int")=some true:=by kernel_rfl
theorem Dp:ay K (.type "bool") (.type "bool")=some true:=by kernel_rfl
theorem Dm:ay K (.type "bool") (.type "str")=some false:=by kernel_rfl
theorem PH:ay K (.type "int") (.type "int")=some true:=by kernel_rfl
theorem MH:ay K (.type "int") (.type "bool")=some false:=by kernel_rfl
theorem L9:ay K (.type "int") (.type "str")=some false:=by kernel_rfl
theorem L0:ay K (.type "str") (.type "int")=some false:=by kernel_rfl
theorem PF:ay K (.type "str") (.type "bool")=some false:=by kernel_rfl
theorem LZ:ay K (.type "str") (.type "str")=some true:=by kernel_rfl
theorem L7:ay K (.type "list") (.type "int")=some false:=by kernel_rfl
theorem L8:ay K (.type "list") (.type "bool")=some false:=by kernel_rfl
theorem L5:ay K (.type "list") (.type "str")=some false:=by kernel_rfl
theorem LX:ay K (.type "tuple") (.type "int")=some false:=by kernel_rfl
theorem LY:ay K (.type "tuple") (.type "bool")=some false:=by kernel_rfl
theorem LW:ay K (.type "tuple") (.type "str")=some false:=by kernel_rfl
theorem Dj:ay K (.type "dict") (.type "int")=some false:=by kernel_rfl
theorem Dl:ay K (.type "dict") (.type "bool")=some false:=by kernel_rfl
theorem De:ay K (.type "dict") (.type "str")=some false:=by kernel_rfl
end
noncomputable def Dv:V->Bool
|.str _=>true
|_=>false
noncomputable def Wb:V->Bool
|.int _=>true
|_=>false
noncomputable def Lc:V->Bool
|.bl _=>true
|_=>false
theorem Th.kitS{K:ae}{H:Hp}{v:V}{T:String}(h:Th H v T):ay K (.type T) (.type "str")=some (Dv v):=by
 cases h with
|non=>exact L1 K
|bl b=>exact Dm K
|int i=>exact L9 K
|str z h=>exact LZ K
|lst e=>exact L5 K
|tup e=>exact LW K
|dK e=>exact De K
theorem Th.kitB{K:ae}{H:Hp}{v:V}{T:String}(h:Th H v T):ay K (.type T) (.type "bool")=some (Lc v):=by
 cases h with
|non=>exact L4 K
|bl b=>exact Dp K
|int i=>exact MH K
|str z h=>exact PF K
|lst e=>exact L8 K
|tup e=>exact LY K
|dK e=>exact Dl K
theorem Th.kitI{K:ae}{H:Hp}{v:V}{T:String}(h:Th H v T):ay K (.type T) (.type "int")=some (Wb v||Lc v):=by
 cases h with
|non=>exact L3 K
|bl b=>exact Dn K
|int i=>exact PH K
|str z h=>exact L0 K
|lst e=>exact L7 K
|tup e=>exact LX K
|dK e=>exact Dj K
section
variable {X:Cx}
def tIsi(K:ae)(c:String)(te:TE):TE:=tCB (λxs H Q=>∃x c t b,xs=[x,.ty c]/\TyOf K H x t/\ay K t (.type c)=some b/\Q (.bl b) H) (Xy te (Xy (tC (.ty c)) tNil))
theorem YZ{e:Expr}{te:TE}{c:String}{cx:Str}{p p2 pos:Pos}(he:PE X e te)(hg:Gl X "isinstance")(hm:X.mg "isinstance"=none)(hg2:Gl X cx)(hm2:X.mg cx=none)(hb:bt cx=some (.type c))(hn:cx≠"__name__":=by decide)(hd:(cx==("__debug__":Str))=false:=by decide)(hs:az [e,.Name cx p2] X.env=(false,eval e X.env)::az [.Name cx p2] X.env:=by rfl):PE X (.Call (.Name "isinstance" p) [e,.Name cx p2] [] pos) (tIsi X.K c te):=Zy (p:=p) (pos:=pos) (WC (X:=X)) hg hm d8 (Zg he (Zg (Vm (v:=V.ty c) (pos:=p2) hg2 hm2 hb rfl hn hd) Zj) hs) (he:=hs)
end
def RecX(B:Heap)(x:Addr)(c:Value)(dd:Option Addr)(fl:Value)(h:Heap):Prop:=∃o vs,h.get? x=some o/\o.cls=c/\o.dict=dd/\o.data=.fields vs/\1<vs.size /\((vs[1]?=some .none/\fl=.none)\/∃T oT ts,vs[1]?=some (.ref T)/\B.get? T=none/\T≠x/\h.get? T=some oT/\oT.data=.fields ts/\ts[3]?=some fl)
noncomputable def ErrC(x C:Addr)(dd:Option Addr):HO:=.ext λh=>∃o vs,h.get? x=some o/\o.cls=.ref C/\o.dict=dd/\o.data=.fields vs
def Hd(X:Cx)(hs:List ExceptHandler)(th:Addr->Addr->Option Addr->TS):Prop:=∀(pins:List (Addr×Obj))(s:ah)(σ:St)(H:Hp)(D:Ends)(x C:Addr)(dd:Option Addr)(B:Heap),Inv X pins σ H s->H x=some (ErrC x C dd)->RecX B x (.ref C) dd .none s.heap->th x C dd D σ H ->wpAny (model X.prog X.w) X.A (handleBy (.ref x) X.env hs) (SP X pins D) X.xe s
section
variable {K:ae}{σ:St}{H:Hp}{Q:VK}{i:Nat}{n:Int}{p:Addr}{xs:List V}{v:V}
theorem iaL(hp:H p=some (.lst xs))(hj:atI xs n=some v)(k:Q v H)(hv:σ[i]?=some (some (.ref p)):=by rfl):tOp (rIxL K) (tVar i) (tC (.int n)) σ H Q:=⟨_,hv,p,xs,n,v,rfl,rfl,SqL.of hp,hj,k⟩
theorem iaT(hp:H p=some (.tup xs))(hj:atI xs n=some v)(k:Q v H)(hv:σ[i]?=some (some (.ref p)):=by rfl):tOp (rIxT K) (tVar i) (tC (.int n)) σ H Q:=⟨_,hv,p,xs,n,v,rfl,rfl,SqT.of hp,hj,k⟩
theorem ixL(j:Nat)(hp:H p=some (.lst xs))(hj:xs[j]?=some v)(k:Q v H)(hv:σ[i]?=some (some (.ref p)):=by rfl):tOp (rIxL K) (tVar i) (tC (.int j)) σ H Q:=iaL hp (Zl hj) k hv
theorem ixT(j:Nat)(hp:H p=some (.tup xs))(hj:xs[j]?=some v)(k:Q v H)(hv:σ[i]?=some (some (.ref p)):=by rfl):tOp (rIxT K) (tVar i) (tC (.int j)) σ H Q:=iaT hp (Zl hj) k hv
theorem mthV{C t dx:Addr}{m:Str}{sp:Sp}{dvs:List V}{E:XK}{ta:TA}{fs:List (Str×V)}(ht:H t=some (.ins C dx fs))(ho:fs.lookup m=none)(k:ta σ H λvs H2=>sp (.ref t::(vs++dvs)) H2 Q E)(hv:σ[i]?=some (some (.ref t)):=by rfl):M6 C m sp dvs E (tVar i) ta σ H Q:=⟨_,hv,t,dx,fs,rfl,ht,ho,k⟩
end
section
variable {X:Cx}{a b e:Expr}{es:List Expr}{ta tb te:TE}{t:TA}{pos:Pos}
noncomputable def notStar:Expr->Bool
|.Starred ..=>false
|_=>true
theorem Pb{env:Env}(h:notStar e=true):az (e::es) env=(false,eval e env)::az es env:=by cases e<;>first|rfl|cases h
theorem Zh(ha:PE X e te)(hr:PA X es t)(hn:notStar e=true:=by rfl):PA X (e::es) (Xy te t):=Zg ha hr (Pb hn)
theorem pa1(ha:PE X e te)(hn:notStar e=true):PA X [e] (Xy te tNil):=Zh ha Zj hn
theorem pa2(ha:PE X e te)(hb:PE X a ta)(hn:(notStar e&&notStar a)=true):PA X [e,a] (Xy te (Xy ta tNil)):=Zh ha (pa1 hb (Bool.and_eq_true_iff.mp hn).2) (Bool.and_eq_true_iff.mp hn).1
theorem pa3(ha:PE X e te)(hb:PE X a ta)(hc:PE X b tb)(hn:(notStar e&&(notStar a&&notStar b))=true):PA X [e,a,b] (Xy te (Xy ta (Xy tb tNil))):=Zh ha (pa2 hb hc (Bool.and_eq_true_iff.mp hn).2) (Bool.and_eq_true_iff.mp hn).1
theorem nmT(i:Nat){x:Str}(hN:X.N.Nodup)(hi:X.N[i]?=some x:=by rfl)(hx:Loc X.env.scope x:=by exact aN rfl)(hf:X.fn x=true\/X.env.scope.names.lookup x=some .local:=by first|exact .inl rfl|exact .inr rfl|assumption):PG X (.Name x pos) (Zq i):=QE hN hi hx hf
theorem il(K:ae)(ha:PE X a ta)(hb:PE X b tb)(hK:X.K=K:=by rfl)(hs:MY b:=by exact λ_ _=>rfl):PE X (.Subscript a b pos) (tOp (rIxL K) ta tb):=by subst hK;exact Yd Ky ha hb hs
theorem it(K:ae)(ha:PE X a ta)(hb:PE X b tb)(hK:X.K=K:=by rfl)(hs:MY b:=by exact λ_ _=>rfl):PE X (.Subscript a b pos) (tOp (rIxT K) ta tb):=by subst hK;exact Yd Z5 ha hb hs
theorem cn{k j:Nat}{x:Str}{ps:List Str}{sp:Sp}{p:Pos}(C:Can X.prog X.w X.K X.mg X.base k x ps sp)(hr:Room j X.A)(ha:PA X (e::es) t)(hk:k<=j:=by decide)(hg:Gl X x:=by rfl)(hdb:(x==("__debug__":Str))=false:=by decide)(he:az (e::es) X.env=(false,eval e X.env)::az es X.env:=by rfl)(hpl:(b8 pos (az es X.env)).any (·.1)=false:=by rfl):PE X (.Call (.Name x p) (e::es) [] pos) (M7 sp [] E0 t):=Ym C (hr.mono hk) hg ha hdb he hpl
theorem st(i:Nat){x:Str}{p:Pos}(hN:X.N.Nodup)(he:PE X e te)(hi:X.N[i]?=some x:=by rfl)(hx:Loc X.env.scope x:=by exact aN rfl)(hs:f7 e (some (.Name x p)) pos.line X.env=pure false:=by rfl)(hf:X.fn x=true\/X.env.scope.names.lookup x=some .local:=by first|exact .inl rfl|exact .inr rfl):PS X (.Assign [.Name x p] e pos) (tAsg te (Zq i)):=YA hN hi hx he hs hf
end
theorem Room.m{j k:Nat}{A:br}(r:Room k A)(h:j<=k:=by decide):Room j A:=r.mono h
theorem zl{n:Nat}(h:Nat.ble n 1000=true:=by rfl):n<=sizeLine:=Nat.le_trans (Nat.le_of_ble_eq_true h) (by decide)
theorem gE{α:Type}{l:List α}{i:Nat}(h:i<l.length):l[i]?=some l[i]:=List.getElem?_eq_getElem h
theorem lm{α β:Type}{f:α->β}{l:List α}:(l.map f).length=l.length:=bQ f
theorem scO{N P:List Str}{sc:Scope}(h:sc.kind=.function/\sc.isCoroutine=false/\sc.isGenerator=false/\N.Nodup/\N.take P.length=P/\(∀x∈P,sc.names.lookup x=some .local\/sc.names.lookup x=some .cell)/\∀y∈sc.names,y.2≠.free:=by decide +kernel):FnScope N P sc:=⟨h.1,h.2.1,h.2.2.1,h.2.2.2.1,h.2.2.2.2.1,h.2.2.2.2.2.1,h.2.2.2.2.2.2⟩
noncomputable def csx(l:List (Str×dR)):Scope:={kind:=.function,names:=l,isGenerator:=false,isCoroutine:=false,more:=[]}
section
variable {P:Program}{w:World}{K:ae}{mg:Str->Option Value}{base:Heap}{x:Str}{st:Stmt}{N ps:List Str}{k:Nat}{sp:Sp}
theorem Df.cn(D:Df K mg x st ps)(S:FnScope N ps (Zf st))(hb:∀(f:Addr)(cdv:Value)(A:br)(outer:List Env)(s:ah)(H:Hp)(vs:List V)(Q:VK)(E:XK),Room k (A.deeper (eM x (Zf st) s.heap.objs.size f cdv))->sp vs H Q E->∃t,PSs (cxOf CX0 P w K mg base N x (Zf st) f cdv A outer s H E).nox (Z9 st) t/\t {nx:=λ_ H'=>Q .non H',rt:=Q} (start N vs) H)(len:∀vs H Q E,sp vs H Q E->vs.length=ps.length:=by intro _ _ _ _ h;repeat (obtain⟨a,h⟩:=h;first|(subst a;rfl)|skip)):Can P w K mg base (k+1) x ps sp:=D.can S len hb
end
theorem tq{a b:TS}{D:Ends}{σ:St}{H:Hp}(h:∀D':Ends,(∀σ' H',b D σ' H'->D'.nx σ' H')->a D' σ H):tSeq a b D σ H:=h _ λ_ _ x=>x
theorem shp{σ:St}{p:(Nat->Option V)->St}(h:σ=p λi=>σ.getD i none):∃o,σ=p o:=⟨_,h⟩
theorem td{a:TS}{D:Ends}{σ:St}{H:Hp}(h:∀D':Ends,(∀σ' H',D.nx σ' H'->D'.nx σ' H')->a D' σ H):a D σ H:=h _ λ_ _ x=>x
theorem tqr{a b:TS}{D:Ends}{σ:St}{H:Hp}(h:∀D':Ends,(∀σ' H',b D σ' H'->D'.nx σ' H')->(∀v H',D.rt v H'->D'.rt v H')->a D' σ H):tSeq a b D σ H:=h _ (λ_ _ x=>x) (λ_ _ x=>x)
def Xw(K:ae)(w:World)(a:Addr)(z:Str)(v:V):Prop:=∃es n u,K.lookup a=some ⟨.type "dict",none,.dict es n,#[]⟩/\PySem.W.KeysLit w.params es.toList/\bZ K a z=some (some u)/\RelV v u
def DZ(K:ae)(w:World)(td ty:TE):TE:=λσ H Q=>td σ H λx H1=>ty σ H1 λy H2=>∃a z v,x=.ref a/\y=.str z/\Xw K w a z v/\Q v H2
section
variable {X:Cx}{o i:Expr}{td ty:TE}{pos:Pos}
theorem QH(ho:PE X o td)(hi:PE X i ty)(hs:NoSl i):PE X (.Subscript o i pos) (DZ X.K X.w td ty):=by intro pins s σ H Q I h;refine Mf ft.lookup hs (thn (ho pins s σ H _ I h) λu s1⟨x,H1,I1,rx,q1⟩=>thn (hi pins s1 σ H1 _ I1 q1) λiv s2 hZ=>?_);obtain⟨y,H2,I2,ry,a,z,v,ex,ey,⟨es,n,u',hl,hk,hn,rv⟩,q2⟩:=hZ;subst ex ey;obtain rfl:u=Value.ref a:=rx;obtain⟨t,rfl⟩:=(show ∃t,iv=Value.str z t from ry);have hm:=PySem.W.mapOf_K (prog:=X.prog) I2.kIn hl hk;exact⟨hm.typeIs,wpAny_getItem_of (strKind_is X.prog X.w z t) hm (PySem.W.find_K hl hn) ⟨v,H2,I2.tok _,rv,q2⟩⟩
end
end L2
namespace T
open PySem L2
noncomputable def top(i:Nat):Stmt:=ab.main.body.getD i (.Pass ⟨0,0,0,0⟩)
noncomputable abbrev f_is_whole:Stmt:=top 15
noncomputable abbrev f_is_within:Stmt:=top 16
noncomputable abbrev f_is_text_of:Stmt:=top 17
noncomputable abbrev f_is_name:Stmt:=top 18
noncomputable abbrev f_is_group_name:Stmt:=top 19
noncomputable abbrev f_is_person:Stmt:=top 21
noncomputable abbrev m_Step___init__:Stmt:=inClass (top 23) 0
noncomputable abbrev m_Step_tail:Stmt:=inClass (top 23) 2
noncomputable abbrev m_Step_head:Stmt:=inClass (top 23) 3
noncomputable abbrev m_SetOut___init__:Stmt:=inClass (top 24) 0
noncomputable abbrev m_Ride___init__:Stmt:=inClass (top 25) 0
noncomputable abbrev m_Walk___init__:Stmt:=inClass (top 26) 0
noncomputable abbrev m_Wait___init__:Stmt:=inClass (top 27) 0
noncomputable abbrev f_set_out_of:Stmt:=top 28
noncomputable abbrev f_walk_of:Stmt:=top 29
noncomputable abbrev f_wait_of:Stmt:=top 30
noncomputable abbrev f_step_or_none:Stmt:=top 31
noncomputable abbrev f_leads_home:Stmt:=top 33
noncomputable abbrev f_is_journey:Stmt:=top 34
noncomputable abbrev f_joined:Stmt:=top 35
noncomputable abbrev f_is_known:Stmt:=top 43
noncomputable abbrev f_rows_of:Stmt:=top 44
noncomputable abbrev f_wrong_beginning:Stmt:=top 45
noncomputable abbrev f_wrong_ends:Stmt:=top 46
noncomputable abbrev f_wrong_place:Stmt:=top 47
noncomputable abbrev f_wrong_ride:Stmt:=top 48
noncomputable abbrev f_wrong_way:Stmt:=top 49
noncomputable abbrev f_wrong_group:Stmt:=top 50
noncomputable abbrev f_refuse_row:Stmt:=top 51
noncomputable abbrev m_Table___init__:Stmt:=inClass (top 52) 0
noncomputable abbrev m_Table_take_places:Stmt:=inClass (top 52) 1
noncomputable abbrev m_Table_take_rides:Stmt:=inClass (top 52) 2
noncomputable abbrev m_Table_take_ways:Stmt:=inClass (top 52) 3
noncomputable abbrev m_Table_take_groups:Stmt:=inClass (top 52) 4
noncomputable abbrev m_Table_is_place:Stmt:=inClass (top 52) 6
noncomputable abbrev m_Table_is_home:Stmt:=inClass (top 52) 7
noncomputable abbrev m_Table_is_ride:Stmt:=inClass (top 52) 8
noncomputable abbrev m_Table_is_way:Stmt:=inClass (top 52) 9
noncomputable abbrev m_Table_is_group:Stmt:=inClass (top 52) 10
noncomputable abbrev m_Table_room_of:Stmt:=inClass (top 52) 11
noncomputable abbrev m_Table_ride_row:Stmt:=inClass (top 52) 13
noncomputable abbrev m_Table_way_row:Stmt:=inClass (top 52) 14
noncomputable abbrev m_Table_group_row:Stmt:=inClass (top 52) 15
noncomputable abbrev f__law_cell:Stmt:=top 54
noncomputable abbrev f__law_box:Stmt:=top 55
noncomputable abbrev f__law_take:Stmt:=top 56
noncomputable abbrev f__law_names:Stmt:=top 57
noncomputable abbrev f__law_rides:Stmt:=top 58
noncomputable abbrev f__law_ways:Stmt:=top 59
noncomputable abbrev f__law_groups:Stmt:=top 60
noncomputable abbrev f__law_world:Stmt:=top 61
noncomputable abbrev f__law_steps:Stmt:=top 62
noncomputable abbrev f__law_hopeful:Stmt:=top 63
noncomputable abbrev f__law_onward:Stmt:=top 64
noncomputable abbrev f__law_journey:Stmt:=top 65
noncomputable abbrev f__law_journeys:Stmt:=top 66
noncomputable abbrev f__law_together:Stmt:=top 67
noncomputable abbrev f__law_is:Stmt:=top 68
noncomputable abbrev f_law:Stmt:=top 69
end T
namespace K1
noncomputable def LET:List Nat:=[97,98,99,100,101,102,103,104,105,106,107,108,109,110,111,112,113,114,115,116,117,118,119,120,121,122]
noncomputable def FIG:List Nat:=[48,49,50,51,52,53,54,55,56,57]
noncomputable def lenB(n:Int)(y:List Nat):Bool:=decide ((1:Int)<=y.length)&&decide ((y.length:Int)<=n)
noncomputable def Yy(n:Int)(zs y:List Nat):Bool:=lenB n y&&y.all λc=>decide (c∈zs)
noncomputable def XW(n:Int)(zs y:List Nat):Bool:=Yy n zs y&&decide (y.getD 0 0∈LET)
open PySem L2
noncomputable abbrev SS:Stmt:=T.f_is_whole
noncomputable abbrev Qy:Stmt:=T.f_is_within
noncomputable abbrev Mq:Stmt:=T.f_is_text_of
noncomputable abbrev K0:Stmt:=T.f_is_name
noncomputable abbrev SU:Stmt:=T.f_is_group_name
noncomputable def tLET:Str:="abcdefghijklmnopqrstuvwxyz"
noncomputable def tNAME:Str:="abcdefghijklmnopqrstuvwxyz0123456789"
noncomputable def tGROUP:Str:="abcdefghijklmnopqrstuvwxyz0123456789."
structure Txt(K:ae)(mg:Str->Option Value):Prop where
 lets:∃t,mg "LETTERS"=some (.str tLET t)
 names:∃t,mg "NAME_SIGNS"=some (.str tNAME t)
 groups:∃t,mg "GROUP_SIGNS"=some (.str tGROUP t)
 ln:∃t,mg "LONGEST_NAME"=some (.int 8 t)
 lg:∃t,mg "LONGEST_GROUP_NAME"=some (.int 12 t)
 isi:mg "isinstance"=none
 int:mg "int"=none
 bool:mg "bool"=none
 str:mg "str"=none
 len:mg "len"=none
 all:mg "all"=none
noncomputable def Sk(x:V):Bool:=Wb x
noncomputable def Zu(x:V)(lo hi:Int):Bool:=match x with
|.int i=>decide (lo<=i)&&decide (i<=hi)
|_=>false
noncomputable def codes(z:Str):List Nat:=z.cps.toList
noncomputable def Qm(x:V)(n:Int)(z:Str):Bool:=match x with
|.str y=>Yy n (codes z) (codes y)
|_=>false
noncomputable def Vs(x:V)(n:Int)(z:Str):Bool:=match x with
|.str y=>XW n (codes z) (codes y)
|_=>false
def Qp:Sp:=λvs H Q _=>∃x T,vs=[x]/\Th H x T/\Q (.bl (Sk x)) H
def YD:Sp:=λvs H Q _=>∃x T lo hi,vs=[x,.int lo,.int hi]/\Th H x T/\Q (.bl (Zu x lo hi)) H
def UL:Sp:=λvs H Q _=>∃x T n z,vs=[x,.int n,.str z]/\Th H x T/\∀H',Same H H'->Q (.bl (Qm x n z)) H'
def Mi(n:Int)(z:Str):Sp:=λvs H Q _=>∃x T,vs=[x]/\Th H x T/\∀H',Same H H'->Q (.bl (Vs x n z)) H'
theorem slen{z:Str}(h:z.length<=1000):z.length<=sizeLine:=Nat.le_of_lt (XM h)
theorem clen(z:Str):(codes z).length=z.length:=by simp[codes,Str.length]
section
variable {P:Program}{w:World}{K:ae}{mg:Str->Option Value}{base:Heap}
theorem WZ:FnScope ["thing"] ["thing"] (Zf SS):=⟨rfl,rfl,rfl,by decide +kernel,rfl,by decide +kernel,by decide +kernel⟩
theorem G5(T:Txt K mg)(D:Df K mg "is_whole" SS ["thing"]):Can P w K mg base 1 "is_whole" ["thing"] Qp:=by
 refine D.can WZ (λvs H Q E h=>?_) (λf cdv A outer s H vs Q E hr h=>?_)
 ·obtain⟨x,T',rfl,_⟩:=h;rfl
 ·obtain⟨x,T',rfl,th,k⟩:=h;refine⟨_,Ze (Zk (XE (YZ (c:="int") (pv 0) rfl T.isi rfl T.int V6) (Xd (LC (YZ (c:="bool") (pv 0) rfl T.isi rfl T.bool MU))))),?_⟩;refine⟨_,rfl,_,_,_,_,rfl,th.ty,th.kitI,_,rfl,?_⟩;have fin:∀b,b=Sk x->Q (.bl b) H:=λb e=>e▸k;refine ite2 (λe=>?_) (λe=>fin _ ?_)
  ·refine⟨_,rfl,_,_,_,_,rfl,th.ty,th.kitB,_,rfl,fin _ ?_⟩;cases th<;>first|rfl|(exact absurd (show false=true from e) Bool.false_ne_true)
  ·cases th<;>first|rfl|(exact absurd rfl e)
theorem SK:FnScope ["thing","low","high"] ["thing","low","high"] (Zf Qy):=⟨rfl,rfl,rfl,by decide +kernel,rfl,by decide +kernel,by decide +kernel⟩
theorem Gs(D:Df K mg "is_within" Qy ["thing","low","high"])(CW:Can P w K mg base 1 "is_whole" ["thing"] Qp):Can P w K mg base 2 "is_within" ["thing","low","high"] YD:=by
 refine D.can SK (λvs H Q E h=>?_) (λf cdv A outer s H vs Q E hr h=>?_)
 ·obtain⟨x,T',lo,hi,rfl,_⟩:=h;rfl
 ·obtain⟨x,T',lo,hi,rfl,th,k⟩:=h;refine⟨_,Ze (Zk (XE (Ym CW hr rfl (Zg (pv 0) Zj)) (Xd (Tx QL QL (pv 1) (pv 0) (pv 2))))),?_⟩;refine⟨_,rfl,x,T',rfl,th,_,rfl,?_⟩;have fin:∀b,b=Zu x lo hi->Q (.bl b) H:=λb e=>e▸k;refine ite2 (λe=>?_) (λe=>fin _ ?_)
  ·cases th with
  |int i=>
    refine⟨_,rfl,_,rfl,_,_,rfl,rfl,_,rfl,?_⟩;refine ite2 (λe2=>?_) (λe2=>fin _ ?_)
    ·refine⟨_,rfl,_,_,rfl,rfl,fin _ ?_⟩;show _=(decide (lo<=i)&&decide (i<=hi));rw[e2,Bool.true_and]
    ·show false=(decide (lo<=i)&&decide (i<=hi));have e3:decide (lo<=i)=false:=by simpa using e2
     rw[e3,Bool.false_and]
  |_=>exact absurd (show false=true from e) Bool.false_ne_true
  ·cases th<;>first|rfl|(exact absurd rfl e)
theorem SO:FnScope ["thing","longest","signs"] ["thing","longest","signs"] (Zf Mq):=⟨rfl,rfl,rfl,by decide +kernel,rfl,by decide +kernel,by decide +kernel⟩
noncomputable def cs1:Scope:={kind:=.function,names:=[(Str.ofString ".0",.local),(Str.ofString "sign",.local),(Str.ofString "signs",.free)],isGenerator:=false,isCoroutine:=false,more:=[]}
theorem DL:CompScope cs1 (Zf Mq):=⟨rfl,by decide +kernel,by decide +kernel,by decide +kernel⟩
theorem DO:(["sign","signs"]:List Str).Nodup:=by decide +kernel
theorem DN:CompNames ["thing","longest","signs"] cs1 ["sign","signs"] [none,some 2]:=.mk' (by decide +kernel)
theorem PM(z:Str)(c:Nat):(!(ic z ⟨#[c]⟩ 0 z.length 1).isEmpty)=decide (c∈codes z):=PySem.StrLaws.found_one z c
theorem take_all{α β:Type}(l:List α)(p:α->β)(i:Nat)(c:α)(h:l[i]?=some c):(l.take (i+1)).map p=(l.take i).map p++[p c]:=by rw[List.take_add_one,h,aE];rfl
theorem P2(T:Txt K mg)(D:Df K mg "is_text_of" Mq ["thing","longest","signs"]):Can P w K mg base 1 "is_text_of" ["thing","longest","signs"] UL:=by
 refine D.can SO (λvs H Q E h=>?_) (λf cdv A outer s H vs Q E hr h=>?_)
 ·obtain⟨x,T',n,z,rfl,_⟩:=h;rfl
 ·obtain⟨x,T',n,z,rfl,th,k⟩:=h;refine⟨_,Za (ZD (PW.pt (Y8 (ZH (ZA (YZ (c:="str") (pv 0) rfl T.isi rfl T.str WG))) (Yz (ZH (Tn QL QL Zb (Zy WB rfl T.len aT (Zg (pv 0) Zj)) (pv 1)))))) (Ze (Zk XB)) Zo) (Ze (Zk (Zy (WE rfl) rfl T.all PyProof.Rows.boot_all (Zg (JB (scope:=cs1) (N:=["sign","signs"]) (cp:=[none,some 2]) rfl DL DN (Lz (pv 0)) (λC s H ex pn=>QE (i:=0) DO rfl (aN rfl)) (λC s H ex pn=>Uv) (λC s H ex pn=>YG VW (pv 0) (pv 1) (by with_unfolding_all rfl))) Zj)))),?_⟩;have fin:∀b H',Same H H'->b=Qm x n z->Q (.bl b) H':=λb H' sm e=>e▸k H' sm;refine⟨_,rfl,_,_,_,_,rfl,th.ty,th.kitS,_,rfl,?_⟩;refine ite2 (λe=>?_) (λe=>?_)
  ·refine iteT (fin _ _ (Same.refl _) ?_);cases th<;>first|rfl|(exact absurd (show false=true from e) Bool.false_ne_true)
  ·cases th with
  |str y hy=>
    have hlen:(codes y).length=y.length:=clen y;refine⟨_,rfl,_,_,rfl,⟨slen hy,rfl⟩,_,_,rfl,rfl,_,rfl,?_⟩;refine ite2 (λe1=>?_) (λe1=>?_)
    ·refine⟨_,rfl,_,_,rfl,rfl,_,rfl,?_⟩;refine ite2 (λe2=>?_) (λe2=>?_)
     ·refine fin _ _ (Same.refl _) ?_;show false=Yy n (codes z) (codes y);unfold Yy lenB;have e3:decide ((y.length:Int)<=n)=false:=by simpa using e2
      rw[hlen,e3,Bool.and_false,Bool.false_and]
     ·have e3:decide ((y.length:Int)<=n)=true:=by simpa using e2
      refine⟨_,rfl,y,rfl,VI (J:=Its y) y.length (slen hy) (λi ys τ H1=>H1=H/\ys=((codes y).take i).map (λc=>V.bl (decide (c∈codes z)))/\∃v,τ=[v,some (.str z)]) ⟨rfl,rfl,none,rfl⟩ (λi ys τ H1 p=>?_) (λi ys τ H1 hi p=>hi) (λys τ H1 p=>Nat.le_refl _) (λi ys τ H1 x' H2 hi p yl=>?_) (λys τ H1 p l hl=>?_)⟩
      ·rw[p.2.1,bQ,aF];omega
      ·obtain⟨rfl,rfl,v,rfl⟩:=p;obtain⟨rfl,c,hc,rfl⟩:=yl;refine⟨_,rfl,_,rfl,_,_,rfl,rfl,rfl,?_,_,rfl⟩;rw[PM];exact(take_all (codes y) (λc=>V.bl (decide (c∈codes z))) i c hc).symm
      ·obtain⟨rfl,rfl,v,rfl⟩:=p;refine⟨l,(codes y).map (λc=>decide (c∈codes z)),rfl,SqL.of ?_,fin _ _ (λb o q=>?_) ?_⟩
       ·rw[Zd,<-hlen,aH,dI];rfl
       ·rw[Zc (ne_of_none q hl)];exact q
       ·show _=Yy n (codes z) (codes y);unfold Yy lenB;rw[hlen,e1,e3,Bool.true_and,Bool.true_and,List.all_map];rfl
    ·refine⟨_,rfl,iteT (fin _ _ (Same.refl _) ?_)⟩;show false=Yy n (codes z) (codes y);unfold Yy lenB;have e3:decide ((1:Int)<=y.length)=false:=by simpa using e1
     rw[hlen,e3,Bool.false_and,Bool.false_and]
  |_=>exact absurd rfl e
theorem cLET:codes tLET=LET:=by decide +kernel
theorem Ez:codes tNAME=LET++FIG++[]:=by decide +kernel
theorem DP:codes tGROUP=LET++FIG++[46]:=by decide +kernel
theorem GN{x:V}{n:Int}{z:Str}(h:Qm x n z=true):∃y c r,x=.str y/\codes y=c::r:=by
 cases x with
|str y=>
  have h':Yy n (codes z) (codes y)=true:=h;unfold Yy lenB at h';rw[Bool.and_eq_true,Bool.and_eq_true]at h';have h1:=of_decide_eq_true h'.1.1;cases e:codes y with
 |nil=>rw[e]at h1;simp at h1
 |cons c r=>exact⟨y,c,r,rfl,e⟩
|_=>exact absurd (show false=true from h) Bool.false_ne_true
theorem Q3{y:Str}{c:Nat}{r:List Nat}(e:codes y=c::r):atI y.cps.toList 0=some c:=by have e':y.cps.toList=c::r:=e;rw[e'];exact Zl (j:=0) rfl
theorem _root_.L2.Th.strLen{H:Hp}{y:Str}{T:String}(h:Th H (.str y) T):y.length<=1000:=by
 cases h with
|str z h=>exact h
theorem Ub{x:V}{n:Int}{z:Str}(h:Qm x n z=false):Vs x n z=false:=by
 cases x with
|str y=>have h':Yy n (codes z) (codes y)=false:=h;show(Yy n (codes z) (codes y)&&_)=false;rw[h',Bool.false_and]
|_=>rfl
theorem WY:FnScope ["thing"] ["thing"] (Zf K0):=⟨rfl,rfl,rfl,by decide +kernel,rfl,by decide +kernel,by decide +kernel⟩
theorem Wv(T:Txt K mg)(D:Df K mg "is_name" K0 ["thing"])(CT:Can P w K mg base 1 "is_text_of" ["thing","longest","signs"] UL):Can P w K mg base 2 "is_name" ["thing"] (Mi 8 tNAME):=by
 refine D.can WY (λvs H Q E h=>?_) (λf cdv A outer s H vs Q E hr h=>?_)
 ·obtain⟨x,T',rfl,_⟩:=h;rfl
 ·obtain⟨x,T',rfl,th,k⟩:=h;obtain⟨t1,h1⟩:=T.ln;obtain⟨t2,h2⟩:=T.names;obtain⟨t3,h3⟩:=T.lets;refine⟨_,Ze (Zk (XE (Ym CT hr rfl (Zg (pv 0) (Zg (Z7 (v:=V.int 8) rfl h1 ⟨t1,rfl⟩) (Zg (Z7 (v:=V.str tNAME) rfl h2 ⟨t2,rfl⟩) Zj)))) (Xd (YG VW (Yd ML (pv 0) Zb (λ_ _=>rfl)) (Z7 (v:=V.str tLET) rfl h3 ⟨t3,rfl⟩) (by with_unfolding_all rfl))))),?_⟩;refine⟨_,rfl,x,T',8,tNAME,rfl,th,λH' sm=>⟨_,rfl,?_⟩⟩;have fin:∀b,b=Vs x 8 tNAME->Q (.bl b) H':=λb e=>e▸k H' sm;refine ite2 (λe=>?_) (λe=>fin _ ?_)
  ·obtain⟨y,c,r,rfl,ey⟩:=GN e;refine⟨_,rfl,y,0,c,rfl,rfl,slen th.strLen,Q3 ey,_,_,rfl,rfl,fin _ ?_⟩;have e':Yy 8 (codes tNAME) (codes y)=true:=e;show _=(Yy 8 (codes tNAME) (codes y)&&decide ((codes y).getD 0 0∈LET));rw[PM,e',Bool.true_and,cLET,ey];rfl
  ·exact(Ub (by simpa using e)).symm
theorem SJ:FnScope ["thing"] ["thing"] (Zf SU):=⟨rfl,rfl,rfl,by decide +kernel,rfl,by decide +kernel,by decide +kernel⟩
theorem R3(T:Txt K mg)(D:Df K mg "is_group_name" SU ["thing"])(CT:Can P w K mg base 1 "is_text_of" ["thing","longest","signs"] UL):Can P w K mg base 2 "is_group_name" ["thing"] (Mi 12 tGROUP):=by
 refine D.can SJ (λvs H Q E h=>?_) (λf cdv A outer s H vs Q E hr h=>?_)
 ·obtain⟨x,T',rfl,_⟩:=h;rfl
 ·obtain⟨x,T',rfl,th,k⟩:=h;obtain⟨t1,h1⟩:=T.lg;obtain⟨t2,h2⟩:=T.groups;obtain⟨t3,h3⟩:=T.lets;refine⟨_,Ze (Zk (XE (Ym CT hr rfl (Zg (pv 0) (Zg (Z7 (v:=V.int 12) rfl h1 ⟨t1,rfl⟩) (Zg (Z7 (v:=V.str tGROUP) rfl h2 ⟨t2,rfl⟩) Zj)))) (Xd (YG VW (Yd ML (pv 0) Zb (λ_ _=>rfl)) (Z7 (v:=V.str tLET) rfl h3 ⟨t3,rfl⟩) (by with_unfolding_all rfl))))),?_⟩;refine⟨_,rfl,x,T',12,tGROUP,rfl,th,λH' sm=>⟨_,rfl,?_⟩⟩;have fin:∀b,b=Vs x 12 tGROUP->Q (.bl b) H':=λb e=>e▸k H' sm;refine ite2 (λe=>?_) (λe=>fin _ ?_)
  ·obtain⟨y,c,r,rfl,ey⟩:=GN e;refine⟨_,rfl,y,0,c,rfl,rfl,slen th.strLen,Q3 ey,_,_,rfl,rfl,fin _ ?_⟩;have e':Yy 12 (codes tGROUP) (codes y)=true:=e;show _=(Yy 12 (codes tGROUP) (codes y)&&decide ((codes y).getD 0 0∈LET));rw[PM,e',Bool.true_and,cLET,ey];rfl
  ·exact(Ub (by simpa using e)).symm
end
end K1
namespace TB
open PySem L2 PySem.Spec PyProof.Rows
section
variable {P:Program}{w:World}{K:ae}{mg:Str->Option Value}{base:Heap}{C:Addr}
structure Txt(K:ae)(mg:Str->Option Value):Prop where
 turns:∃t,mg "MOST_TURNS"=some (.int 50 t)
 room:∃t,mg "MOST_ROOM"=some (.int 1000 t)
 way:∃t,mg "LONGEST_WAY"=some (.int 50 t)
 people:∃t,mg "MOST_PEOPLE"=some (.int 300 t)
 isi:mg "isinstance"=none
 str:mg "str"=none
 tup:mg "tuple"=none
 lst:mg "list"=none
 len:mg "len"=none
noncomputable def Yq(r:V):V:=if(decide (r=.non)||K1.Zu r 0 1000)=true then .non else .str "number"
def UK:Sp:=λvs H Q _=>∃p n r T,vs=[.ref p]/\H p=some (.tup [n,r])/\Th H r T/\Q (Yq r) H
theorem SM:FnScope ["row"] ["row"] (Zf T.f_wrong_place):=scO
theorem PZ(G:Txt K mg)(D:Df K mg "wrong_place" T.f_wrong_place ["row"])(CI:Can P w K mg base 2 "is_within" ["thing","low","high"] K1.YD):Can P w K mg base 3 "wrong_place" ["row"] UK:=by
 obtain⟨t1,h1⟩:=G.room;refine D.cn SM λf cdv A outer s H vs Q E hr h=>?_;obtain⟨p,n,r,T',rfl,hp,th,k⟩:=h;refine⟨_,Za (ZD (PW.pt (Y8 (Zr U3 (Yd Z5 (pv 0) Zb (λ_ _=>rfl)) ZZ (Zw _)) (Yz (ZA (Ym CI hr rfl (Zg (Yd Z5 (pv 0) Zb (λ_ _=>rfl)) (Zg Zb (Zg (Z7 (v:=V.int 1000) rfl h1 ⟨t1,rfl⟩) Zj)))))))) (Ze (Zk ZZ)) Zo) (Ze (Zk ZC)),?_⟩;refine⟨_,rfl,p,[n,r],1,r,rfl,rfl,SqT.of hp,rfl,rfl,_,rfl,?_⟩;unfold Yq at k;refine ite2 (λe=>?_) (λe=>?_)
 ·rw[if_pos (by simp[e])]at k;exact iteT k
 ·refine⟨_,rfl,p,[n,r],1,r,rfl,rfl,SqT.of hp,rfl,r,T',0,1000,rfl,th,_,rfl,?_⟩;refine ite2 (λe2=>?_) (λe2=>?_)
  ·rw[if_pos (by simp[e2])]at k;exact k
  ·rw[if_neg (by simpa using⟨by simpa using e,by simpa using e2⟩)]at k;exact k
noncomputable def ZM(x:V)(kvs:List (Key×V)):Bool:=match x with
|.str z=>(valV kvs (.inr z)).isSome
|_=>false
def J9:Sp:=λvs H Q _=>∃x T d kvs,vs=[x,.ref d]/\Th H x T/\H d=some (.dK kvs)/\Q (.bl (ZM x kvs)) H
theorem W0:FnScope ["thing","names"] ["thing","names"] (Zf T.f_is_known):=scO
theorem G6(G:Txt K mg)(D:Df K mg "is_known" T.f_is_known ["thing","names"]):Can P w K mg base 1 "is_known" ["thing","names"] J9:=by
 refine D.cn W0 λf cdv A outer s H vs Q E hr h=>?_;obtain⟨x,T',d,kvs,rfl,th,hd,k⟩:=h;refine⟨_,Ze (Zk (XE (YZ (c:="str") (pv 0) rfl G.isi rfl G.str WG) (Xd (LG (Tz (ZT hr) (pv 0) (pv 1)))))),?_⟩;refine⟨_,rfl,_,_,_,_,rfl,th.ty,th.kitS,_,rfl,?_⟩;have fin:∀b,b=ZM x kvs->Q (.bl b) H:=λb e=>e▸k;refine ite2 (λe=>?_) (λe=>fin _ ?_)
 ·obtain⟨z,rfl⟩:∃z,x=.str z:=by cases th<;>first|exact⟨_,rfl⟩|(exact absurd (show false=true from e) Bool.false_ne_true)
  exact⟨_,rfl,_,rfl,d,_,rfl,DGet.k (k:=b9 z) hd,k⟩
 ·cases th<;>first|rfl|(exact absurd rfl e)
end
end TB
namespace L2
open PySem PySem.Spec PyProof.Rows
theorem YR:bt "tuple"=some (.type "tuple"):=by decide +kernel
theorem UC:bt "list"=some (.type "list"):=by decide +kernel
theorem Th.kitT{K:ae}{H:Hp}{v:V}{T:String}(h:Th H v T):ay K (.type T) (.type "tuple")=some (decide (T="tuple")):=by cases h<;>(unfold ay;first|rfl|decide +kernel|(show _=_;simp;rfl))
end L2
namespace TB
open PySem L2 PySem.Spec PyProof.Rows
noncomputable def Z3(g:Bool)(x:V):Bool:=if g=true then K1.Vs x 12 K1.tGROUP else K1.Vs x 8 K1.tNAME
noncomputable def begV(g:Bool)(n:Nat)(kvs:List (Key×V))(xs:List V):V:=if xs.length≠n then .str "form" else if Z3 g (xs.getD 0 .non)=false then .str "name" else if ZM (xs.getD 0 .non) kvs=true then .str "double" else .non
def Row(H:Hp)(v:V)(r:Option (List V)):Prop:=match r with
|none=>∃T,Th H v T/\T≠"tuple"
|some xs=>∃p,v=.ref p/\H p=some (.tup xs)/\∀x∈xs,∃T,Th H x T
noncomputable def begR(g:Bool)(n:Nat)(kvs:List (Key×V)):Option (List V)->V
|none=>.str "form"
|some xs=>begV g n kvs xs
structure Sizes(K:ae)(w:World)(mg:Str->Option Value):Prop where
 at_:∃a,mg "ROW_SIZES"=some (.ref a)/\Xw K w a "places" (.int 2)/\Xw K w a "rides" (.int 6)/\Xw K w a "ways" (.int 5)/\Xw K w a "groups" (.int 4)
noncomputable def Np:List (Str×Nat):=[("places",2),("rides",6),("ways",5),("groups",4)]
def XI:Sp:=λvs H Q _=>∃z n row r d kvs,vs=[.str z,row,.ref d]/\(z,n)∈Np/\Row H row r/\H d=some (.dK kvs)/\∀H',Same H H'->Q (begR (decide (z="groups")) n kvs r) H'
section
variable {P:Program}{w:World}{K:ae}{mg:Str->Option Value}{base:Heap}{C:Addr}
theorem SN:FnScope ["part","row","names_ahead","fits"] ["part","row","names_ahead"] (Zf T.f_wrong_beginning):=scO
theorem P1(G:Txt K mg)(Z:Sizes K w mg)(D:Df K mg "wrong_beginning" T.f_wrong_beginning ["part","row","names_ahead"])(CN:Can P w K mg base 2 "is_name" ["thing"] (K1.Mi 8 K1.tNAME))(CG:Can P w K mg base 2 "is_group_name" ["thing"] (K1.Mi 12 K1.tGROUP)):Can P w K mg base 3 "wrong_beginning" ["part","row","names_ahead"] XI:=by
 obtain⟨aS,hS,k1,k2,k3,k4⟩:=Z.at_;have nd:(["part","row","names_ahead","fits"]:List Str).Nodup:=by decide +kernel
 refine D.cn SN λf cdv A outer s H vs Q E hr h=>?_;obtain⟨z,n,row,r,d,kvs,rfl,hz,hrow,hd,k⟩:=h;have hK:Xw K w aS z (.int n):=by simp only[Np,ar,gj,aP,or_false]at hz;rcases hz with⟨rfl,rfl⟩|⟨rfl,rfl⟩|⟨rfl,rfl⟩|⟨rfl,rfl⟩<;>assumption
 refine⟨_,Za (ZD (PW.pt (Y8 (ZH (ZA (YZ (c:="tuple") (pv 1) rfl G.isi rfl G.tup YR))) (Yz (Zr U2 (Zy Ja rfl G.len aT (Zg (pv 1) Zj)) (QH (Z7 (v:=V.ref aS) rfl hS rfl) (pv 0) (λ_ _=>rfl)) (Zw _))))) (Ze (Zk ZC)) Zo) (Za (YA (i:=3) nd rfl (aN rfl) (Vi (Zr Ug (pv 0) ZC (Zw _)) (Ym CG hr rfl (Zg (Yd Z5 (pv 1) Zb (λ_ _=>rfl)) Zj)) (Ym CN hr rfl (Zg (Yd Z5 (pv 1) Zb (λ_ _=>rfl)) Zj)))) (Za (ZD (ZH (ZA (pv 3))) (Ze (Zk ZC)) Zo) (Za (ZD (Ly (Tz (ZT hr) (Yd Z5 (pv 1) Zb (λ_ _=>rfl)) (pv 2))) (Ze (Zk ZC)) Zo) (Ze (Zk ZZ))))),?_⟩;cases r with
|none=>obtain⟨T',th,hT⟩:=hrow;refine⟨_,rfl,_,_,_,_,rfl,th.ty,th.kitT,_,rfl,?_⟩;rw[decide_eq_false hT];refine iteT ?_;exact k H (Same.refl H)
|some xs=>
  obtain⟨p,rfl,hp,hx⟩:=hrow;have th:Th H (.ref p) "tuple":=.tup hp;refine⟨_,rfl,_,_,_,_,rfl,th.ty,th.kitT,_,rfl,?_⟩;refine iteF ?_;refine⟨_,rfl,p,xs,rfl,.inr (SqT.of hp),_,rfl,aS,z,.int n,rfl,rfl,hK,rfl,_,rfl,?_⟩;refine ite2 (λe=>?_) (λe=>?_)
  ·have hl:xs.length≠n:=λq=>by rw[q]at e;simp at e
   show Q (.str "form") H;have q:=k H (Same.refl H);simpa[begR,begV,hl]using q
  ·have hl:xs.length=n:=by
    have e':(xs.length:Int)=n:=by simpa using e
    omega
   obtain⟨x,r,rfl⟩:∃x r,xs=x::r:=by
    cases xs with
   |nil=>simp only[Np,ar,gj,aP,or_false]at hz;simp at hl;omega
   |cons x r=>exact⟨x,r,rfl⟩
   obtain⟨T',tx⟩:=hx x (by simp);have a0:∀(u:V)(l:List V),atI (u::l) 0=some u:=λu l=>Zl (xs:=u::l) (j:=0) rfl;have fin:∀b H',Same H H'->b=Z3 (decide (z="groups")) x->(if(!b)=true then Q (.str "name") H' else if ZM x kvs=true then Q (.str "double") H' else Q .non H'):=by
    rintro b H' sm rfl;have q:=k H' sm;simp only[begR,begV,hl,ne_eq,not_true_eq_false,if_false,List.getD_cons_zero]at q;cases hb:Z3 (decide (z="groups")) x with
   |false=>rw[if_pos (by decide)];rw[hb,if_pos rfl]at q;exact q
   |true=>
     rw[if_neg (by decide)];rw[hb,if_neg (by decide)]at q;by_cases hk:ZM x kvs=true
     ·rw[if_pos hk]at q ⊢;exact q
     ·rw[if_neg hk]at q ⊢;exact q
   have isS:∀b,b=Z3 (decide (z="groups")) x->b=true->∃y,x=.str y:=by
    rintro _ rfl hb;unfold Z3 at hb;cases x with
   |str y=>exact⟨y,rfl⟩
   |_=>split at hb<;>cases hb
   refine⟨_,rfl,rfl,_,rfl,?_⟩;refine ite2 (λe2=>?_) (λe2=>?_)
   ·refine⟨_,rfl,p,x::r,0,x,rfl,rfl,SqT.of hp,a0 x r,x,T',rfl,tx,λH' sm=>?_⟩;have hb:K1.Vs x 12 K1.tGROUP=Z3 (decide (z="groups")) x:=by
     have e3:z="groups":=by simpa using e2
     simp[Z3,e3]
    have q:=fin _ H' sm hb;refine⟨_,rfl,_,rfl,?_⟩;refine ite2 (λe3=>?_) (λe3=>?_)
    ·rw[if_pos e3]at q;exact q
    ·rw[if_neg e3]at q;obtain⟨y,rfl⟩:=isS _ hb (by simpa using e3);exact⟨_,rfl,p,_::r,0,_,rfl,rfl,SqT.of (sm _ _ hp),a0 _ r,_,rfl,d,_,rfl,DGet.k (k:=b9 y) (sm _ _ hd),_,rfl,q⟩
   ·refine⟨_,rfl,p,x::r,0,x,rfl,rfl,SqT.of hp,a0 x r,x,T',rfl,tx,λH' sm=>?_⟩;have hb:K1.Vs x 8 K1.tNAME=Z3 (decide (z="groups")) x:=by
     have e3:z≠"groups":=by simpa using e2
     simp[Z3,e3]
    have q:=fin _ H' sm hb;refine⟨_,rfl,_,rfl,?_⟩;refine ite2 (λe3=>?_) (λe3=>?_)
    ·rw[if_pos e3]at q;exact q
    ·rw[if_neg e3]at q;obtain⟨y,rfl⟩:=isS _ hb (by simpa using e3);exact⟨_,rfl,p,_::r,0,_,rfl,rfl,SqT.of (sm _ _ hp),a0 _ r,_,rfl,d,_,rfl,DGet.k (k:=b9 y) (sm _ _ hd),_,rfl,q⟩
end
end TB
namespace L2
open PySem PySem.Spec PyProof.Rows
def DfM(K:ae)(C:Addr)(m qual:Str)(st:Stmt)(ps:List Str):Prop:=∃f fd,Fun K m qual st f fd/\Meth K C m f/\Binds K fd ps []
def CanM(P:Program)(w:World)(K:ae)(mg:Str->Option Value)(base:Heap)(CX:CXT)(k:Nat)(C:Addr)(m:Str)(ps:List Str)(sp:Sp):Prop:=∃f fd,FnOk P w K mg base CX k f fd ps sp/\Meth K C m f/\Binds K fd ps []
section
variable {P:Program}{w:World}{K:ae}{mg:Str->Option Value}{base:Heap}{C:Addr}{m qual:Str}{st:Stmt}{N ps:List Str}{k:Nat}{sp:Sp}
theorem DfM.can(D:DfM K C m qual st ps)(S:FnScope N ps (Zf st))(len:∀vs H Q E,sp vs H Q E->vs.length=ps.length)(hbody:∀(f:Addr)(cdv:Value)(A:br)(outer:List Env)(s:ah)(H:Hp)(vs:List V)(Q:VK)(E:XK),Room k (A.deeper (eM qual (Zf st) s.heap.objs.size f cdv))->sp vs H Q E ->∃t,PSs (cxOf CX0 P w K mg base N qual (Zf st) f cdv A outer s H E).nox (Z9 st) t/\t {nx:=λ_ H'=>Q .non H',rt:=Q} (start N vs) H):CanM P w K mg base CX0 (k+1) C m ps sp:=by obtain⟨f,fd,F,me,b⟩:=D;exact⟨f,fd,F.ok S len (λcdv A outer s H vs Q E hr h=>hbody f cdv A outer s H vs Q E hr h),me,b⟩
theorem DfM.cn(D:DfM K C m qual st ps)(S:FnScope N ps (Zf st))(hbody:∀(f:Addr)(cdv:Value)(A:br)(outer:List Env)(s:ah)(H:Hp)(vs:List V)(Q:VK)(E:XK),Room k (A.deeper (eM qual (Zf st) s.heap.objs.size f cdv))->sp vs H Q E ->∃t,PSs (cxOf CX0 P w K mg base N qual (Zf st) f cdv A outer s H E).nox (Z9 st) t/\t {nx:=λ_ H'=>Q .non H',rt:=Q} (start N vs) H)(len:∀vs H Q E,sp vs H Q E->vs.length=ps.length:=by intro _ _ _ _ h;repeat (obtain⟨a,h⟩:=h;first|(subst a;rfl)|skip)):CanM P w K mg base CX0 (k+1) C m ps sp:=D.can S len hbody
end
section
variable {X:Cx}{CX:CXT}{k:Nat}{C:Addr}{ps:List Str}{sp:Sp}{E:XK}{m:Str}{pos apos:Pos}{e o:Expr}{es:List Expr}{ta:TE}{t:TA}
theorem ZR{pl:Sem Bool}(c:CanM X.prog X.w X.K X.mg X.base CX k C m ps sp)(cl:Cls X.K C)(hx:Passes CX X E)(hr:Room k X.A)(he:PE X o ta)(ha:PA X (e::es) t)
  (hst:az (e::es) X.env=(false,eval e X.env)::az es X.env:=by rfl) (hpl:(b8 pos (az es X.env)).any (·.1)=false:=by rfl)
  (ht:eval (.Call (.Attribute o m apos) (e::es) [] pos) X.env=(do
   let ov <-eval o X.env
   g7 apos.atName
   let (f,first) <-fB [ov] (fF ov m pl)
   gW pos f first (b8 pos (az (e::es) X.env)) (eO pos (cV [] X.env))):=by rfl):
  PE X (.Call (.Attribute o m apos) (e::es) [] pos) (M6 C m sp [] E ta t):=by
 obtain⟨f,fd,F,me,b⟩:=c
 exact Kb he cl me F hr b .nil hx ha hst hpl ht
end
end L2
namespace TB
open PySem L2 PySem.Spec PyProof.Rows
noncomputable def fields:List Str:=["turns","places","room_by_place","rides","ride_by_name","ways","way_by_name","groups","group_by_name"]
structure TCl(K:ae)(C:Addr):Prop where
 cl:Cls K C
 na:∀f∈fields,Jb K C f
structure Tab(H:Hp)(C t:Addr)(fs:List (Str×V)):Prop where
 at_:∃dx,H t=some (.ins C dx fs)
 only:∀g,g∉fields->fs.lookup g=none
section
variable {P:Program}{w:World}{K:ae}{mg:Str->Option Value}{base:Heap}{C:Addr}
def Xh(C:Addr)(fld:Str):Sp:=λvs H Q _=>∃t x T fs d kvs,vs=[.ref t,x]/\Tab H C t fs/\fs.lookup fld=some (.ref d)/\H d=some (.dK kvs)/\Th H x T/\Q (.bl (ZM x kvs)) H
theorem Ee:FnScope ["self","thing"] ["self","thing"] (Zf T.m_Table_is_place):=scO
theorem Um(Z:TCl K C)(D:DfM K C "is_place" "Table.is_place" T.m_Table_is_place ["self","thing"])(CK:Can P w K mg base 1 "is_known" ["thing","names"] J9):CanM P w K mg base CX0 2 C "is_place" ["self","thing"] (Xh C "room_by_place"):=by refine D.cn Ee λf cdv A outer s H vs Q E hr h=>?_;obtain⟨t,x,T',fs,d,kvs,rfl,⟨⟨dx,ht⟩,_⟩,hl,hd,th,k⟩:=h;refine⟨_,Ze (Zk (Ym CK hr rfl (Zg (pv 1) (Zg (Z4 (pv 0) rfl) Zj)))),?_⟩;exact⟨_,rfl,_,rfl,t,C,dx,fs,_,rfl,ht,Z.cl,Z.na _ (by simp[fields]),hl,x,T',d,kvs,rfl,th,hd,k⟩
noncomputable def JQ(x:V)(kvs:List (Key×V)):Bool:=match x with
|.str z=>decide (valV kvs (.inr z)=some .non)
|_=>false
theorem Yb{x:V}{kvs:List (Key×V)}(h:ZM x kvs=true):∃z v,x=.str z/\valV kvs (.inr z)=some v:=by
 cases x with
|str z=>have h':(valV kvs (.inr z)).isSome=true:=h;exact⟨z,_,rfl,(Option.some_get h').symm⟩
|_=>cases h
theorem PQ{x:V}{kvs:List (Key×V)}(h:ZM x kvs=false):JQ x kvs=false:=by
 cases x with
|str z=>
  have h':(valV kvs (.inr z)).isSome=false:=h;show decide (valV kvs (.inr z)=some .non)=false;cases e:valV kvs (.inr z)with
 |none=>simp
 |some v=>rw[e]at h';cases h'
|_=>rfl
def Va(C:Addr):Sp:=λvs H Q _=>∃t x T fs d kvs,vs=[.ref t,x]/\Tab H C t fs/\fs.lookup ("room_by_place":Str)=some (.ref d)/\H d=some (.dK kvs)/\Th H x T/\Q (.bl (JQ x kvs)) H
theorem SR:FnScope ["self","thing"] ["self","thing"] (Zf T.m_Table_is_home):=scO
theorem Gv(Z:TCl K C)(D:DfM K C "is_home" "Table.is_home" T.m_Table_is_home ["self","thing"])(CP:CanM P w K mg base CX0 2 C "is_place" ["self","thing"] (Xh C "room_by_place")):CanM P w K mg base CX0 3 C "is_home" ["self","thing"] (Va C):=by
 refine D.cn SR λf cdv A outer s H vs Q E hr h=>?_;obtain⟨t,x,T',fs,d,kvs,rfl,tb,hl,hd,th,k⟩:=h;obtain⟨dx,ht⟩:=id tb.at_;refine⟨_,Ze (Zk (XE (ZR CP Z.cl Z1 hr (pv 0) (Zg (pv 1) Zj)) (Xd (YG U3 (YM (ZT hr) (Z4 (pv 0) rfl) (pv 1) (λ_ _=>rfl)) ZZ (by with_unfolding_all rfl))))),?_⟩;refine mthV ht (tb.only _ (by decide +kernel)) ⟨_,rfl,t,x,T',fs,d,kvs,rfl,tb,hl,hd,th,_,rfl,?_⟩;have fin:∀b,b=JQ x kvs->Q (.bl b) H:=λb e=>e▸k;refine ite2 (λe=>?_) (λe=>fin _ ?_)
 ·obtain⟨z,v,rfl,hv⟩:=Yb e;refine⟨_,rfl,t,C,dx,fs,_,rfl,ht,Z.cl,Z.na _ (by simp[fields]),hl,_,rfl,d,v,rfl,(by rw[<-hv];exact DGet.k (k:=b9 z) hd),rfl,fin _ ?_⟩;show decide (v=.non)=decide (valV kvs (.inr z)=some .non);rw[hv];simp
 ·have e':ZM x kvs=false:=by simpa using e
  exact(PQ e').symm
noncomputable def YK(kvs:List (Key×V))(s g:V):V:=if(!ZM s kvs||!ZM g kvs)=true then .str "place" else if JQ s kvs=true then .str "home" else if g=s then .str "alike" else .non
def Pd(C:Addr):Sp:=λvs H Q _=>∃t x y T T' fs d kvs,vs=[.ref t,x,y]/\Tab H C t fs/\fs.lookup ("room_by_place":Str)=some (.ref d)/\H d=some (.dK kvs)/\Th H x T/\Th H y T'/\Q (YK kvs x y) H
theorem Ls:FnScope ["table","start","goal"] ["table","start","goal"] (Zf T.f_wrong_ends):=scO
theorem Wz(Z:TCl K C)(D:Df K mg "wrong_ends" T.f_wrong_ends ["table","start","goal"])(CP:CanM P w K mg base CX0 2 C "is_place" ["self","thing"] (Xh C "room_by_place"))(CH:CanM P w K mg base CX0 3 C "is_home" ["self","thing"] (Va C)):Can P w K mg base 4 "wrong_ends" ["table","start","goal"] (Pd C):=by
 refine D.cn Ls λf cdv A outer s H vs Q E hr h=>?_;obtain⟨t,x,y,T1,T2,fs,d,kvs,rfl,tb,hl,hd,tx,ty,k⟩:=h;obtain⟨dx,ht⟩:=id tb.at_;have hr2:Room 2 (A.deeper (eM "wrong_ends" (Zf T.f_wrong_ends) s.heap.objs.size f cdv)):=hr.mono (by decide);refine⟨_,Za (ZD (PW.pt (Y8 (ZH (ZA (ZR CP Z.cl Z1 hr2 (pv 0) (Zg (pv 1) Zj)))) (Yz (ZH (ZA (ZR CP Z.cl Z1 hr2 (pv 0) (Zg (pv 2) Zj))))))) (Ze (Zk ZC)) Zo) (Za (ZD (ZA (ZR CH Z.cl Z1 hr (pv 0) (Zg (pv 1) Zj))) (Ze (Zk ZC)) Zo) (Za (ZD (Zr Ug (pv 2) (pv 1) (Zw _)) (Ze (Zk ZC)) Zo) (Ze (Zk ZZ)))),?_⟩;unfold YK at k;refine mthV ht (tb.only _ (by decide +kernel)) ⟨_,rfl,t,x,T1,fs,d,kvs,rfl,tb,hl,hd,tx,_,rfl,?_⟩;refine ite2 (λe=>?_) (λe=>?_)
 ·rw[if_pos (by rw[e];rfl)]at k;exact iteT k
 ·refine mthV ht (tb.only _ (by decide +kernel)) ⟨_,rfl,t,y,T2,fs,d,kvs,rfl,tb,hl,hd,ty,_,rfl,?_⟩;refine ite2 (λe2=>?_) (λe2=>?_)
  ·rw[if_pos (by rw[e2];simp)]at k;exact k
  ·have kx:ZM x kvs=true:=by simpa using e
   have ky:ZM y kvs=true:=by simpa using e2
   rw[if_neg (by rw[kx,ky];decide)]at k;refine mthV ht (tb.only _ (by decide +kernel)) ⟨_,rfl,t,x,T1,fs,d,kvs,rfl,tb,hl,hd,tx,_,rfl,?_⟩;refine ite2 (λe3=>?_) (λe3=>?_)
   ·rw[if_pos e3]at k;exact k
   ·rw[if_neg e3]at k;obtain⟨zx,_,rfl,_⟩:=Yb kx;obtain⟨zy,_,rfl,_⟩:=Yb ky;refine⟨_,rfl,_,rfl,rfl,_,rfl,?_⟩;refine ite2 (λe4=>?_) (λe4=>?_)
    ·rw[if_pos (by simpa using e4)]at k;exact k
    ·rw[if_neg (by simpa using e4)]at k;exact k
noncomputable def Vc(kvs:List (Key×V))(n:Int)(s l g a m:V):V:=if YK kvs s g≠.non then YK kvs s g else match l with
 |.int i=>if(!K1.Zu (.int i) 0 (n-1)||!K1.Zu a (i+1) n)=true then .str "turn" else if(!K1.Zu m 0 1000)=true then .str "number" else .non
 |_=>.str "turn"
noncomputable def wayV(kvs:List (Key×V))(s g l m:V):V:=if YK kvs s g≠.non then YK kvs s g else if(!K1.Zu l 1 50||!K1.Zu m 0 1000)=true then .str "number" else .non
theorem at0{α:Type}{xs:List α}(j:Nat){v:α}(h:xs[j]?=some v):atI xs (j:Int)=some v:=Zl h
def Pc(C:Addr):Sp:=λvs H Q _=>∃t p x0 x1 x2 x3 x4 x5 fs d kvs n,vs=[.ref t,.ref p]/\Tab H C t fs/\fs.lookup ("room_by_place":Str)=some (.ref d)/\fs.lookup ("turns":Str)=some (.int n)/\H d=some (.dK kvs) /\H p=some (.tup [x0,x1,x2,x3,x4,x5])/\(∀x∈[x0,x1,x2,x3,x4,x5],∃T,Th H x T)/\Q (Vc kvs n x1 x2 x3 x4 x5) H
theorem Lr:FnScope ["table","row","leave","why"] ["table","row"] (Zf T.f_wrong_ride):=scO
theorem Wu(G:Txt K mg)(Z:TCl K C)(D:Df K mg "wrong_ride" T.f_wrong_ride ["table","row"])(CI:Can P w K mg base 2 "is_within" ["thing","low","high"] K1.YD)(CE:Can P w K mg base 4 "wrong_ends" ["table","start","goal"] (Pd C)):Can P w K mg base 5 "wrong_ride" ["table","row"] (Pc C):=by
 obtain⟨t1,h1⟩:=G.room;have nd:(["table","row","leave","why"]:List Str).Nodup:=by decide +kernel
 refine D.cn Lr λf cdv A outer s H vs Q E hr h=>?_;obtain⟨t,p,x0,x1,x2,x3,x4,x5,fs,d,kvs,n,rfl,tb,hl,hn,hd,hp,hx,k⟩:=h;obtain⟨dx,ht⟩:=id tb.at_;obtain⟨T1,h01⟩:=hx x1 (by simp);obtain⟨T2,h02⟩:=hx x2 (by simp);obtain⟨T3,h03⟩:=hx x3 (by simp);obtain⟨T4,h04⟩:=hx x4 (by simp);obtain⟨T5,h05⟩:=hx x5 (by simp);have hr2:Room 2 (A.deeper (eM "wrong_ride" (Zf T.f_wrong_ride) s.heap.objs.size f cdv)):=hr.mono (by decide);refine⟨_,Za (YA (i:=2) nd rfl (aN rfl) (Yd Z5 (pv 1) Zb (λ_ _=>rfl))) (Za (YA (i:=3) nd rfl (aN rfl) (Ym CE hr rfl (Zg (pv 0) (Zg (Yd Z5 (pv 1) Zb (λ_ _=>rfl)) (Zg (Yd Z5 (pv 1) Zb (λ_ _=>rfl)) Zj))))) (Za (ZD (Zr Vp (pv 3) ZZ (Zw _)) (Ze (Zk (pv 3))) Zo) (Za (ZD (PW.pt (Y8 (ZH (ZA (Ym CI hr2 rfl (Zg (pv 2) (Zg Zb (Zg (Zt Xe (Z4 (pv 0) rfl) Zb) Zj)))))) (Yz (ZH (ZA (Ym CI hr2 rfl (Zg (Yd Z5 (pv 1) Zb (λ_ _=>rfl)) (Zg (Zt ZQ (pv 2) Zb) (Zg (Z4 (pv 0) rfl) Zj))))))))) (Ze (Zk ZC)) Zo) (Za (ZD (ZH (ZA (Ym CI hr2 rfl (Zg (Yd Z5 (pv 1) Zb (λ_ _=>rfl)) (Zg Zb (Zg (Z7 (v:=V.int 1000) rfl h1 ⟨t1,rfl⟩) Zj)))))) (Ze (Zk ZC)) Zo) (Ze (Zk ZZ)))))),?_⟩;refine⟨_,rfl,p,_,2,x2,rfl,rfl,SqT.of hp,at0 2 rfl,?_⟩;refine⟨_,rfl,_,rfl,p,_,1,x1,rfl,rfl,SqT.of hp,at0 1 rfl,_,rfl,p,_,3,x3,rfl,rfl,SqT.of hp,at0 3 rfl,t,x1,x3,T1,T3,fs,d,kvs,rfl,tb,hl,hd,h01,h03,?_⟩;unfold Vc at k;refine⟨_,rfl,rfl,_,rfl,?_⟩;refine ite2 (λe=>?_) (λe=>?_)
 ·have e':YK kvs x1 x3≠.non:=by simpa using e
  rw[if_pos e']at k;exact⟨_,rfl,k⟩
 ·have e':¬YK kvs x1 x3≠.non:=by simpa using e
  rw[if_neg e']at k;refine⟨_,rfl,_,rfl,t,C,dx,fs,_,rfl,ht,Z.cl,Z.na _ (by simp[fields]),hn,_,_,rfl,rfl,x2,T2,0,n-1,rfl,h02,_,rfl,?_⟩;refine ite2 (λe2=>?_) (λe2=>?_)
  ·have q:Q (.str "turn") H:=by
    cases x2 with
   |int i=>
     have k':Q (if(!K1.Zu (.int i) 0 (n-1)||!K1.Zu x4 (i+1) n)=true then V.str "turn" else if(!K1.Zu x5 0 1000)=true then .str "number" else .non) H:=k
     rw[if_pos (by rw[e2];rfl)]at k';exact k'
   |_=>exact k
   exact iteT q
  ·obtain⟨i,rfl⟩:∃i,x2=.int i:=by
    cases x2 with
   |int i=>exact⟨i,rfl⟩
   |_=>exact absurd rfl e2
   have k':Q (if(!K1.Zu (.int i) 0 (n-1)||!K1.Zu x4 (i+1) n)=true then V.str "turn" else if(!K1.Zu x5 0 1000)=true then .str "number" else .non) H:=k
   have w1:K1.Zu (.int i) 0 (n-1)=true:=by simpa using e2
   rw[w1]at k';refine⟨_,rfl,p,_,4,x4,rfl,rfl,SqT.of hp,at0 4 rfl,_,rfl,_,_,rfl,rfl,_,rfl,t,C,dx,fs,_,rfl,ht,Z.cl,Z.na _ (by simp[fields]),hn,x4,T4,i+1,n,rfl,h04,_,rfl,?_⟩;refine ite2 (λe3=>?_) (λe3=>?_)
   ·rw[if_pos (by rw[e3];rfl)]at k';exact k'
   ·have w2:K1.Zu x4 (i+1) n=true:=by simpa using e3
    rw[w2,if_neg (by decide)]at k';refine⟨_,rfl,p,_,5,x5,rfl,rfl,SqT.of hp,at0 5 rfl,x5,T5,0,1000,rfl,h05,_,rfl,?_⟩;refine ite2 (λe4=>?_) (λe4=>?_)
    ·rw[if_pos e4]at k';exact k'
    ·rw[if_neg e4]at k';exact k'
noncomputable def Xg(kvs:List (Key×V))(n pa:Int)(p t m:V):V:=if(!ZM p kvs)=true then .str "place" else if(!K1.Zu t 0 n)=true then .str "turn" else match m with
 |.int i=>if(!K1.Zu (.int i) 0 300)=true then .str "number" else if pa+i>300 then .str "people" else .non
 |_=>.str "number"
def SE(C:Addr):Sp:=λvs H Q _=>∃t p x0 x1 x2 x3 x4 fs d kvs,vs=[.ref t,.ref p]/\Tab H C t fs/\fs.lookup ("room_by_place":Str)=some (.ref d)/\H d=some (.dK kvs) /\H p=some (.tup [x0,x1,x2,x3,x4])/\(∀x∈[x0,x1,x2,x3,x4],∃T,Th H x T)/\Q (wayV kvs x1 x2 x3 x4) H
theorem Ed:FnScope ["table","row","why"] ["table","row"] (Zf T.f_wrong_way):=scO
theorem KD(G:Txt K mg)(Z:TCl K C)(D:Df K mg "wrong_way" T.f_wrong_way ["table","row"])(CI:Can P w K mg base 2 "is_within" ["thing","low","high"] K1.YD)(CE:Can P w K mg base 4 "wrong_ends" ["table","start","goal"] (Pd C)):Can P w K mg base 5 "wrong_way" ["table","row"] (SE C):=by
 obtain⟨t1,h1⟩:=G.room;obtain⟨t2,h2⟩:=G.way;have nd:(["table","row","why"]:List Str).Nodup:=by decide +kernel
 refine D.cn Ed λf cdv A outer s H vs Q E hr h=>?_;obtain⟨t,p,x0,x1,x2,x3,x4,fs,d,kvs,rfl,tb,hl,hd,hp,hx,k⟩:=h;obtain⟨dx,ht⟩:=id tb.at_;obtain⟨T1,h01⟩:=hx x1 (by simp);obtain⟨T2,h02⟩:=hx x2 (by simp);obtain⟨T3,h03⟩:=hx x3 (by simp);obtain⟨T4,h04⟩:=hx x4 (by simp);have hr2:Room 2 (A.deeper (eM "wrong_way" (Zf T.f_wrong_way) s.heap.objs.size f cdv)):=hr.mono (by decide);refine⟨_,Za (YA (i:=2) nd rfl (aN rfl) (Ym CE hr rfl (Zg (pv 0) (Zg (Yd Z5 (pv 1) Zb (λ_ _=>rfl)) (Zg (Yd Z5 (pv 1) Zb (λ_ _=>rfl)) Zj))))) (Za (ZD (Zr Vp (pv 2) ZZ (Zw _)) (Ze (Zk (pv 2))) Zo) (Za (ZD (PW.pt (Y8 (ZH (ZA (Ym CI hr2 rfl (Zg (Yd Z5 (pv 1) Zb (λ_ _=>rfl)) (Zg Zb (Zg (Z7 (v:=V.int 50) rfl h2 ⟨t2,rfl⟩) Zj)))))) (Yz (ZH (ZA (Ym CI hr2 rfl (Zg (Yd Z5 (pv 1) Zb (λ_ _=>rfl)) (Zg Zb (Zg (Z7 (v:=V.int 1000) rfl h1 ⟨t1,rfl⟩) Zj))))))))) (Ze (Zk ZC)) Zo) (Ze (Zk ZZ)))),?_⟩;refine⟨_,rfl,_,rfl,p,_,1,x1,rfl,rfl,SqT.of hp,at0 1 rfl,_,rfl,p,_,2,x2,rfl,rfl,SqT.of hp,at0 2 rfl,t,x1,x2,T1,T2,fs,d,kvs,rfl,tb,hl,hd,h01,h02,?_⟩;unfold wayV at k;refine⟨_,rfl,rfl,_,rfl,?_⟩;refine ite2 (λe=>?_) (λe=>?_)
 ·have e':YK kvs x1 x2≠.non:=by simpa using e
  rw[if_pos e']at k;exact⟨_,rfl,k⟩
 ·have e':¬YK kvs x1 x2≠.non:=by simpa using e
  rw[if_neg e']at k;refine⟨_,rfl,p,_,3,x3,rfl,rfl,SqT.of hp,at0 3 rfl,x3,T3,1,50,rfl,h03,_,rfl,?_⟩;refine ite2 (λe2=>?_) (λe2=>?_)
  ·rw[if_pos (by rw[e2];rfl)]at k;exact iteT k
  ·have w1:K1.Zu x3 1 50=true:=by simpa using e2
   rw[w1]at k;refine⟨_,rfl,p,_,4,x4,rfl,rfl,SqT.of hp,at0 4 rfl,x4,T4,0,1000,rfl,h04,_,rfl,?_⟩;refine ite2 (λe3=>?_) (λe3=>?_)
   ·rw[if_pos (by rw[e3];rfl)]at k;exact k
   ·have w2:K1.Zu x4 0 1000=true:=by simpa using e3
    rw[w2,if_neg (by decide)]at k;exact k
def Mj(C:Addr):Sp:=λvs H Q _=>∃t p x0 x1 x2 x3 fs d kvs n pa,vs=[.ref t,.ref p,.int pa]/\Tab H C t fs/\fs.lookup ("room_by_place":Str)=some (.ref d)/\fs.lookup ("turns":Str)=some (.int n)/\H d=some (.dK kvs) /\H p=some (.tup [x0,x1,x2,x3])/\(∀x∈[x0,x1,x2,x3],∃T,Th H x T)/\Q (Xg kvs n pa x1 x2 x3) H
theorem W2:FnScope ["table","row","people_ahead"] ["table","row","people_ahead"] (Zf T.f_wrong_group):=scO
theorem P0(G:Txt K mg)(Z:TCl K C)(D:Df K mg "wrong_group" T.f_wrong_group ["table","row","people_ahead"])(CI:Can P w K mg base 2 "is_within" ["thing","low","high"] K1.YD)(CP:CanM P w K mg base CX0 2 C "is_place" ["self","thing"] (Xh C "room_by_place")):Can P w K mg base 3 "wrong_group" ["table","row","people_ahead"] (Mj C):=by
 obtain⟨t1,h1⟩:=G.people;refine D.cn W2 λf cdv A outer s H vs Q E hr h=>?_;obtain⟨t,p,x0,x1,x2,x3,fs,d,kvs,n,pa,rfl,tb,hl,hn,hd,hp,hx,k⟩:=h;obtain⟨dx,ht⟩:=id tb.at_;obtain⟨T1,h01⟩:=hx x1 (by simp);obtain⟨T2,h02⟩:=hx x2 (by simp);obtain⟨T3,h03⟩:=hx x3 (by simp);refine⟨_,Za (ZD (ZH (ZA (ZR CP Z.cl Z1 hr (pv 0) (Zg (Yd Z5 (pv 1) Zb (λ_ _=>rfl)) Zj)))) (Ze (Zk ZC)) Zo) (Za (ZD (ZH (ZA (Ym CI hr rfl (Zg (Yd Z5 (pv 1) Zb (λ_ _=>rfl)) (Zg Zb (Zg (Z4 (pv 0) rfl) Zj)))))) (Ze (Zk ZC)) Zo) (Za (ZD (ZH (ZA (Ym CI hr rfl (Zg (Yd Z5 (pv 1) Zb (λ_ _=>rfl)) (Zg Zb (Zg (Z7 (v:=V.int 300) rfl h1 ⟨t1,rfl⟩) Zj)))))) (Ze (Zk ZC)) Zo) (Za (ZD (Zr Ue (Zt ZQ (pv 2) (Yd Z5 (pv 1) Zb (λ_ _=>rfl))) (Z7 (v:=V.int 300) rfl h1 ⟨t1,rfl⟩) (Zw _)) (Ze (Zk ZC)) Zo) (Ze (Zk ZZ))))),?_⟩;unfold Xg at k;refine mthV ht (tb.only _ (by decide +kernel)) ⟨_,rfl,p,_,1,x1,rfl,rfl,SqT.of hp,at0 1 rfl,t,x1,T1,fs,d,kvs,rfl,tb,hl,hd,h01,_,rfl,?_⟩;refine ite2 (λe=>?_) (λe=>?_)
 ·rw[if_pos e]at k;exact k
 rw[if_neg e]at k;refine⟨_,rfl,p,_,2,x2,rfl,rfl,SqT.of hp,at0 2 rfl,_,rfl,t,C,dx,fs,_,rfl,ht,Z.cl,Z.na _ (by simp[fields]),hn,x2,T2,0,n,rfl,h02,_,rfl,?_⟩;refine ite2 (λe2=>?_) (λe2=>?_)
 ·rw[if_pos e2]at k;exact k
 rw[if_neg e2]at k;refine⟨_,rfl,p,_,3,x3,rfl,rfl,SqT.of hp,at0 3 rfl,x3,T3,0,300,rfl,h03,_,rfl,?_⟩;refine ite2 (λe3=>?_) (λe3=>?_)
 ·cases x3 with
 |int i=>have k':Q (if(!K1.Zu (.int i) 0 300)=true then V.str "number" else if pa+i>300 then .str "people" else .non) H:=k;rw[if_pos e3]at k';exact k'
 |_=>exact k
 ·obtain⟨i,rfl⟩:∃i,x3=.int i:=by
   cases x3 with
  |int i=>exact⟨i,rfl⟩
  |_=>exact absurd rfl e3
  have k':Q (if(!K1.Zu (.int i) 0 300)=true then V.str "number" else if pa+i>300 then .str "people" else .non) H:=k;rw[if_neg e3]at k';refine⟨_,rfl,_,rfl,p,_,3,_,rfl,rfl,SqT.of hp,at0 3 rfl,_,_,rfl,rfl,_,_,rfl,rfl,_,rfl,?_⟩;refine ite2 (λe4=>?_) (λe4=>?_)
  ·rw[if_pos (by simpa using e4)]at k';exact k'
  ·rw[if_neg (by simpa using e4)]at k';exact k'
end
end TB
namespace L2
open PySem PySem.Spec PyProof.Rows
theorem sameNew{l:Addr}{H H1:Hp}{o:HO}(x:Same H H1)(hl:H1 l=none):Same H (upd H1 l o):=λc u h=>by rw[Zc (ne_of_none (x c u h) hl)];exact x c u h
theorem nl{c:Addr}{H:Hp}{o:HO}{G:Hp->Prop}(h:H c=none)(k:∀H',Same H H'->H' c=some o->G H'):G (upd H c o):=k _ (sameNew (λ_ _ e=>e) h) Zd
theorem nl2{c:Addr}{H:Hp}{o:HO}{R:Type}{q:R}{G:Hp->R->Prop}(h:H c=none)(k:∀H',Same H H'->H' c=some o->G H' q):G (upd H c o) q:=nl (G:=λH=>G H q) h k
theorem Ql:∀{cs:List String}{us:List Value},Vals (cs.map V.ty) us->us=cs.map Value.type
|[],_,h=>by cases h;rfl
|c::cs,_,h=>by
  cases h with
 |cons r t=>have e:=Ql t;cases(show _=Value.type c from r);rw[e];rfl
section
variable {X:Cx}
theorem G8:Xx X (.builtin "isinstance") (λxs H Q=>∃(x:V)(p:Addr)(cs:List String)(T:String)(b:Bool),xs=[x,.ref p]/\Th H x T/\H p=some (.tup (cs.map V.ty))/\ij X.K (.type T) (cs.map Value.type)=some b/\Q (.bl b) H):=by
 intro pins s σ H xs us Q I r h;obtain⟨x,p,cs,T,b,rfl,th,hp,e,q⟩:=h;obtain⟨u,w',rfl,ru,rw'⟩:=vals2 r;cases(show w'=Value.ref p from rw');obtain⟨_,its,rv,⟨oc,od,odt,osl⟩,h1,hc,n,hdt⟩:=(show ZY X.prog X.w H s.heap p (.tup (cs.map V.ty))from I.hok p _ hp);have ei:=Ql rv;subst ei;obtain rfl:oc=.type "tuple":=hc;obtain rfl:odt=.seq (cs.map Value.type).toArray n:=hdt;have fin:∀tk,EP X pins σ Q (.bool b) {s with toks:=tk}:=λtk=>⟨.bl b,H,I.tok tk,rfl,q⟩;cases th with
|non=>cases(show u=Value.none from ru);exact df PySem.W.kitx_none I.kIn bB h1 e (λz=>nomatch z) fin
|bl y=>cases(show u=Value.bool y from ru);exact df PySem.W.kitx_bool I.kIn bB h1 e (λz=>nomatch z) fin
|int i=>obtain⟨t,z⟩:=(show ∃t,u=Value.int i t from ru);cases z;exact df PySem.W.kitx_int I.kIn bB h1 e (λz=>nomatch z) fin
|str y _=>obtain⟨t,z⟩:=(show ∃t,u=Value.str y t from ru);cases z;exact df PySem.W.kitx_str I.kIn bB h1 e (λz=>nomatch z) fin
|@lst a xs ea=>cases(show u=Value.ref a from ru);obtain⟨_,_,n',_,h2⟩:=(show ZY X.prog X.w H s.heap a (.lst xs)from I.hok a _ ea);exact df gK I.kIn ⟨_,h2,rfl⟩ h1 e (λz=>nomatch z) fin
|@tup a xs ea=>cases(show u=Value.ref a from ru);obtain⟨_,_,_,o,h2,h3,_⟩:=(show ZY X.prog X.w H s.heap a (.tup xs)from I.hok a _ ea);exact df PySem.W.kitx_tuple I.kIn ⟨o,h2,h3⟩ h1 e (λz=>nomatch z) fin
|@dK a kvs ea=>cases(show u=Value.ref a from ru);obtain⟨_,_,vs,_,o,es,ep,h2,h3,_⟩:=(show ZY X.prog X.w H s.heap a (.dK kvs)from I.hok a _ ea);exact df gL I.kIn ⟨o,h2,h3.1⟩ h1 e (λz=>nomatch z) fin
end
theorem Th.kitLT{K:ae}{H:Hp}{v:V}{T:String}(h:Th H v T):ij K (.type T) (["list","tuple"].map Value.type)=some (decide (T="list"\/T="tuple")):=by cases h<;>(first|kernel_rfl|(unfold ij;rfl))
end L2
namespace TB
open PySem L2 PySem.Spec PyProof.Rows
structure Mosts(K:ae)(w:World)(mg:Str->Option Value):Prop where
 at_:∃a,mg "MOST_ROWS"=some (.ref a)/\Xw K w a "places" (.int 14)/\Xw K w a "rides" (.int 80)/\Xw K w a "ways" (.int 40)/\Xw K w a "groups" (.int 300)
noncomputable def QJ:List (Str×Nat):=[("places",14),("rides",80),("ways",40),("groups",300)]
def Part(H:Hp)(v:V)(r:Option (List V)):Prop:=match r with
|none=>∃T,Th H v T/\T≠"list"/\T≠"tuple"
|some xs=>∃p,v=.ref p/\(H p=some (.lst xs)\/H p=some (.tup xs))
end TB
namespace L2
open PySem PySem.Spec PyProof.Rows
open AutoSeq1 (wpAny_loadPart')
section
variable {prog:Program}{w:World}{A:br}{E:Value->ah->Prop}{s:ah}
theorem Kj{it t:Addr}{i:Nat}{items:Array Value}{x:Value}{Q:Value->ah->Prop}(hit:s.heap.IsTupleIter it t i)(ht:s.heap.IsTuple t items)(hx:items[i]?=some x)(hQ:∀h',h'.IsTupleIter it t (i+1)->Heap.SameBut it s.heap h'->Q x {s with heap:=h'}):wpAny (model prog w) A (c_ (.ref it)) Q E s:=by obtain⟨o,ho,hc,hd⟩:=id hit;obtain⟨ol,hol,_,nl,hdl⟩:=id ht;unfold c_;refine aa (bf (name:=Str.ofString "__next__") hit.typeIs F.slot_tuple_iterator_next (a9 F.slot_tuple_iterator_next hit.typeIs F.entry_tuple_iterator_next ?_ (F.args_tuple_iterator_next_1 _)));show wpAny (model prog w) _ (field (.ref it) 0 >>= _) _ _ s;refine aa (cA (x:=.ref t) ho hd rfl ?_);show wpAny (model prog w) _ (if(Value.ref t==Value.none)=true then _ else _) _ _ s;rw[if_neg (by exact Bool.false_ne_true)];show wpAny (model prog w) _ (field (.ref it) 1 >>= _) _ _ s;refine aa (cA (x:=.int i 0) ho hd rfl ?_);show wpAny (model prog w) _ (seqItems? (.ref t) >>= _) _ _ s;refine aa (wpAny_seqItems hol hdl ?_);simp only[hx,Int.toNat_natCast];refine aa (bT ho hd (by simp) (af ⟨x,rfl,af (hQ _ ⟨_,Heap.get?_update_self _ ho (Obj.isFreed_of_fields (Obj.data_mapFields hd _)),(Obj.cls_mapFields ..).trans hc,by rw[Obj.data_mapFields hd];simp[bX]⟩ (Heap.SameBut.update ..))⟩))
theorem TQ{it t:Addr}{i:Nat}{items:Array Value}{Q:Value->ah->Prop}(hh:A.handled=none)(hit:s.heap.IsTupleIter it t i)(ht:s.heap.IsTuple t items)(hx:items[i]?=none)(hE:∀h' e,Heap.ExtBut it s.heap h'->(∃o,h'.get? e=some o/\o.cls=.type "StopIteration")->E (.ref e) {s with heap:=h'}):wpAny (model prog w) A (c_ (.ref it)) Q E s:=by
 obtain⟨o,ho,hc,hd⟩:=id hit;obtain⟨ol,hol,_,nl,hdl⟩:=id ht;unfold c_;refine aa (bf (name:=Str.ofString "__next__") hit.typeIs F.slot_tuple_iterator_next (a9 F.slot_tuple_iterator_next hit.typeIs F.entry_tuple_iterator_next ?_ (F.args_tuple_iterator_next_1 _)));show wpAny (model prog w) _ (field (.ref it) 0 >>= _) _ _ s;refine aa (cA (x:=.ref t) ho hd rfl ?_);show wpAny (model prog w) _ (if(Value.ref t==Value.none)=true then _ else _) _ _ s;rw[if_neg (by exact Bool.false_ne_true)];show wpAny (model prog w) _ (field (.ref it) 1 >>= _) _ _ s;refine aa (cA (x:=.int i 0) ho hd rfl ?_);show wpAny (model prog w) _ (seqItems? (.ref t) >>= _) _ _ s;refine aa (wpAny_seqItems hol hdl ?_);simp only[hx,Int.toNat_natCast];refine aa (dS (aa (bT ho hd (by simp) ?_)));show wpAny (model prog w) _ (newExc (.type "StopIteration") [] >>= _) _ _ _;refine aa ?_;simp only[newTuple,newExc];refine aa (aO (aa (m:=di _ _) (wpAny_of_eq (a:=Value.none) (by first|rfl|(simp only[di];rfl)) (aO ?_ (by size_fits)))) (by size_fits))
 simp only[raiseNew];refine aa (ia ?_);first|rw[show A.in1.handled=none from hh]|rw[hh]
 refine aa (af (wpAny_throw ?_));exact hE _ _ (((Heap.SameBut.update ..).extBut.push _).push _) ⟨_,Heap.get?_push_size _ rfl,rfl⟩
end
theorem G2{prog:Program}{w:World}{A:br}(hh:A.handled=none)(it t:Addr)(hne:t≠it)(items:Array Value):
  Draws prog w A it [it,t] items.size (λi v=>items[i]?=some v) (λi h=>h.IsTupleIter it t i/\h.IsTuple t items) where
 live:=λ_ _ st=>by obtain⟨⟨o,ho,_⟩,_⟩:=st;exact⟨o,ho⟩
 frame:=λ_ _ _ st hk=>by
  obtain⟨⟨o,ho,r⟩,⟨o2,ho2,r2⟩⟩:=st
  exact⟨⟨o,hk it (by simp) o ho,r⟩,⟨o2,hk t (by simp) o2 ho2,r2⟩⟩
 item:=λi s Q E hi st hQ=>Kj st.1 st.2 (x:=items[i]) (by simp[hi]) λh' hit' hs'=>hQ _ h' s.toks (by simp[hi]) ⟨hit',st.2.extBut hs'.extBut hne⟩ hs'
 done:=λs Q E st hE=>TQ hh st.1 st.2 (by simp) hE
theorem RM(l:Addr)(items:Array Value)(n:Nat)(dct:Option Addr)(sl:Array (Option Value)):Meets (bL.«enumerate.__new__» ⟨[.type "enumerate",.ref l],[]⟩) (λ_ R s=>s.heap.get? l=some {cls:=.type "tuple",dict:=dct,data:=.seq items n,slots:=sl} /\R (.ok (.ret (.ref (s.heap.push {cls:=.type "tuple_iterator",data:=.fields #[.ref l,.int 0 0]}).objs.size))) {s with heap:=(s.heap.push {cls:=.type "tuple_iterator",data:=.fields #[.ref l,.int 0 0]}).push {cls:=.type "enumerate",data:=.fields #[.none,.bool false,.ref s.heap.objs.size,bX 0,.none,.none]}}):=.of_wp λprog w A R s h=>by
  obtain⟨hp,g,d,tk,os⟩:=s;obtain⟨hl,h⟩:=h;have hsub:=sub_enumerate;have hT:Heap.IsTuple (Shared.heap ⟨hp,g,d,tk,os⟩) l items:=⟨_,hl,rfl,n,rfl⟩;wp_walk using gy hl;refine wpAny_stack_any λst=>af ?_;split
  ·rename_i c _ _ _ _ _;cases(c==Value.type "enumerate")<;>(wp_walk using gy hl,wpAny_pyIter_tuple hT;exact⟨_,rfl,h⟩)
  ·wp_walk using gy hl,wpAny_pyIter_tuple hT;exact⟨_,rfl,h⟩
theorem Gw{prog:Program}{w:World}{A:br}{E:Value->ah->Prop}{s:ah}{l:Addr}{items:Array Value}{Q:Value->ah->Prop}(hL:s.heap.IsTuple l items)(h:∀h',IsEnum h' (s.heap.objs.size+1) s.heap.objs.size 0 .none->h'.IsTupleIter s.heap.objs.size l 0->(∀b o,s.heap.get? b=some o->h'.get? b=some o)->Q (.ref (s.heap.objs.size+1)) {s with heap:=h'}):wpAny (model prog w) A (call (.type "enumerate") [.ref l]) Q E s:=by
 obtain⟨⟨c,dct,dt,sl⟩,hl,hc,n,hd⟩:=hL;simp only at hc hd;subst hc hd;refine callType_new F.called_enumerate (by decide) (F.typeCall_enumerate_1 _) (F.newCall_enumerate_1 _) (λobj=>F.args_object_init_2 obj _) F.entry_enumerate_new (RM l items n dct sl) ⟨hl,?_⟩;have hz:(s.heap.push {cls:=.type "tuple_iterator",data:=.fields #[.ref l,.int 0 0]}).objs.size=s.heap.objs.size+1:=Heap.size_push ..;show _/\_;rw[hz];have he:IsEnum ((s.heap.push {cls:=.type "tuple_iterator",data:=.fields #[.ref l,.int 0 0]}).push {cls:=.type "enumerate",data:=.fields #[.none,.bool false,.ref s.heap.objs.size,bX 0,.none,.none]}) (s.heap.objs.size+1) s.heap.objs.size 0 .none:=by have:=Heap.get?_push_size (s.heap.push {cls:=.type "tuple_iterator",data:=.fields #[.ref l,.int 0 0]}) (o:={cls:=.type "enumerate",data:=.fields #[.none,.bool false,.ref s.heap.objs.size,bX 0,.none,.none]}) rfl;rwa [hz]at this
 exact⟨⟨_,he,rfl⟩,h _ he ⟨_,Heap.get?_push_of_some _ (Heap.get?_push_size _ rfl),rfl,rfl⟩ λb o x=>Heap.get?_push_of_some _ (Heap.get?_push_of_some _ x)⟩
noncomputable def Iten(l:Addr):It:=⟨λi H=>∃xs,H l=some (.tup xs)/\i<xs.length,λi H x H'=>∃(T:Addr)(xs:List V)(y:V),H T=none/\H l=some (.tup xs)/\xs[i]?=some y/\x=.ref T/\H'=upd H T (.tup [.int i,y]),λi H=>∃xs,H l=some (.tup xs)/\i=xs.length⟩
theorem UG{P:Program}{w:World}{K:ae}{es:List Expr}{k:Nat}{pt:Pos}(l e it:Addr)(hei:e≠it)(hle:l≠e)(hli:l≠it):
  Turn P w K (.Tuple es k pt) (Iten l) [e,it] e (λi h=>(∃old,IsEnum h e it i old)/\h.IsTupleIter it l i) where
 mem:=by simp
 obj:=λi h st b hb=>by
  obtain⟨⟨old,he⟩,o,ho,c,d⟩:=st
  have hb':b=e\/b=it:=by simpa using hb
  rcases hb' with rfl|rfl
  ·exact⟨_,he,λv z=>by cases z⟩
  ·exact⟨o,ho,λv z=>by rw[d]at z;cases z⟩
 keep:=λi h h' st kk=>by
  obtain⟨⟨old,he⟩,o,ho,r⟩:=st
  exact⟨⟨old,kk e (by simp) _ he⟩,o,kk it (by simp) o ho,r⟩
 item:=by
  intro X hP hw hK hc i pins s σ H E I hf st hg
  subst hP hw hK
  obtain⟨xs,hx,hi⟩:=hg
  obtain⟨⟨old,he⟩,hs⟩:=st
  obtain⟨its,rv,pl,_⟩:=I.tuple (SqT.of hx)
  have hlen:=rv.length
  have D:=G2 (prog:=X.prog) (w:=X.w) (A:=X.A.in1) (I.ok.hd hc) it l hli its.toArray
  have W:=fx D e hei (by simp[hei,bR hle]) (by simp)
  refine W.item i s _ _ (by simp only[ao];omega) ⟨⟨old,he⟩,hs,pl⟩ λT vals h' tk hv hT ht hm kk=>?_
  obtain⟨tk',u,hu,rfl⟩:=hv
  obtain⟨y,hy⟩:∃y,xs[i]?=some y:=⟨xs[i],gE hi⟩
  obtain⟨u2,hu2,ru⟩:=rv.get hy
  have hu':its[i]?=some u:=by simpa using hu
  rw[hu']at hu2;cases hu2
  refine⟨_,rfl,?_⟩
  refine W.go es k pt i T {s with heap:=h',toks:=tk} _ _ hm λh2 st2 kk2=>?_
  have hTn:H T=none:=I.hok.fresh hT
  have hap:=W.apart i T h' hm
  have hb2:∀b,b∉[e,it]->∀o,s.heap.get? b=some o->h2.get? b=some o:=λb hb o q=>kk2 b o hb (kk b o hb q)
  have nb:∀b u,H b=some u->b∉[e,it]:=λb u q hb=>by rw[(hf b hb).1]at q;cases q
  have I1:Inv X pins σ (upd H T (.tup [.int i,y])) {s with heap:=h2,toks:=tk}:=by
   refine I.step (g':=s.gens) (d':=s.drawn) (ch:=[e,it]) (λb hb=>?_) (λb o _ _ hb q _=>hb2 b hb o q) (λb o _ _ hb q _=>⟨o.slots,hb2 b hb o q⟩)
    (λb o hb q n=>?_) (λb o hb q=>⟨o,hb2 b hb o q⟩) (λb xs q=>?_) (λb o u q=>?_) (λb ps q=>?_) (λm hm=>?_) ?_ I.bare
   ·obtain⟨g0,g1,g2,g3,g4,g5⟩:=hf b hb
    exact⟨g3,g1,g4,g5⟩
   ·rw[Zc (Nat.ne_of_lt (Nat.lt_of_lt_of_le (Heap.lt_size q) hT))];exact n
   ·rw[Zc (ne_of_none q hTn)];exact q
   ·rw[Zc (ne_of_none q hTn)];exact q
   ·exact⟨#[],by rw[Zc (ne_of_none q hTn),q];simp⟩
   ·obtain⟨o,es',ep,ho,r⟩:=hm
    refine⟨o,es',ep,hb2 _ ?_ o ho,r⟩
    intro hb
    obtain⟨g0,g1,_⟩:=hf _ hb
    exact g1 rfl
   ·intro b ob q
    by_cases hb:b=T
    ·subst hb
     rw[Zd]at q
     cases q
     obtain⟨o,h1,h2',h3⟩:=ht
     exact⟨zl,[.int i tk',u],.cons ⟨_,rfl⟩ (.cons ru .nil),⟨o,kk2 _ _ hap h1,h2',h3⟩⟩
    ·rw[Zc hb]at q
     refine(I.hok b ob q).stay (λc' v hc' q'=>hb2 c' ?_ v q') (λc' q'=>by rw[Zc (ne_of_none q' hTn)];exact q') λc' xs q'=>by rw[Zc (ne_of_none q' hTn)];exact q'
     rcases hc' with rfl|hc'
     ·exact nb _ _ q
     ·exact nb _ _ hc'
  refine⟨.ref T,_,I1,rfl,⟨T,xs,y,hTn,hx,hy,rfl,rfl⟩,⟨st2.1,st2.2.1⟩,λb hb=>?_⟩
  rw[Zc]
  ·exact(hf b hb).1
  ·rintro rfl
   exact hap hb
 done:=by
  intro X hP hw hK hc i pins s σ H E I hf st hg
  subst hP hw hK
  obtain⟨xs,hx,hi⟩:=hg
  obtain⟨⟨old,he⟩,hs⟩:=st
  obtain⟨its,rv,pl,_⟩:=I.tuple (SqT.of hx)
  have hlen:=rv.length
  have D:=G2 (prog:=X.prog) (w:=X.w) (A:=X.A.in1) (I.ok.hd hc) it l hli its.toArray
  have W:=fx D e hei (by simp[hei,bR hle]) (by simp)
  have ei:i=its.toArray.size:=by simp only[ao];omega
  subst ei
  refine W.done s _ _ ⟨⟨old,he⟩,hs,pl⟩ λh' tk kk=>⟨rfl,?_⟩
  have nb:∀b u,H b=some u->b∉[e,it]:=λb u q hb=>by rw[(hf b hb).1]at q;cases q
  refine I.step (g':=s.gens) (d':=s.drawn) (ch:=[e,it]) (λb hb=>?_) (λb o _ _ hb q _=>kk b o hb q) (λb o _ _ hb q _=>⟨o.slots,kk b o hb q⟩)
   (λb o hb q n=>n) (λb o hb q=>⟨o,kk b o hb q⟩) (λb xs q=>q) (λb o u q=>q) (λb ps q=>⟨#[],by rw[q];simp⟩) (λm hm=>?_) (λb u q=>?_) I.bare
  ·obtain⟨g0,g1,g2,g3,g4,g5⟩:=hf b hb
   exact⟨g3,g1,g4,g5⟩
  ·obtain⟨o,es',ep,ho,r⟩:=hm
   refine⟨o,es',ep,kk _ o ?_ ho,r⟩
   intro hb
   obtain⟨g0,g1,_⟩:=hf _ hb
   exact g1 rfl
  ·refine(I.hok b u q).stay (λc' v hc' q'=>kk c' v ?_ q') (λ_ q'=>q') λ_ _ q'=>q'
   rcases hc' with rfl|hc'
   ·exact nb _ _ q
   ·exact nb _ _ hc'
 self:=λA i s Q E st h=>by
  obtain⟨⟨old,he⟩,_⟩:=st
  exact dM he h
section
variable {X:Cx}
noncomputable def iEnT(ta:TA):TI:=λσ H R=>ta σ H λvs H1=>∃(l:Addr)(xs:List V),vs=[.ref l]/\H1 l=some (.tup xs)/\R (Iten l) H1
theorem Vg{a:Expr}{ta:TA}{p pos pt:Pos}{es:List Expr}{k:Nat}(hg:Gl X "enumerate")(hm:X.mg "enumerate"=none)(ha:PA X [a] ta)(hb:bt "enumerate"=some (.type "enumerate"))(hs:az [a] X.env=[(false,eval a X.env)]:=by rfl):PI X (.Tuple es k pt) (.Call (.Name "enumerate" p) [a] [] pos) (iEnT ta):=by
 intro pins s σ H R I h;refine Call_ (Xp I hg hm hb (bc (thn (ha pos pins s σ H _ I h) λus s1 hZ=>?_) hs rfl));obtain⟨vs,H1,I1,r1,q1⟩:=hZ;obtain⟨l,xs,e,hx,q⟩:=q1;subst e;cases r1 with
|cons r rr=>
  cases rr;cases r;obtain⟨its,rv,pl,_⟩:=I1.tuple (SqT.of hx);refine Gw pl λh' he hst kk=>?_;have I2:Inv X pins σ H1 {s1 with heap:=h'}:=I1.kept (t':=s1.toks) kk;refine dM he ?_;have lt:l<s1.heap.objs.size:=I1.hok.lt hx;refine⟨s1.heap.objs.size+1,[s1.heap.objs.size+1,s1.heap.objs.size],_,_,H1,rfl,I2,UG l (s1.heap.objs.size+1) s1.heap.objs.size (Nat.succ_ne_self _) (Nat.ne_of_lt (Nat.lt_succ_of_lt lt)) (Nat.ne_of_lt lt),⟨⟨_,he⟩,hst⟩,λb hb=>?_,q⟩;have e:b=s1.heap.objs.size+1\/b=s1.heap.objs.size:=by simpa using hb
  rcases e with e|e<;>subst e
  ·exact I1.fpOk (Nat.le_succ _) (I1.hok.fresh (Nat.le_succ _))
  ·exact I1.fpOk (Nat.le_refl _) (I1.hok.fresh (Nat.le_refl _))
end
theorem UD:bt "enumerate"=some (.type "enumerate"):=by decide +kernel
def tOrX(K:ae)(ta tb:TE):TE:=λσ H Q=>ta σ H λx H1=>∃k,TruV K x H1 k/\if k=true then Q x H1 else tb σ H1 Q
theorem Mu{X:Cx}{a b:Expr}{rest:List Expr}{pos:Pos}{ta tb:TE}(ha:PE X a ta)(hb:PE X (.BoolOp .Or (b::rest) pos) tb):PE X (.BoolOp .Or (a::b::rest) pos) (tOrX X.K ta tb):=by
 intro pins s σ H Q I h;refine BoolOp_or (thn (ha pins s σ H _ I h) λv s1 hZ=>?_);obtain⟨x,H1,I1,r1,k,q1,q2⟩:=hZ;refine thn (Lh pins s1 σ H1 x v (λk' H'=>H'=H1/\k'=k) I1 r1 ⟨k,q1,rfl,rfl⟩) λc s2 hZ=>?_;obtain⟨H2,I2,e1,e2⟩:=hZ;subst e1 e2;cases c with
|false=>exact hb pins s2 σ H2 Q I2 q2
|true=>exact⟨x,H2,I2,r1,q2⟩
def Zi(b:Addr)(H H':Hp):Prop:=∀c o,H c=some o->c≠b->H' c=some o
theorem Zi.refl(b:Addr)(H:Hp):Zi b H H:=λ_ _ h _=>h
theorem Zi.trans{b:Addr}{H H1 H2:Hp}(x:Zi b H H1)(y:Zi b H1 H2):Zi b H H2:=λc o h hc=>y c o (x c o h hc) hc
theorem Zi.upd{b:Addr}{H H1:Hp}{o:HO}(x:Zi b H H1):Zi b H (upd H1 b o):=λc u h hc=>by rw[Zc hc];exact x c u h hc
theorem Zi.of{b:Addr}{H H1:Hp}(x:Same H H1):Zi b H H1:=λc u h _=>x c u h
theorem Th.sameB{H H':Hp}{t C dx:Addr}{fs:List (Str×V)}(ht:H t=some (.ins C dx fs))(s:Zi t H H'){v:V}{T:String}(h:Th H v T):Th H' v T:=by
 cases h with
|non=>exact .non
|bl b=>exact .bl b
|int i=>exact .int i
|str z h=>exact .str z h
|lst e=>exact .lst (s _ _ e (ne_of e ht (by intro z;cases z)))
|tup e=>exact .tup (s _ _ e (ne_of e ht (by intro z;cases z)))
|dK e=>exact .dK (s _ _ e (ne_of e ht (by intro z;cases z)))
theorem Z8{J:It}{g:TG}{tb:TS}{D:Ends}{σ:L2.St}{H:Hp}(n:Nat)(Pv:Nat->L2.St->Hp->Prop)(h0:Pv 0 σ H)(hgo:∀i σ H,i<n->Pv i σ H->J.go i H)(hstop:∀σ H,Pv n σ H->J.stop n H)(hs:∀i σ H x H',i<n->Pv i σ H->J.yld i H x H'->g x σ H' λσ2 H2=>tb {D with nx:=Pv (i+1),ct:=Pv (i+1),bk:=D.nx} σ2 H2)(hd:∀σ H,Pv n σ H->D.nx σ H):∃W:Nat->Nat->L2.St->Hp->Prop,(∃m,W 0 m σ H)/\∀i m σ H,W i m σ H ->(J.stop i H/\D.nx σ H)\/(J.go i H/\∃N:L2.St->Hp->Prop,(∀σ' H',N σ' H'->∃m',m'<m/\W (i+1) m' σ' H')/\∀x H',J.yld i H x H'->g x σ H' λσ2 H2=>tb {D with nx:=N,ct:=N,bk:=D.nx} σ2 H2):=by
 refine⟨λi m σ H=>m=n-i/\i<=n/\Pv i σ H,⟨n,rfl,Nat.zero_le _,h0⟩,?_⟩;rintro i m σ H ⟨rfl,hi,p⟩;by_cases hlt:i<n
 ·exact .inr ⟨hgo i σ H hlt p,Pv (i+1),λσ' H' p'=>⟨n-(i+1),by omega,rfl,hlt,p'⟩,λx H' y=>hs i σ H x H' hlt p y⟩
 ·have e:i=n:=by omega
  subst e;exact .inl ⟨hstop σ H p,hd σ H p⟩
end L2
namespace TB
open PySem L2 PySem.Spec PyProof.Rows
theorem Row.sameB{H H':Hp}{t C dx:Addr}{fs:List (Str×V)}(ht:H t=some (.ins C dx fs))(s:Zi t H H'){v:V}{r:Option (List V)}(h:Row H v r):Row H' v r:=by
 cases r with
|none=>obtain⟨T,th,hT⟩:=h;exact⟨T,th.sameB ht s,hT⟩
|some xs=>obtain⟨p,rfl,hp,hx⟩:=h;exact⟨p,rfl,s _ _ hp (ne_of hp ht (by intro z;cases z)),λx hx'=>let ⟨T,th⟩:=hx x hx';⟨T,th.sameB ht s⟩⟩
def YT(H:Hp)(xs:List V)(rs:List (Option (List V))):Prop:=xs.length=rs.length/\∀(i:Nat)x r,xs[i]?=some x->rs[i]?=some r->Row H x r
noncomputable def XR:Nat->List (Key×V)->List (Option (List V))->Sum (Nat×V) (List (Key×V))
|_,kvs,[]=>.inr kvs
|i,kvs,r::rs=>
  if begR false 2 kvs r≠.non then .inl (i,begR false 2 kvs r)else match r with
  |some [.str n,room]=>if Yq room≠.non then .inl (i,Yq room)else XR (i+1) (putK kvs (.inr n) room) rs
  |_=>.inl (i,.str "form")
theorem Pr{i:Nat}{kvs:List (Key×V)}{r:Option (List V)}{rs:List (Option (List V))}(h:begR false 2 kvs r≠.non):XR i kvs (r::rs)=.inl (i,begR false 2 kvs r):=by unfold XR;rw[if_pos h]
theorem WH{g:Bool}{n:Nat}{kvs:List (Key×V)}{r:Option (List V)}(h:begR g n kvs r=.non):∃xs y,r=some xs/\xs.length=n/\xs.getD 0 .non=.str y:=by
 cases r with
|none=>cases h
|some xs=>
  have h':begV g n kvs xs=.non:=h;unfold begV at h';by_cases h1:xs.length≠n
  ·rw[if_pos h1]at h';cases h'
  ·rw[if_neg h1]at h';by_cases h2:Z3 g (xs.getD 0 .non)=false
   ·rw[if_pos h2]at h';cases h'
   ·have h2':Z3 g (xs.getD 0 .non)=true:=by simpa using h2
    unfold Z3 at h2';cases e:xs.getD 0 .non with
   |str y=>exact⟨xs,y,rfl,by omega,e⟩
   |_=>rw[e]at h2';split at h2'<;>cases h2'
noncomputable def nameOf(ys:List V):Str:=match ys.getD 0 .non with
|.str y=>y
|_=>Str.empty
noncomputable def X4(g:Bool)(n:Nat)(why:List V->V):Nat->List (Key×V)->List (V×Option (List V))->Sum (Nat×V) (List (Key×V))
|_,kvs,[]=>.inr kvs
|i,kvs,(x,r)::rs=>
  if begR g n kvs r≠.non then .inl (i,begR g n kvs r)else match r with
  |some ys=>if why ys≠.non then .inl (i,why ys)else X4 g n why (i+1) (putK kvs (.inr (nameOf ys)) x) rs
  |none=>.inl (i,.str "form")
theorem SW{g:Bool}{n:Nat}{why:List V->V}{i:Nat}{kvs:List (Key×V)}{x:V}{r:Option (List V)}{rs:List (V×Option (List V))}(h:begR g n kvs r≠.non):X4 g n why i kvs ((x,r)::rs)=.inl (i,begR g n kvs r):=by unfold X4;rw[if_pos h]
theorem Rf{g:Bool}{n:Nat}{why:List V->V}{i:Nat}{kvs:List (Key×V)}{x:V}{ys:List V}{rs:List (V×Option (List V))}(h:begR g n kvs (some ys)=.non):X4 g n why i kvs ((x,some ys)::rs)=if why ys≠.non then .inl (i,why ys)else X4 g n why (i+1) (putK kvs (.inr (nameOf ys)) x) rs:=by
 conv=>lhs;unfold X4
 rw[if_neg (λz=>z h)]
noncomputable def at_(ys:List V)(i:Nat):V:=ys.getD i .non
noncomputable def Tc(kvs:List (Key×V))(n:Int)(ys:List V):V:=Vc kvs n (at_ ys 1) (at_ ys 2) (at_ ys 3) (at_ ys 4) (at_ ys 5)
noncomputable def wayW(kvs:List (Key×V))(ys:List V):V:=wayV kvs (at_ ys 1) (at_ ys 2) (at_ ys 3) (at_ ys 4)
noncomputable def V0(kvs:List (Key×V))(n pp:Int)(ys:List V):V:=Xg kvs n pp (at_ ys 1) (at_ ys 2) (at_ ys 3)
noncomputable def ZF(ys:List V):Int:=match ys.getD 3 .non with
|.int i=>i
|_=>0
noncomputable def Xs(kvsP:List (Key×V))(nT:Int):Nat->Int->List (Key×V)->List (V×Option (List V))->Sum (Nat×V) (List (Key×V))
|_,_,kvs,[]=>.inr kvs
|i,pp,kvs,(x,r)::rs=>
  if begR true 4 kvs r≠.non then .inl (i,begR true 4 kvs r)else match r with
  |some ys=>if V0 kvsP nT pp ys≠.non then .inl (i,V0 kvsP nT pp ys)else Xs kvsP nT (i+1) (pp+ZF ys) (putK kvs (.inr (nameOf ys)) x) rs
  |none=>.inl (i,.str "form")
section
variable {kvsP:List (Key×V)}{nT pp:Int}{i:Nat}{kvs:List (Key×V)}{x:V}{rs:List (V×Option (List V))}
theorem NM{ys:List V}(h:begR true 4 kvs (some ys)=.non):Xs kvsP nT i pp kvs ((x,some ys)::rs)=if V0 kvsP nT pp ys≠.non then .inl (i,V0 kvsP nT pp ys)else Xs kvsP nT (i+1) (pp+ZF ys) (putK kvs (.inr (nameOf ys)) x) rs:=by
 conv=>lhs;unfold Xs
 rw[if_neg (λz=>z h)]
end
noncomputable abbrev PR:=Option (List V×List (Option (List V)))
def WJ(H:Hp)(v:V)(r:PR):Prop:=match r with
|none=>Part H v none
|some (xs,rs)=>Part H v (some xs)/\YT H xs rs
theorem YT.sameB{H H':Hp}{t C dx:Addr}{fs:List (Str×V)}(ht:H t=some (.ins C dx fs))(s:Zi t H H'){xs:List V}{rs:List (Option (List V))}(h:YT H xs rs):YT H' xs rs:=⟨h.1,λi x r a b=>(h.2 i x r a b).sameB ht s⟩
noncomputable def TC(n:Nat)(go:List V->List (Option (List V))->Sum (Nat×V) (List (Key×V)))(r:PR):Sum (V×V) (List (Key×V)):=match r with
|none=>.inl (.non,.str "form")
|some (xs,rs)=>if xs.length>n then .inl (.int n,.str "many")else match go xs rs with
 |.inl (i,why)=>.inl (.int i,why)
 |.inr kvs=>.inr kvs
noncomputable def goP(_:List V)(rs:List (Option (List V))):Sum (Nat×V) (List (Key×V)):=XR 0 [] rs
noncomputable def goR(k1:List (Key×V))(n:Int)(xs:List V)(rs:List (Option (List V))):Sum (Nat×V) (List (Key×V)):=X4 false 6 (Tc k1 n) 0 [] (xs.zip rs)
noncomputable def goW(k1:List (Key×V))(xs:List V)(rs:List (Option (List V))):Sum (Nat×V) (List (Key×V)):=X4 false 5 (wayW k1) 0 [] (xs.zip rs)
noncomputable def goG(k1:List (Key×V))(n:Int)(xs:List V)(rs:List (Option (List V))):Sum (Nat×V) (List (Key×V)):=Xs k1 n 0 0 [] (xs.zip rs)
noncomputable abbrev Ks:=List (Key×V)×List (Key×V)×List (Key×V)×List (Key×V)
def Ju(H:Hp)(fs:List (Str×V))(f g:Str)(r:PR)(k:List (Key×V)):Prop:=∃l d xs rs,fs.lookup f=some (.ref l)/\fs.lookup g=some (.ref d)/\r=some (xs,rs)/\H l=some (.tup xs)/\H d=some (.dK k)
structure TabOf(H:Hp)(C t:Addr)(fs:List (Str×V))(n:Int)(r1 r2 r3 r4:PR)(k:Ks):Prop where
 tab:Tab H C t fs
 turns:fs.lookup ("turns":Str)=some (.int n)
 p:Ju H fs "places" "room_by_place" r1 k.1
 r:Ju H fs "rides" "ride_by_name" r2 k.2.1
 w:Ju H fs "ways" "way_by_name" r3 k.2.2.1
 g:Ju H fs "groups" "group_by_name" r4 k.2.2.2
end TB
namespace L2
open PySem PySem.Spec PyProof.Rows
section
variable {X:Cx}{CX:CXT}{k:Nat}{C:Addr}{ps:List Str}{sp:Sp}{E:XK}{m:Str}{pos apos:Pos}{o:Expr}{ta:TE}
theorem Nm{pl:Sem Bool}(c:CanM X.prog X.w X.K X.mg X.base CX k C m ps sp)(cl:Cls X.K C)(hx:Passes CX X E)(hr:Room k X.A)(he:PE X o ta)
  (ht:eval (.Call (.Attribute o m apos) [] [] pos) X.env=(do
   let ov <-eval o X.env
   g7 apos.atName
   let (f,first) <-fB [ov] (fF ov m pl)
   gW pos f first (b8 pos (az [] X.env)) (eO pos (cV [] X.env))):=by rfl):
  PE X (.Call (.Attribute o m apos) [] [] pos) (M6 C m sp [] E ta tNil):=by
 obtain⟨f,fd,F,me,b⟩:=c
 exact Tw he cl me F hr b .nil hx ht
end
section
variable {prog:Program}{w:World}{A:br}{E:Value->ah->Prop}
theorem G3{it l:Addr}{items:Array Value}(hne:l≠it):∀(n i:Nat)(s:ah)(Q:List Value->ah->Prop),s.heap.IsListIter it l i->s.heap.IsList l items->i+n<=items.size ->(∀h',h'.IsListIter it l (i+n)->Heap.SameBut it s.heap h'->Q ((items.toList.drop i).take n) {s with heap:=h'})->wpAny (model prog w) A (draw (.ref it) n) Q E s
|0,i,s,Q,hit,_,_,hQ=>by show wpAny _ _ (pure []) Q E s;exact af (by simpa using hQ s.heap hit (Heap.SameBut.refl ..))
|n+1,i,s,Q,hit,hl,hle,hQ=>by
  have hlt:i<items.size:=by omega
  show wpAny _ _ (gU (.ref it) >>= _) Q E s;refine aa (wpAny_pyNext_list_item hit hl (x:=items[i]) (by simp[hlt]) λh₁ hit₁ hs₁=>?_);refine aa (aX (G3 hne n (i+1) _ _ hit₁ (hl.at λo e=>hs₁.extBut _ _ hne e) (by omega) λh₂ hit₂ hs₂=>af ?_));have hd:items.toList.drop i=items[i]::items.toList.drop (i+1):=by simp[List.drop_eq_getElem_cons,hlt]
  have:=hQ h₂ (by rw[show i+(n+1)=i+1+n by omega];exact hit₂) (hs₁.trans hs₂);rw[hd,List.take_succ_cons]at this;exact this
theorem VO{s:ah}{t:Addr}{items:Array Value}{Q:List Value->ah->Prop}(hh:A.handled=none)(ht:s.heap.IsList t items)(hQ:∀h',Heap.ExtBut s.heap.objs.size s.heap h'->Q items.toList {s with heap:=h'}):wpAny (model prog w) A (unpackItems (.ref t) items.size none) Q E s:=by
 have hlt:t≠s.heap.objs.size:=by obtain⟨o,ho,_⟩:=ht;exact Nat.ne_of_lt (Heap.lt_size ho)
 unfold unpackItems;refine aa ?_
 ·unfold notIterableAtAll;refine aa (fw ht.typeIs slot_list_iter.lookup ?_);refine af ?_;simp only[Bool.false_eq_true,if_false];refine aa (aX (wpAny_pyIter_list ht ?_));have ht0:(s.heap.push {cls:=.type "list_iterator",data:=.fields #[.ref t,.int 0 0]}).IsList t items:=ht.at λo e=>Heap.get?_push_of_some _ e;refine aa (aX (G3 hlt items.size 0 _ _ ⟨_,Heap.get?_push_size _ rfl,rfl,rfl⟩ ht0 (by omega) λh₁ hit₁ hs₁=>?_));have hall:List.take items.size (List.drop 0 items.toList)=items.toList:=by rw[gk];exact bj (by simp)
  rw[hall];rw[if_neg (by simp)];have ht₁:h₁.IsList t items:=ht0.at λo e=>hs₁.extBut _ _ hlt e;refine aa (aX (wpAny_pyNext_list_end hh hit₁ ht₁ (by simp) λh₂ he₂=>?_));simp only[Option.isSome_none,Bool.false_eq_true,if_false];refine af (hQ h₂ λb o hb e=>he₂ b o hb (hs₁.extBut b o hb (Heap.get?_push_of_some _ e)))
theorem VJ{s:ah}{env:Env}{elts:List Expr}{x1}{pos:Pos}{t:Addr}{items:Array Value}{Q:Unit->ah->Prop}(hh:A.handled=none)(ht:s.heap.IsList t items)(hn:(cJ elts env).length=items.size)(hstar:(cJ elts env).findIdx? (·.1)=none)(h:∀h',Heap.ExtBut s.heap.objs.size s.heap h'->wpAny (model prog w) A (assignInOrder ((cJ elts env).map (·.2)) items.toList) Q E {s with heap:=h'}):wpAny (model prog w) A (assign (.Tuple elts x1 pos) env (.ref t)) Q E s:=by rw[assign_Tuple];refine aa (h_ ?_);unfold unpack;rw[hn,hstar];exact aa (aX (VO hh ht h))
end
section
variable {X:Cx}{pos:Pos}
def gLst(K:ae)(n:Nat)(t:TGs):TG:=λv σ H Q=>∃a xs,v=.ref a/\SqL K H a xs/\xs.length=n/\t xs σ H Q
theorem LA{es:List Expr}{k:Nat}{t:TGs}{n:Nat}(hc:X.calm=true)(h:PGs X es t)(hn:(cJ es X.env).length=n:=by rfl)(hst:(cJ es X.env).findIdx? (·.1)=none:=by rfl):PG X (.Tuple es k pos) (gLst X.K n t):=by intro pins s σ H v u Q I r hw;obtain⟨a,xs,e1,hq,hl,hw⟩:=hw;subst e1;cases r;obtain⟨its,rv,ht,hz⟩:=I.list hq;refine VJ (I.ok.hd hc) ht.isList (by simp[hn,<-hl,rv.length]) hst λh' hx=>?_;have I1:Inv X pins σ H {s with heap:=h'}:=I.kept (t':=s.toks) λb o e=>hx b o (Nat.ne_of_lt (Heap.lt_size e)) e;exact h pins _ σ H xs _ Q I1 (by simpa using rv) hw
noncomputable def rLen(K:ae):List V->Hp->VK->Prop:=λxs H Q=>∃p ys,xs=[.ref p]/\(SqL K H p ys\/SqT K H p ys)/\Q (.int ys.length) H
theorem ZI:Xx X (.builtin "len") (rLen X.K):=Ja
end
mutual
inductive Is(H:Hp):V->PyData->Prop
|non:Is H .non .none
|bl (b:Bool):Is H (.bl b) (.bool b)
|int (i:Int):Is H (.int i) (.int i)
|str (z:Str):Is H (.str z) (.str z)
|lst {a:Addr}{xs:List V}{ds:List PyData} (e:H a=some (.lst xs)) (r:IsAll H xs ds):Is H (.ref a) (.list ds)
|tup {a:Addr}{xs:List V}{ds:List PyData} (e:H a=some (.tup xs)) (r:IsAll H xs ds):Is H (.ref a) (.tuple ds)
inductive IsAll(H:Hp):List V->List PyData->Prop
|nil:IsAll H [] []
|cons {x:V}{xs:List V}{d:PyData}{ds:List PyData} (h:Is H x d) (r:IsAll H xs ds):IsAll H (x::xs) (d::ds)
end
section
variable {P:Program}{w:World}{H:Hp}{h:Heap}
mutual
theorem Is.reads(ok:HOk P w H h):∀{x:V}{d:PyData}{v:Value},Is H x d->RelV x v->∃as,Reads h v d as
|_,_,_,.non,r=>by cases r;exact⟨_,.none⟩
|_,_,_,.bl b,r=>by cases r;exact⟨_,.bool b⟩
|_,_,_,.int i,r=>by obtain⟨t,rfl⟩:=r;exact⟨_,.int i t⟩
|_,_,_,.str z,r=>by obtain⟨t,rfl⟩:=r;exact⟨_,.str z t⟩
|_,_,_,.lst e q,r=>by cases r;obtain⟨_,its,n,rv,e2⟩:=ok _ _ e;obtain⟨as,ra⟩:=IsAll.reads ok q rv;exact⟨_,.list e2 rfl rfl (by simpa using ra)⟩
|_,_,_,.tup e q,r=>by cases r;obtain⟨_,its,rv,o,e2,hc,n,hd⟩:=ok _ _ e;obtain⟨as,ra⟩:=IsAll.reads ok q rv;exact⟨_,.tuple e2 hc hd (by simpa using ra)⟩
theorem IsAll.reads(ok:HOk P w H h):∀{xs:List V}{ds:List PyData}{us:List Value},IsAll H xs ds->Vals xs us->∃as,ReadsAll h us ds as
|_,_,_,.nil,r=>by cases r;exact⟨_,.nil⟩
|_,_,_,.cons a b,r=>by
  cases r with
 |cons r1 r2=>obtain⟨as,h1⟩:=Is.reads ok a r1;obtain⟨bs,h2⟩:=IsAll.reads ok b r2;exact⟨_,.cons h1 h2⟩
end
mutual
theorem Is.nodict:∀{x:V}{d:PyData},Is H x d->d.hasDict=false
|_,_,.non=>by simp only[PyData.hasDict]
|_,_,.bl b=>by simp only[PyData.hasDict]
|_,_,.int i=>by simp only[PyData.hasDict]
|_,_,.str z=>by simp only[PyData.hasDict]
|_,_,.lst e q=>by simp only[PyData.hasDict];exact IsAll.nodict q
|_,_,.tup e q=>by simp only[PyData.hasDict];exact IsAll.nodict q
theorem IsAll.nodict:∀{xs:List V}{ds:List PyData},IsAll H xs ds->PyData.hasDictAll ds=false
|_,_,.nil=>by simp only[PyData.hasDictAll]
|_,_,.cons a b=>by simp only[PyData.hasDictAll,Is.nodict a,IsAll.nodict b,Bool.or_false]
end
mutual
theorem Is.same{H':Hp}(s:Same H H'):∀{x:V}{d:PyData},Is H x d->Is H' x d
|_,_,.non=>.non
|_,_,.bl b=>.bl b
|_,_,.int i=>.int i
|_,_,.str z=>.str z
|_,_,.lst e q=>.lst (s _ _ e) (IsAll.same s q)
|_,_,.tup e q=>.tup (s _ _ e) (IsAll.same s q)
theorem IsAll.same{H':Hp}(s:Same H H'):∀{xs:List V}{ds:List PyData},IsAll H xs ds->IsAll H' xs ds
|_,_,.nil=>.nil
|_,_,.cons a b=>.cons (Is.same s a) (IsAll.same s b)
end
end
theorem Zi.new'{b l:Addr}{H H1:Hp}{o:HO}(x:Zi b H H1)(hl:H1 l=none):Zi b H (L2.upd H1 l o):=λc u h hc=>by rw[Zc (ne_of_none (x c u h hc) hl)];exact x c u h hc
theorem Zi.put{b:Addr}{H H1:Hp}{o:HO}(x:Zi b H H1):Zi b H (L2.upd H1 b o):=λc u h hc=>by rw[Zc hc];exact x c u h hc
theorem at_of{α:Type}{xs:List α}{r:Int}(h0:0<=r)(h1:r<(xs.length:Int)):∃v,atI xs r=some v/\v∈xs:=by
 have e1:((r.toNat:Nat):Int)=r:=Int.toNat_of_nonneg h0;have hr':r.toNat<xs.length:=by omega
 refine⟨xs[r.toNat],?_,aL hr'⟩;have h:=Zl (xs:=xs) (gE hr');rwa [e1]at h
end L2
namespace WD
open PySem L2 PySem.Spec PyProof.Rows TB
noncomputable def Blts:List Str:=["len","range","int","list","tuple","zip","sum","repr","max","isinstance","bool","str","enumerate"]
theorem bm{mg:Str->Option Value}(B:∀x∈Blts,mg x=none){x:Str}(h:x∈Blts:=by decide +kernel):mg x=none:=B x h
noncomputable def boxV(x y z:Int):HO:=.lst [.int x,.int y,.int z]
def Zz(H:Hp)(b:Addr):Prop:=∃x y z:Int,H b=some (boxV x y z)
theorem Zz.new{H:Hp}{b l:Addr}{o:HO}(h:Zz H b)(hl:H l=none):Zz (upd H l o) b:=by obtain⟨x,y,z,e⟩:=h;exact⟨x,y,z,by rw[Zc (ne_of_none e hl)];exact e⟩
theorem Zz.ne{H:Hp}{b l:Addr}(h:Zz H b)(hl:H l=none):l≠b:=by obtain⟨x,y,z,e⟩:=h;exact(ne_of_none e hl).symm
def SI:Sp:=λvs H Q _=>∃c:Int,vs=[.int c]/\∀l H',H l=none->Zz H' l->Same H H'->Q (.ref l) H'
def X2:Sp:=λvs H Q _=>∃(b:Addr)(n:Int),vs=[.ref b,.int n]/\Zz H b/\0<n/\n.natAbs.log2<9000/\∀(r:Int)H',0<=r->r<n->Zz H' b->Zi b H H'->Q (.int r) H'
theorem GQ(a m:Int)(h:0<m)(hm:m<2 ^ 64):-(2 ^ 64)<a % m/\a % m<2 ^ 64:=by have h1:=Int.emod_nonneg a (by omega:m≠0);have h2:=Int.emod_lt_of_pos a h;omega
theorem ZP{n:Int}(h:0<=n)(h2:n<=1000):n.natAbs.log2<9000:=Nat.lt_of_le_of_lt (Nat.log2_le_self _) (by omega)
theorem tkC{b:Addr}{i:Nat}{n:Int}{σ:L2.St}{H:Hp}{Q:VK}{E:XK}(hb:Zz H b)(k:∀(r:Int)H',0<=r->r<n->Zz H' b->Zi b H H'->Q (.int r) H')(h0:0<n:=by decide)(hl:n.natAbs.log2<9000:=by exact ZP (by decide) (by decide))(hv:σ[i]?=some (some (.ref b)):=by rfl):M7 X2 [] E (Xy (tVar i) (Xy (tC (.int n)) tNil)) σ H Q:=⟨_,hv,b,n,rfl,hb,h0,hl,k⟩
theorem XZ{p:Bool}{A B:Prop}(h1:p=true->A)(h2:p=false->B):if p=true then A else B:=by
 cases p
 ·exact h2 rfl
 ·exact h1 rfl
section
variable {P:Program}{w:World}{K:ae}{mg:Str->Option Value}{base:Heap}
theorem Ph:FnScope ["_law_cell_here"] ["_law_cell_here"] (Zf T.f__law_box):=scO
theorem KJ(B:∀x∈Blts,mg x=none)(D:Df K mg "_law_box" T.f__law_box ["_law_cell_here"]):Can P w K mg base 1 "_law_box" ["_law_cell_here"] SI:=by refine D.cn Ph λf cdv A outer s H vs Q E hr h=>?_;obtain⟨c,rfl,k⟩:=h;refine⟨_,(Ze (Zk (Z0 (Zh (Zy (G7 rfl) rfl (bm B) ik (Zh Zb (Zh (Zt Xe (pv 0) (Zt LH Zb Zb)) Zj))) (Zh (Zt Y0 (pv 0) Zb) (Zh Zb Zj)))))),?_⟩;refine⟨_,rfl,_,_,rfl,rfl,⟨by decide,by decide,by decide⟩,_,_,rfl,rfl,_,_,rfl,_,rfl,_,_,rfl,rfl,(by show(0:Int)<2147483647;decide),(zl),λp hp=>?_⟩;exact k p _ hp ⟨_,_,_,Zd⟩ (sameNew (Same.refl _) hp)
theorem Xz:FnScope [q_b,"_law_many","_law_digit","_law_number"] [q_b,"_law_many"] (Zf T.f__law_take):=scO
theorem Ws(D:Df K mg "_law_take" T.f__law_take [q_b,"_law_many"]):Can P w K mg base 1 "_law_take" [q_b,"_law_many"] X2:=by
 refine D.cn Xz λf cdv A outer s H vs Q E hr h=>?_;obtain⟨b,n,rfl,⟨x,y,z,hb⟩,hn,hlog,k0⟩:=h;have k:∀r x' y' z':Int,0<=r->r<n->Q (.int r) (upd H b (boxV x' y' z')):=λr x' y' z' h0 h1=>k0 r _ h0 h1 ⟨_,_,_,Zd⟩ (Zi.refl b H).put;refine⟨_,(Za (ZD (Zr Ue (il K (pv 0) Zb) Zb (Zw _)) (Za (st 2 Xz.nd (Zt Y0 (il K (pv 0) Zb) (pv 1))) (Za (Mt (Zt TH (il K (pv 0) Zb) (pv 1)) (Tv (pv 0) Zb set_list)) (Ze (Zk (pv 2))))) Zo) (Za (Mt (Zt ZQ (il K (pv 0) Zb) Zb) (Tv (pv 0) Zb set_list)) (Za (st 3 Xz.nd (Zt Y0 (Zt ZQ (Zt ZQ (Zt Xf (il K (pv 0) Zb) Zb) (Zt Xf Zb (il K (pv 0) Zb))) Zb) Zb)) (Za (st 3 Xz.nd (Zt Y0 (Zt Xf (Zt Y0 (Zt Xf (pv 3) (pv 3)) Zb) Zb) Zb)) (Ze (Zk (Zt Y0 (Zt QM (Zt Y0 (Zt Xf (pv 3) (pv 3)) Zb) Zb) (pv 1)))))))),?_⟩;have a0:atI [V.int x,V.int y,V.int z] 0=some (.int x):=Zl (j:=0) rfl;refine iaL hb a0 ⟨_,_,rfl,rfl,_,rfl,?_⟩;refine ite2 (λe=>?_) (λe=>?_)
 ·refine iaL hb a0 ⟨_,rfl,_,_,rfl,rfl,hn,?_⟩;refine iaL hb a0 ⟨_,rfl,_,_,rfl,rfl,⟨hn,hlog⟩,?_⟩;refine⟨_,rfl,b,_,0,0,rfl,rfl,hb,rfl,_,rfl,?_⟩;exact k _ _ _ _ (Int.emod_nonneg _ (by omega)) (Int.emod_lt_of_pos _ hn)
 ·have a2:atI [V.int x,V.int y,V.int z] 2=some (.int z):=Zl (j:=2) rfl;refine iaL hb a2 ⟨_,_,rfl,rfl,?_⟩;refine⟨_,rfl,b,_,2,2,rfl,rfl,hb,rfl,?_⟩;have hb2:upd H b (.lst ([V.int x,V.int y,V.int z].set 2 (.int (z+1)))) b=some (boxV x y (z+1)):=Zd;have b1:atI [V.int x,V.int y,V.int (z+1)] 1=some (.int y):=Zl (j:=1) rfl;have b2:atI [V.int x,V.int y,V.int (z+1)] 2=some (.int (z+1)):=Zl (j:=2) rfl;refine iaL hb2 b1 ⟨_,_,rfl,rfl,.inr ⟨by decide,by decide⟩,iaL hb2 b2 ⟨_,_,rfl,rfl,.inl ⟨by decide,by decide⟩,_,_,rfl,rfl,_,_,rfl,rfl,_,_,rfl,rfl,(by show(0:Int)<2147483629;decide),?_⟩⟩;refine⟨_,rfl,_,rfl,_,_,rfl,rfl,.inl (GQ _ _ (by decide) (by decide)),_,_,rfl,rfl,(by show(0:Int)<2147483587;decide),_,_,rfl,rfl,.inr ⟨by decide,by decide⟩,_,_,rfl,rfl,(by show(0:Int)<2147483647;decide),?_⟩;refine⟨_,rfl,_,rfl,_,_,rfl,rfl,.inl (GQ _ _ (by decide) (by decide)),_,_,rfl,rfl,(by show(0:Int)<2147483629;decide),_,_,rfl,rfl,⟨by decide,by decide⟩,_,rfl,_,_,rfl,rfl,hn,?_⟩;exact k _ _ _ _ (Int.emod_nonneg _ (by omega)) (Int.emod_lt_of_pos _ hn)
end
noncomputable abbrev codes:=K1.codes
noncomputable abbrev LET:=K1.LET
theorem RR{a b:Str}(h:codes a=codes b):a=b:=by
 obtain⟨x⟩:=a;obtain⟨y⟩:=b;have:x=y:=by simpa[K1.codes]using h
 rw[this]
theorem Y3(a b:Str):codes (a++b)=codes a++codes b:=by show(a.cps++b.cps).toList=_;simp[K1.codes]
theorem RQ(c:Nat):codes ⟨#[c]⟩=[c]:=rfl
theorem JZ{α:Type}(xs:List α)(a:Nat):∀k,a+k<=xs.length->((bh k).map λi=>a+i).filterMap (λi=>xs[i]?)=(xs.drop a).take k
|0,_=>by simp
|k+1,h=>by
  rw[fW,aE,List.filterMap_append,JZ xs a k (by omega)];have hk:a+k<xs.length:=by omega
  rw[aV];congr 1;simp[hk]
theorem Wd(n:Nat)(j:Int)(h:0<=j):de none (some j) 1 n=(bh (min j.toNat n)).map λi=>0+i:=by
 unfold de sliceRange;obtain⟨m,rfl⟩:=Int.eq_ofNat_of_zero_le h;simp only[show(1:Int)>0 by decide,if_true,show ¬(m:Int)<0 by omega,if_false];rw[show max 0 (min (m:Int) n)=((min m n:Nat):Int) by omega,Int.toNat_natCast];generalize min m n=t;have e:(if(0:Int)<t then((t:Int)-0+1-1) / 1 else 0).toNat=t:=by rw[Int.ediv_one];split<;>omega
 rw[e];apply gD;intro k _;omega
theorem We(n:Nat)(j:Int)(h:0<=j)(h2:j<=n):de (some j) none 1 n=(bh (n-j.toNat)).map λi=>j.toNat+i:=by
 unfold de sliceRange;obtain⟨m,rfl⟩:=Int.eq_ofNat_of_zero_le h;simp only[show(1:Int)>0 by decide,if_true,show ¬(m:Int)<0 by omega,if_false];rw[show max 0 (min (m:Int) n)=m by omega,Int.toNat_natCast];have e:(if(m:Int)<(n:Int)then((n:Int)-m+1-1) / 1 else 0).toNat=n-m:=by rw[Int.ediv_one];split<;>omega
 rw[e];apply gD;intro k _;omega
theorem Nk(x:Str)(l:List Nat):(l.filterMap (x.cps[·]?))=l.filterMap (λi=>(codes x)[i]?):=by congr 1;funext i;simp[K1.codes]
theorem ZU(x:Str):(codes x).length=x.length:=K1.clen x
theorem Gp(x:Str)(j:Int)(h:0<=j):codes (Txt.slice x none (some j))=(codes x).take j.toNat:=by
 unfold Txt.slice;rw[Wd _ _ h];split
 ·rename_i hq;have:min j.toNat x.length=x.length:=by simpa using hq
  rw[bj (by rw[ZU];omega)]
 ·show(List.filterMap _ _)=_;rw[Nk,JZ _ 0 _ (by rw[ZU];omega),gk];rcases Nat.le_total j.toNat x.length with hh|hh
  ·rw[Nat.min_eq_left hh]
  ·rw[Nat.min_eq_right hh,bj (by rw[ZU];exact Nat.le_refl _),bj (by rw[ZU];omega)]
theorem PV(x:Str)(j:Int)(h:0<=j)(h2:j<=x.length):codes (Txt.slice x (some j) none)=(codes x).drop j.toNat:=by
 unfold Txt.slice;rw[We _ _ h h2];split
 ·rename_i hq;have:x.length-j.toNat=x.length:=by simpa using hq
  have hl:=ZU x;rcases Nat.eq_zero_or_pos x.length with e|e
  ·have:codes x=[]:=ck (by omega);rw[this];simp
  ·have:j.toNat=0:=by omega
   rw[this,gk]
 ·show(List.filterMap _ _)=_;rw[Nk,JZ _ j.toNat _ (by rw[ZU];omega),bj (by rw[c6,ZU];omega)]
theorem Gq:∀(ts:List Str),codes (Txt.join Str.empty ts)=(ts.map codes).flatten
|[]=>rfl
|[t]=>by show codes (Txt.join Str.empty [t])=_;unfold Txt.join;rw[gF];show codes t=_;simp
|t::u::r=>by have ih:=Gq (u::r);unfold Txt.join at ih ⊢;rw[gF]at ih ⊢;show codes (t++Str.empty++Str.join Str.empty (u::r))=_;rw[Y3,Y3,ih];simp[K1.codes,Str.empty]
def Bs(n:Nat)(t:Str):Prop:=(codes t).length=n/\∀c∈codes t,c∈LET
theorem Bs.join{ts:List Str}(h:∀t∈ts,Bs 1 t):Bs ts.length (Txt.join Str.empty ts):=by
 unfold Bs;rw[Gq];induction ts with
|nil=>simp
|cons t r ih=>
  obtain⟨a,b⟩:=h t aA;obtain⟨a',b'⟩:=ih λu hu=>h u (aq _ hu);refine⟨by simp only[ax,List.flatten_cons,av,aU];omega,λc hc=>?_⟩;rw[ax,List.flatten_cons]at hc;rcases aK.mp hc with hc|hc
  ·exact b c hc
  ·exact b' c hc
theorem nodup_map_on{α β:Type}{f:α->β}:∀{l:List α},l.Nodup->(∀a∈l,∀b∈l,f a=f b->a=b)->(l.map f).Nodup
|[],_,_=>cW
|a::l,h,i=>by rw[ax,bo];rw[bo]at h;refine⟨λhm=>?_,nodup_map_on h.2 λx hx y hy e=>i x (aq _ hx) y (aq _ hy) e⟩;obtain⟨b,hb,e⟩:=ai.mp hm;exact h.1 (i b (aq _ hb) a aA e▸hb)
noncomputable def put(base:Str)(at_:Nat)(c:Nat):Str:=Txt.slice base none (some (at_:Int))++⟨#[c]⟩++Txt.slice base (some (at_:Int)) none
theorem RP{base:Str}{a:Nat}(h:a<=base.length)(c:Nat):codes (put base a c)=(codes base).take a++[c]++(codes base).drop a:=by unfold put;rw[Y3,Y3,Gp _ _ (by omega),PV _ _ (by omega) (by omega),RQ];simp
noncomputable def sgn(f k:Nat):Nat:=LET.getD ((f+5*k) % 26) 0
noncomputable def puts(base:Str)(a f n:Nat):List Str:=(bh n).map λk=>put base a (sgn f k)
end WD
namespace L2
open PySem PySem.Spec PyProof.Rows
section
variable {X:Cx}
theorem Vf{i:Nat}{x:Str}{pos' pos2:Pos}{elt iter tg:Expr}{ifs:List Expr}{scope:Scope}{pos:Pos}{N:List Str}{cp:List (Option Nat)}{wi:TI}{g:TG}{tc:TT}{te:TE}(hNd:X.N.Nodup)(hix:X.N[i]?=some x)(hlx:Loc X.env.scope x)(hc:X.calm=true){sc:Scope}{N0:List Str}(hS0:CompScope scope sc)(hN0:CompNames N0 scope N cp)
  (hi:PI X tg iter wi) (hg:∀C s H ex pn,PG (Xu X scope N C s H ex pn) tg g) (ht:∀C s H ex pn,PTs (Xu X scope N C s H ex pn) ifs tc) (he:∀C s H ex pn,PE (Xu X scope N C s H ex pn) elt te)
  (hsw:f7 (.ListComp elt [⟨tg,iter,ifs,0⟩] scope pos) (some (.Name x pos')) pos2.line X.env=pure true:=by with_unfolding_all rfl) (hff:X.fn x=true\/X.env.scope.names.lookup x=some .local:=by first|exact .inl rfl|exact .inr rfl|assumption)
  (hsc:X.env.scope=sc:=by rfl) (hxn:X.N=N0:=by rfl) (hs:∀x,fT iter X.env x=pure x:=by intro _;rfl):PS X (.Assign [.Name x pos'] (.ListComp elt [⟨tg,iter,ifs,0⟩] scope pos) pos2) (tAsg (Sw cp wi g tc te) (Zq i)):=by
 subst hsc hxn
 intro pins s σ H D I h
 rw[exec_Assign_Name_used _ _ _ _ hsw]
 refine aa (h_ (aa ?_))
 show wpAny _ _ (do let _ <-comprehension (.ListComp elt [⟨tg,iter,ifs,0⟩] scope pos) scope X.env _ (newList []) false (eval iter X.env) (some (assign (.Name x pos') X.env))) _ _ s
 refine aa (dz (G4 (R:=λ_ s'=>SP X pins D .next s') (use:=some (assign (.Name x pos') X.env)) hc hS0 hN0 hi hg ht he hs I h λD' C H5 s4 m I5 hn h1 h2 h3 h4 h5 q=>?_) (λ_ s' hq=>af (af hq)) λ_ _ e=>e)
 refine wpAny_assign_Name (GO I5 hNd hix hlx (v:=.ref D') rfl (λs' I6 hsb=>?_) hff)
 obtain⟨a,hsb,ha⟩:=hsb
 have haC:C≠a:=by
  rcases ha with rfl|ha
  ·exact h1
  ·exact(h2 _ _ ha).symm
 exact⟨m,hn.sameBut hsb haC,λh'' hs''=>⟨_,_,I6.turned (t':=s'.toks) (it:=C) (λb o hb e=>(hs''.2 b hb).trans e) h3 h1 (.inr h4) h2 h5,q⟩⟩
end
end L2
namespace WD
open PySem L2 PySem.Spec PyProof.Rows TB
noncomputable abbrev Pl:=List (Str×Option Int)
noncomputable def XA:Option Int->V
|none=>.non
|some i=>.int i
noncomputable def plRow(p:Str×Option Int):List V:=[.str p.1,XA p.2]
def RowsAt(b:Addr)(H:Hp)(l:Addr)(rows:List (List V)):Prop:=l≠b/\∃as:List Addr,H l=some (.lst (as.map V.ref))/\as.length=rows.length/\∀(i:Nat)a r,as[i]?=some a->rows[i]?=some r->a≠b/\H a=some (.tup r)
theorem RowsAt.same{b:Addr}{H H':Hp}{l:Addr}{rows:List (List V)}(s:Zi b H H')(h:RowsAt b H l rows):RowsAt b H' l rows:=by obtain⟨n,as,e,hl,r⟩:=h;exact⟨n,as,s _ _ e n,hl,λi a q h1 h2=>let ⟨x,y⟩:=r i a q h1 h2;⟨x,s _ _ y x⟩⟩
theorem RowsAt.at{b:Addr}{H:Hp}{l:Addr}{rows:List (List V)}(h:RowsAt b H l rows){i:Nat}{r:List V}(hr:rows[i]?=some r):∃a,a≠b/\H a=some (.tup r)/\∃as:List Addr,H l=some (.lst (as.map V.ref))/\as[i]?=some a/\as.length=rows.length:=by
 obtain⟨n,as,e,hl,q⟩:=h;have hi:i<as.length:=by rw[hl];exact(aj.mp hr).1
 obtain⟨x,y⟩:=q i as[i] r (gE hi) hr;exact⟨as[i],x,y,as,e,gE hi,hl⟩
theorem Zz.same_ne{H:Hp}{b q:Addr}{o:HO}(h:Zz H b)(n:q≠b):Zz (upd H q o) b:=by obtain⟨x,y,z,e⟩:=h;exact⟨x,y,z,by rw[Zc n.symm];exact e⟩
theorem Xm{b q:Addr}{H H4 H6:Hp}{o:HO}(s:Zi b H H6)(s4:Zi b H H4)(nqb:q≠b)(hq:H4 q=none):Zi b H (upd H6 q o):=λc u h hc=>by
 have:c≠q:=λz=>by rw[z]at h hc;rw[s4 _ _ h hc]at hq;cases hq
 rw[Zc this];exact s c u h hc
structure Rd where
 nm:Str
 st:Str
 lv:Int
 gl:Str
 cm:Int
 se:Int
noncomputable def rdRow(r:Rd):List V:=[.str r.nm,.str r.st,.int r.lv,.str r.gl,.int r.cm,.int r.se]
structure Wy where
 nm:Str
 st:Str
 gl:Str
 lo:Int
 wi:Int
noncomputable def wyRow(r:Wy):List V:=[.str r.nm,.str r.st,.str r.gl,.int r.lo,.int r.wi]
structure Gr where
 nm:Str
 pl:Str
 tu:Int
 ma:Int
noncomputable def grRow(r:Gr):List V:=[.str r.nm,.str r.pl,.int r.tu,.int r.ma]
structure Ends(ps:Pl)(s g:Str):Prop where
 st:∃i,(s,some i)∈ps
 gl:∃r,(g,r)∈ps
 ne:s≠g
structure GoodRd(n:Int)(ps:Pl)(r:Rd):Prop where
 ends:Ends ps r.st r.gl
 lv0:0<=r.lv
 lv1:r.lv<=n-1
 cm0:r.lv+1<=r.cm
 cm1:r.cm<=n
 se0:0<=r.se
 se1:r.se<=1000
structure GoodWy(ps:Pl)(r:Wy):Prop where
 ends:Ends ps r.st r.gl
 lo0:1<=r.lo
 lo1:r.lo<=50
 wi0:0<=r.wi
 wi1:r.wi<=1000
theorem YU{i lo hi:Int}(h1:lo<=i)(h2:i<=hi):K1.Zu (.int i) lo hi=true:=by show(decide (lo<=i)&&decide (i<=hi))=true;simp[h1,h2]
end WD
namespace L2
open PySem PySem.W PySem.Spec PyProof.Rows
section
variable {X:Cx}
def Ek:R2:=λx y H Q=>∃(a b:Addr)(xs ys:List V),x=.ref a/\y=.ref b/\H a=some (.tup xs)/\H b=some (.tup ys)/\xs.length+ys.length<=sizeLine /\(xs=[]->Q (.ref b) H)/\(ys=[]->Q (.ref a) H)/\(∀p,H p=none->Q (.ref p) (upd H p (.tup (xs++ys))))
theorem Ke:OpR X (d5 .Add) Ek:=by
 intro pins s σ H x y v u Q I rx ry h;obtain⟨a,b,xs,ys,rfl,rfl,ha,hb,hz,q1,q2,q3⟩:=h;by_cases hx:xs=[]
 ·cases rx;cases ry;obtain⟨its,r1,p1,_⟩:=I.tuple (SqT.of ha);obtain⟨its2,r2,p2,_⟩:=I.tuple (SqT.of hb);obtain⟨⟨cls,dd,data,sl⟩,ho,hc,n,hd⟩:=id p1;obtain⟨⟨cls2,dd2,data2,sl2⟩,ho2,hc2,n2,hd2⟩:=id p2;simp only at hc hd hc2 hd2;subst hc hd hc2 hd2;have h0:its=[]:=r1.nil_iff.mpr hx;exact concat_meets ⟨_,ho,rfl⟩ ⟨_,ho2,rfl⟩ noFill_tuple_add seq_tuple_add fI fE (fy _ _) (tuple_addW0 a b its.toArray its2.toArray n n2 dd dd2 sl sl2 (by simp[h0])) ⟨ho,ho2,⟨.ref b,H,I,rfl,q1 hx⟩⟩
 ·exact Kd pins s σ H _ _ v u Q I rx ry ⟨a,b,xs,ys,rfl,rfl,SqT.of ha,SqT.of hb,hx,hz,q2,λ_=>q3⟩
def rNil(neg:Bool)(K:ae):R2:=λx y H Q=>∃a b xs,x=.ref a/\y=.ref b/\SqL K H a xs/\H b=some (.lst [])/\Q (.bl (if neg then !decide (xs=[])else decide (xs=[]))) H
theorem Nt(hu:X.A.units+64<cLine):OpR X (bA .Eq) (rNil false X.K):=by
 intro pins s σ H x y v u Q I rx ry h;obtain⟨a,b,xs,rfl,rfl,ha,hb,q⟩:=h;cases rx;cases ry;obtain⟨its,rv,p1,_⟩:=I.list ha;obtain⟨_,its2,n2,rv2,_,e2⟩:=I.lstM hb;have h2:=rv2.zero;subst h2;have l2:s.heap.IsList b #[]:=⟨_,e2,rfl,_,rfl⟩;have hl:=rv.length;by_cases hx:xs=[]
 ·subst hx;have h1:=rv.zero;subst h1;refine SeqAt.RcAt.lists (A:=X.A) (s:=s) (e:=λ_=>true) p1.isList l2 rfl (by omega) (λj h1 h2=>by simp at h2) X.prog X.w X.xe (EP X pins σ Q) ⟨.bl true,H,I,rfl,?_⟩;simpa using q
 ·refine SeqAt.RcAt.lists_lengths (A:=X.A) (s:=s) p1.isList l2 ?_ (by omega) X.prog X.w X.xe (EP X pins σ Q) ⟨.bl false,H,I,rfl,?_⟩
  ·have:its.length≠0:=by rw[<-hl];intro z;exact hx (List.length_eq_zero_iff.mp z)
   simpa using λz=>hx (by subst z;simpa using hl)
  ·simpa[hx]using q
end
end L2
namespace L2
open PySem PySem.Spec PyProof.Rows
section
variable {X:Cx}
def rEqD:R2:=λx y H Q=>∃d e,Is H x d/\Is H y e/\bJ d=true/\bJ e=true/\Q (.bl (PyData.eqv d e)) H
theorem Mv(hu:X.A.units+64<cLine):OpR X (bA .Eq) rEqD:=by intro pins s σ H x y v u Q I rx ry h;obtain⟨d,e,h1,h2,s1,s2,q⟩:=h;obtain⟨as,r1⟩:=h1.reads I.hok rx;obtain⟨bs,r2⟩:=h2.reads I.hok ry;exact SeqAt.compareEq_shaped r1 r2 s1 s2 hu ⟨.bl _,H,I,rfl,q⟩
def rNeD:R2:=λx y H Q=>∃d e,Is H x d/\Is H y e/\bJ d=true/\bJ e=true/\Q (.bl (!PyData.eqv d e)) H
theorem TF(hu:X.A.units+64<cLine):OpR X (bA .NotEq) rNeD:=by intro pins s σ H x y v u Q I rx ry h;obtain⟨d,e,h1,h2,s1,s2,q⟩:=h;obtain⟨as,r1⟩:=h1.reads I.hok rx;obtain⟨bs,r2⟩:=h2.reads I.hok ry;exact SeqAt.compareNe_shaped r1 r2 s1 s2 hu ⟨.bl _,H,I,rfl,q⟩
end
end L2
namespace WD
open PySem L2 PySem.Spec PyProof.Rows TB
noncomputable def szJ:Nat->Nat
|1=>2|2=>6|3=>5|_=>4
noncomputable def NA:Nat->Nat
|1=>14|2=>80|3=>40|_=>300
noncomputable def Yj:Nat->Str
|1=>"places"|2=>"rides"|3=>"ways"|_=>"groups"
noncomputable def gJ(j:Nat):Bool:=decide (j=4)
noncomputable abbrev Kv:=List (Key×V)
noncomputable def whyJ(j:Nat)(k1:Kv)(n pp:Int)(ys:List V):V:=match j with
|1=>Yq (at_ ys 1)
|2=>Tc k1 n ys
|3=>wayW k1 ys
|_=>V0 k1 n pp ys
noncomputable def dueJ(j:Nat)(k1:Kv)(n pp:Int)(kvs:Kv)(r:Option (List V)):V:=if begR (gJ j) (szJ j) kvs r≠.non then begR (gJ j) (szJ j) kvs r else match r with
 |some ys=>whyJ j k1 n pp ys
 |none=>.str "form"
noncomputable def Jc(j:Nat)(k1:Kv)(n:Int):Nat->Int->Kv->List (V×Option (List V))->Sum (Nat×V) Kv
|_,_,kvs,[]=>.inr kvs
|i,pp,kvs,(x,r)::rs=>if dueJ j k1 n pp kvs r≠.non then .inl (i,dueJ j k1 n pp kvs r)else match r with
 |some ys=>Jc j k1 n (i+1) (pp+ZF ys) (putK kvs (.inr (nameOf ys)) (if j=1 then at_ ys 1 else x)) rs
 |none=>.inl (i,.str "form")
theorem JG{j:Nat}{k1:Kv}{n pp:Int}{kvs:Kv}{r:Option (List V)}(h:begR (gJ j) (szJ j) kvs r≠.non):dueJ j k1 n pp kvs r=begR (gJ j) (szJ j) kvs r:=by unfold dueJ;rw[if_pos h]
theorem Y7{j:Nat}{k1:Kv}{n pp:Int}{kvs:Kv}{ys:List V}(h:begR (gJ j) (szJ j) kvs (some ys)=.non):dueJ j k1 n pp kvs (some ys)=whyJ j k1 n pp ys:=by unfold dueJ;rw[if_neg (λz=>z h)]
theorem JE{j:Nat}{k1:Kv}{n:Int}{i:Nat}{pp:Int}{kvs:Kv}{x:V}{r:Option (List V)}{rs:List (V×Option (List V))}(h:dueJ j k1 n pp kvs r≠.non):Jc j k1 n i pp kvs ((x,r)::rs)=.inl (i,dueJ j k1 n pp kvs r):=by unfold Jc;rw[if_pos h]
theorem Vu{j:Nat}{k1:Kv}{n:Int}{i:Nat}{pp:Int}{kvs:Kv}{x:V}{ys:List V}{rs:List (V×Option (List V))}(h:dueJ j k1 n pp kvs (some ys)=.non):Jc j k1 n i pp kvs ((x,some ys)::rs)=Jc j k1 n (i+1) (pp+ZF ys) (putK kvs (.inr (nameOf ys)) (if j=1 then at_ ys 1 else x)) rs:=by
 conv=>lhs;unfold Jc
 rw[if_neg (λz=>z h)]
theorem Gb{g:Bool}{m:Nat}{why:List V->V}{j:Nat}{k1:Kv}{n:Int}(hg:gJ j=g)(hm:szJ j=m)(hj:j≠1)(hw:∀pp ys,whyJ j k1 n pp ys=why ys):∀(rs:List (V×Option (List V)))(i:Nat)(pp:Int)(kvs:Kv),X4 g m why i kvs rs=Jc j k1 n i pp kvs rs
|[],_,_,_=>rfl
|(x,r)::rs,i,pp,kvs=>by
  subst hg hm;by_cases b:begR (gJ j) (szJ j) kvs r=.non
  ·cases r with
  |none=>cases b
  |some ys=>
    rw[Rf b];by_cases h:why ys=.non
    ·rw[if_neg (λz=>z h),Vu (by rw[Y7 b,hw];exact h),if_neg hj];exact Gb rfl rfl hj hw rs _ _ _
    ·rw[if_pos h,JE (by rw[Y7 b,hw];exact h),Y7 b,hw]
  ·rw[SW b,JE (by rw[JG b];exact b),JG b]
theorem Ge{k1:Kv}{n:Int}:∀(rs:List (V×Option (List V)))(i:Nat)(pp:Int)(kvs:Kv),Xs k1 n i pp kvs rs=Jc 4 k1 n i pp kvs rs
|[],_,_,_=>rfl
|(x,r)::rs,i,pp,kvs=>by
  by_cases b:begR true 4 kvs r=.non
  ·cases r with
  |none=>cases b
  |some ys=>
    have b':begR (gJ 4) (szJ 4) kvs (some ys)=.non:=b;rw[NM b];by_cases h:V0 k1 n pp ys=.non
    ·rw[if_neg (λz=>z h),Vu (by rw[Y7 b'];exact h),if_neg (by decide)];exact Ge rs _ _ _
    ·rw[if_pos h,JE (by rw[Y7 b'];exact h),Y7 b'];rfl
  ·have b':begR (gJ 4) (szJ 4) kvs r≠.non:=b;rw[JE (by rw[JG b'];exact b),JG b'];unfold Xs;rw[if_pos b];rfl
theorem Gd{k1:Kv}{n:Int}:∀(xs:List V)(rs:List (Option (List V)))(i:Nat)(pp:Int)(kvs:Kv),xs.length=rs.length->XR i kvs rs=Jc 1 k1 n i pp kvs (xs.zip rs)
|[],[],_,_,_,_=>rfl
|[],_::_,_,_,_,h=>by cases h
|_::_,[],_,_,_,h=>by cases h
|x::xs,r::rs,i,pp,kvs,hl=>by
  rw[gQ];by_cases b:begR false 2 kvs r=.non
  ·obtain⟨ys,y,rfl,h2,h0⟩:=WH b;have b':begR (gJ 1) (szJ 1) kvs (some ys)=.non:=b;obtain⟨x0,room,rfl⟩:=len2 h2;have hx0:x0=.str y:=h0;subst hx0;conv=>lhs;unfold XR
   rw[if_neg (λz=>z b)];dsimp only;by_cases h:Yq room=.non
   ·rw[if_neg (λz=>z h),Vu (by rw[Y7 b'];exact h),if_pos rfl];exact Gd xs rs _ _ _ (by simpa using hl)
   ·rw[if_pos h,JE (by rw[Y7 b'];exact h),Y7 b'];rfl
  ·have b':begR (gJ 1) (szJ 1) kvs r≠.non:=b;rw[Pr b,JE (by rw[JG b'];exact b),JG b'];rfl
noncomputable def goJ(j:Nat)(k1:Kv)(n:Int):List V->List (Option (List V))->Sum (Nat×V) Kv:=match j with
|1=>goP
|2=>goR k1 n
|3=>goW k1
|_=>goG k1 n
theorem DA{j:Nat}(hj:j=1\/j=2\/j=3\/j=4){k1:Kv}{n:Int}{xs:List V}{rs:List (Option (List V))}(h:xs.length=rs.length):goJ j k1 n xs rs=Jc j k1 n 0 0 [] (xs.zip rs):=by
 rcases hj with rfl|rfl|rfl|rfl
 ·exact Gd xs rs _ _ _ h
 ·exact Gb (j:=2) (k1:=k1) (n:=n) rfl rfl (by decide) (λ_ _=>rfl) _ _ _ _
 ·exact Gb (j:=3) (k1:=k1) (n:=n) rfl rfl (by decide) (λ_ _=>rfl) _ _ _ _
 ·exact Ge _ _ _ _
def VL(k1:Kv)(t1:List (List V)):Prop:=∀p∈t1,valV k1 (.inr (nameOf p))=some (at_ p 1)
structure PlDict(k1:Kv)(t1:List (List V)):Prop where
 has:VL k1 t1
 no:∀z,z∉t1.map nameOf->valV k1 (.inr z)=none
def Flat(y:V):Prop:=y=.non\/(∃i,y=.int i)\/∃z,y=.str z/\z.length<=1000
structure RowOk(j:Nat)(n:Int)(t1:List (List V))(ys:List V):Prop where
 len:ys.length=szJ j
 nm:Z3 (gJ j) (at_ ys 0)=true
 why:∀k1,(j≠1->VL k1 t1)->∀pp,(j=4->pp+ZF ys<=300)->whyJ j k1 n pp ys=.non
 ma:j=4->0<=ZF ys
 flat:∀y∈ys,Flat y
structure RowsOk(j:Nat)(n:Int)(t1 t:List (List V)):Prop where
 nd:(t.map nameOf).Nodup
 row:∀ys∈t,RowOk j n t1 ys
 sum:j=4->(t.map ZF).sum<=300
theorem LM{g:Bool}{v:V}(h:Z3 g v=true):∃z,v=.str z:=by unfold Z3 at h;split at h<;>(unfold K1.Vs at h;cases v<;>first|exact⟨_,rfl⟩|(exfalso;simp at h))
theorem RowOk.name{j:Nat}{n:Int}{t1:List (List V)}{ys:List V}(h:RowOk j n t1 ys):ys.getD 0 .non=.str (nameOf ys):=by obtain⟨z,e⟩:=LM h.nm;have e':ys.getD 0 .non=.str z:=e;unfold nameOf;rw[e']
theorem N9:∀{l:List Int},(∀x∈l,0<=x)->0<=l.sum
|[],_=>by simp
|x::l,h=>by rw[fG];have:=h x aA;have:=N9 (l:=l) λy hy=>h y (aq _ hy);omega
theorem QW{j:Nat}{k1:Kv}{n:Int}{t1:List (List V)}(hk:j≠1->VL k1 t1){rest:List (V×Option (List V))}:∀(t:List (List V))(xs:List V)(i:Nat)(pp:Int)(kvs:Kv),xs.length=t.length->(t.map nameOf).Nodup->(∀ys∈t,RowOk j n t1 ys)->(j=4->pp+(t.map ZF).sum<=300)->(∀ys∈t,valV kvs (.inr (nameOf ys))=none) ->∃kvs',Jc j k1 n i pp kvs (xs.zip (t.map some)++rest)=Jc j k1 n (i+t.length) (pp+(t.map ZF).sum) kvs' rest/\(∀z,z∉t.map nameOf->valV kvs' (.inr z)=valV kvs (.inr z))/\(j=1->VL kvs' t)/\(∀ys∈t,valV kvs' (.inr (nameOf ys))≠none)/\(j≠1->∀(m:Nat)y x,t[m]?=some y->xs[m]?=some x->valV kvs' (.inr (nameOf y))=some x)
|[],[],i,pp,kvs,_,_,_,_,_=>⟨kvs,by simp,λ_ _=>rfl,λ_ p hp=>(by cases hp),λp hp=>(by cases hp),λ_ m y x h=>by simp at h⟩
|[],_::_,_,_,_,h,_,_,_,_=>by cases h
|_::_,[],_,_,_,h,_,_,_,_=>by cases h
|y::t,x::xs,i,pp,kvs,hl,nd,hr,hs,hn=>by
  have ry:=hr y aA;have ny:=hn y aA;have b:begR (gJ j) (szJ j) kvs (some y)=.non:=by show begV _ _ _ _=_;unfold begV;rw[if_neg (λz=>z ry.len),show Z3 (gJ j) (y.getD 0 .non)=true from ry.nm,if_neg (by decide),ry.name];rw[show ZM (.str (nameOf y)) kvs=false from by show(valV kvs _).isSome=false;rw[ny];rfl,if_neg (by decide)]
  rw[ax,bo]at nd;have ht:∀ys∈t,RowOk j n t1 ys:=λq hq=>hr q (aq _ hq);have hs':j=4->pp+ZF y+(t.map ZF).sum<=300:=λe=>by have:=hs e;rw[ax,fG]at this;omega
  have hy:j=4->pp+ZF y<=300:=λe=>by
   have:=hs' e;have:=N9 (l:=t.map ZF) λx hx=>by obtain⟨q,hq,rfl⟩:=ai.mp hx;exact(ht q hq).ma e
   omega
  have hw:whyJ j k1 n pp y=.non:=ry.why k1 hk pp hy;have yn:∀q∈t,nameOf q≠nameOf y:=λq hq e=>nd.1 (e▸ai.mpr ⟨q,hq,rfl⟩);obtain⟨kvs',e1,e2,e3,e4,e5⟩:=QW hk (rest:=rest) t xs (i+1) (pp+ZF y) (putK kvs (.inr (nameOf y)) (if j=1 then at_ y 1 else x)) (by simpa using hl) nd.2 ht hs' (λq hq=>by rw[Yu,if_neg (λe=>yn q hq (by injection e))];exact hn q (aq _ hq));have eY:valV kvs' (.inr (nameOf y))=some (if j=1 then at_ y 1 else x):=by rw[e2 _ nd.1,Yu,if_pos rfl]
  refine⟨kvs',?_,λz hz=>?_,λe p hp=>?_,λp hp=>?_,λnj m y' x' h1 h2=>?_⟩
  ·rw[ax,gQ,List.cons_append,Vu (by rw[Y7 b];exact hw),e1,ax,fG,aU];congr 1<;>omega
  ·rw[ax,ar,not_or]at hz;rw[e2 z hz.2,Yu,if_neg (λe=>hz.1 (by injection e))]
  ·rcases ar.mp hp with rfl|hp
   ·rw[eY,if_pos e]
   ·exact e3 e p hp
  ·rcases ar.mp hp with rfl|hp
   ·rw[eY];exact λz=>by cases z
   ·exact e4 p hp
  ·cases m with
  |zero=>simp at h1 h2;subst h1 h2;rw[eY,if_neg nj]
  |succ m=>exact e5 nj m y' x' (by simpa using h1) (by simpa using h2)
def Qk(j:Nat)(n:Int)(t1 t:List (List V)):Prop:=t.length<=NA j/\RowsOk j n t1 t
section
variable {j:Nat}{k1:Kv}{n:Int}{t1:List (List V)}
theorem Rm(hj:j=1\/j=2\/j=3\/j=4)(hk:j≠1->VL k1 t1){t:List (List V)}(h:Qk j n t1 t){xs:List V}(hx:xs.length=t.length):∃kvs,TC (NA j) (goJ j k1 n) (some (xs,t.map some))=.inr kvs/\(j=1->PlDict kvs t)/\(∀z,z∉t.map nameOf->valV kvs (.inr z)=none)/\(j≠1->∀(m:Nat)y x,t[m]?=some y->xs[m]?=some x->valV kvs (.inr (nameOf y))=some x):=by obtain⟨hl,nd,row,sum⟩:=h;obtain⟨kvs,e,e2,e3,_,e5⟩:=QW (k1:=k1) (n:=n) hk (rest:=[]) t xs 0 0 [] hx nd row (λe=>by have:=sum e;omega) (λ_ _=>rfl);refine⟨kvs,?_,λe=>⟨e3 e,λz hz=>e2 z hz⟩,λz hz=>e2 z hz,e5⟩;unfold TC;simp only;rw[if_neg (by omega),DA hj (by rw[hx,lm])];rw[bp]at e;rw[e];rfl
end
structure Tb where
 n:Int
 t1:List (List V)
 t2:List (List V)
 t3:List (List V)
 t4:List (List V)
noncomputable def Tb.part(T:Tb):Nat->List (List V)
|1=>T.t1|2=>T.t2|3=>T.t3|_=>T.t4
structure OkTb(T:Tb):Prop where
 n0:1<=T.n
 n1:T.n<=50
 part:∀j,j=1\/j=2\/j=3\/j=4->Qk j T.n T.t1 (T.part j)
noncomputable def prs(xs:List V)(t:List (List V)):PR:=some (xs,t.map some)
structure RwDict(k:Kv)(t:List (List V))(xs:List V):Prop where
 at_:∀(m:Nat)y x,t[m]?=some y->xs[m]?=some x->valV k (.inr (nameOf y))=some x
 no:∀z,z∉t.map nameOf->valV k (.inr z)=none
structure TbDict(T:Tb)(x2 x3 x4:List V)(k:Ks):Prop where
 p:PlDict k.1 T.t1
 r:RwDict k.2.1 T.t2 x2
 w:RwDict k.2.2.1 T.t3 x3
 g:RwDict k.2.2.2 T.t4 x4
end WD
namespace L2
open PySem PySem.Spec PyProof.Rows
structure BaseM(K:ae)(C:Addr)(m:Str)(f:Addr):Prop where
 ga:gH K (.ref C) "__getattribute__"=some (some (.builtin "type.__getattribute__"))
 rd:∃mc,PySem.W.readsIn K C mc=true/\PySem.W.findCls K (.ref C) mc m=some (.val (.ref f))
 kp:bw K (.ref f)=true
theorem Ux{X:Cx}{CX:CXT}{k:Nat}{f C:Addr}{fd:b_}{ps:List Str}{ds:List Value}{dvs:List V}{sp:Sp}{E:XK}{m:Str}{pos apos:Pos}{e o:Expr}{es:List Expr}{t:TA}{pl:Sem Bool}(he:PE X o (tC (.ref C)))(hm:BaseM X.K C m f)(F:FnOk X.prog X.w X.K X.mg X.base CX k f fd ps sp)(hr:Room k X.A)(hb:Binds X.K fd ps ds)(hd:Vals dvs ds)(hx:Passes CX X E)(ha:PA X (e::es) t)
  (hst:az (e::es) X.env=(false,eval e X.env)::az es X.env:=by rfl) (hpl:(b8 pos (az es X.env)).any (·.1)=false:=by rfl)
  (ht:eval (.Call (.Attribute o m apos) (e::es) [] pos) X.env=(do
   let ov <-eval o X.env
   g7 apos.atName
   let (f,first) <-fB [ov] (fF ov m pl)
   gW pos f first (b8 pos (az (e::es) X.env)) (eO pos (cV [] X.env))):=by rfl):
  PE X (.Call (.Attribute o m apos) (e::es) [] pos) (M7 sp dvs E t):=by
 intro pins s σ H Q I h
 obtain⟨mc,h1,h2⟩:=hm.rd
 refine d7 (pl:=pl) (he pins s σ H (λv H1=>v=.ref C/\H1=H) I ⟨rfl,rfl⟩ |> λq=>thn q λu s1 hZ=>?_) ht;obtain⟨x,H1,I1,rx,ex,eH⟩:=hZ
 subst ex
 subst eH
 obtain rfl:u=Value.ref C:=rx
 refine PySem.W.method_cls I1.kIn hm.ga (PySem.W.cls_value I1.kIn h1 h2 rfl ?_)
 refine fg (first:=[]) (h₀:=X.base) I.ok.mod.kin hm.kp (thn (ha pos pins _ σ H1 _ (I1.tok _) h) λus s2⟨vs,H2,I2,r,q2⟩=>⟨I2.kIn,?_⟩) hst hpl
 exact Mr F hr hb hd hx I2 r q2
section
variable {X:Cx}
def tCut(t:TS):TS:=λD σ H=>∃M:L2.St->Hp->Prop,t {D with nx:=M} σ H/\∀σ' H',M σ' H'->D.nx σ' H'
theorem Tp{st:Stmt}{t:TS}(h:PS X st t):PS X st (tCut t):=by
 intro pins s σ H D I ⟨M,q,k⟩;refine thn (h pins s σ H _ I q) λfl s' z=>?_;cases fl with
|next=>obtain⟨σ',H',I',m⟩:=z;exact⟨σ',H',I',k _ _ m⟩
|brk=>exact z
|cont=>exact z
|ret u=>exact z
noncomputable def cstE:Expr->Option V
|.Constant (.str x) _ _=>some (.str x)
|.Constant (.int n) _ _=>some (.int n)
|.Constant .none _ _=>some .non
|_=>none
def tCs(vs:List V):TA:=λ_ H Q=>Q vs H
theorem LF{e:Expr}{v:V}(h:cstE e=some v):PE X e (tC v)/\notStar e=true:=by
 unfold cstE at h;split at h
 ·cases h;exact⟨ZC,rfl⟩
 ·cases h;exact⟨Zb,rfl⟩
 ·cases h;exact⟨ZZ,rfl⟩
 ·cases h
theorem Y6:∀{es:List Expr},(es.all λe=>(cstE e).isSome)=true->PA X es (tCs (es.filterMap cstE))
|[],_=>Zj
|e::es,h=>by
  rw[List.all_cons,Bool.and_eq_true]at h;obtain⟨v,hv⟩:=b7.mp h.1;obtain⟨pe,ns⟩:=LF (X:=X) hv;have:=Zh pe (Y6 h.2) ns;have e2:tCs ((e::es).filterMap cstE)=Xy (tC v) (tCs (es.filterMap cstE)):=by rw[fj,hv];rfl
  rw[e2];exact this
end
theorem Vq{X:Cx}(hu:X.A.units+64<cLine):OpR X (bA .NotEq) (rNil true X.K):=by
 intro pins s σ H x y v u Q I rx ry h;obtain⟨a,b,xs,rfl,rfl,ha,hb,q⟩:=h;cases rx;cases ry;obtain⟨its,rv,p1,_⟩:=I.list ha;obtain⟨_,its2,n2,rv2,_,e2⟩:=I.lstM hb;have h2:=rv2.zero;subst h2;have l2:s.heap.IsList b #[]:=⟨_,e2,rfl,_,rfl⟩;have hl:=rv.length;by_cases hx:xs=[]
 ·subst hx;have h1:=rv.zero;subst h1;refine SeqAt.RcNeAt.lists (A:=X.A) (s:=s) (e:=λ_=>true) p1.isList l2 rfl (by omega) (λj h1 h2=>by simp at h2) X.prog X.w X.xe (EP X pins σ Q) ⟨.bl false,H,I,rfl,?_⟩;simpa using q
 ·refine SeqAt.RcNeAt.lists_lengths (A:=X.A) (s:=s) p1.isList l2 ?_ (by omega) X.prog X.w X.xe (EP X pins σ Q) ⟨.bl true,H,I,rfl,?_⟩
  ·simpa using λz=>hx (by subst z;simpa using hl)
  ·simpa[hx]using q
end L2
namespace WD
open PySem L2 PySem.Spec PyProof.Rows TB K1
def Nx(t:Str):Prop:=(codes t).length<=8/\(∃c r,codes t=c::r/\c∈LET)/\∀c∈codes t,c∈LET++FIG
theorem TR{t:Str}(h:Nx t):Z3 false (.str t)=true:=by
 obtain⟨h2,⟨c,r,e,hc⟩,h3⟩:=h;show K1.XW 8 (K1.codes K1.tNAME) (codes t)=true;unfold K1.XW K1.Yy K1.lenB;rw[K1.Ez];simp only[Bool.and_eq_true,decide_eq_true_eq,cz];refine⟨⟨⟨by rw[e,aU];omega,by omega⟩,λd hd=>?_⟩,?_⟩
 ·exact bI _ (h3 d hd)
 ·rw[e];exact hc
noncomputable def sufs:List Str:=["",".a","."]
theorem Pa:∀s∈sufs,(codes s).length<=2/\(∀c∈codes s,c∈LET++K1.FIG++[46])/\((codes s).head?.map λc=>decide (c=46))≠some false:=by decide +kernel
theorem DB{t s:Str}(h:Nx t)(hs:s∈sufs):Z3 true (.str (t++s))=true:=by
 obtain⟨h2,⟨c,r,e,hc⟩,h3⟩:=h;obtain⟨s1,s2,_⟩:=Pa s hs;show K1.XW 12 (K1.codes K1.tGROUP) (codes (t++s))=true;unfold K1.XW K1.Yy K1.lenB;rw[K1.DP,Y3];simp only[Bool.and_eq_true,decide_eq_true_eq,cz,av];refine⟨⟨⟨by rw[e,aU];omega,by omega⟩,λd hd=>?_⟩,?_⟩
 ·rcases aK.mp hd with hd|hd
  ·exact bI _ (h3 d hd)
  ·exact s2 d hd
 ·rw[e];exact hc
theorem DH:46∉LET++FIG:=by decide +kernel
theorem Qn{t s:Str}(h:Nx t)(hs:s∈sufs):(codes (t++s)).takeWhile (λc=>decide (c≠46))=codes t:=by
 obtain⟨_,_,h3⟩:=h;obtain⟨_,_,s3⟩:=Pa s hs;rw[Y3,List.takeWhile_append_of_pos (p:=λc=>decide (c≠46)) (λc hc=>decide_eq_true (λ(z:c=46)=>DH (z▸h3 c hc)))];cases e:codes s with
|nil=>simp
|cons c r=>
  rw[e]at s3;have:c=46:=by simpa using s3
  rw[List.takeWhile_cons_of_neg (by simp[this]),bp]
theorem WI{t t' s s':Str}(h:Nx t)(h':Nx t')(hs:s∈sufs)(hs':s'∈sufs)(e:t++s=t'++s'):t=t':=by have:=congrArg (λz=>(codes z).takeWhile (λc=>decide (c≠46))) e;simp only[Qn h hs,Qn h' hs']at this;exact RR this
noncomputable def wdx:List Str:=["ride","home","turns","place","way","group","to","a","out","wait","walk","turn","ab","b"]
noncomputable def wdxFrom(a n:Nat):List Str:=(bh n).map λk=>wdx.getD ((a+3*k) % 14) ""
theorem Lf:∀a<14,∀n<15,(wdxFrom a n).Nodup:=by decide +kernel
theorem Le:∀t∈wdx,(codes t).length<=8/\((codes t).head?.map λc=>decide (c∈LET))=some true/\∀c∈codes t,c∈LET++FIG:=by decide +kernel
theorem N2(a n:Nat):∀t∈wdxFrom a n,Nx t:=λt ht=>by
 obtain⟨k,_,rfl⟩:=ai.mp ht;have:(a+3*k) % 14<wdx.length:=Nat.mod_lt _ (by decide);rw[aQ,gE this];obtain⟨h1,h2,h3⟩:=Le _ (aL this);refine⟨h1,?_,h3⟩;show ∃c r,codes wdx[(a+3*k) % 14]=c::r/\c∈LET;generalize codes wdx[(a+3*k) % 14]=l at h2;cases l with
|nil=>cases h2
|cons c r=>exact⟨c,r,rfl,by simpa using h2⟩
theorem Lg(a i:Nat):(wdx.map V.str)[(a+3*i) % 14]?=some (.str (wdx.getD ((a+3*i) % 14) "")):=by have:(a+3*i) % 14<wdx.length:=Nat.mod_lt _ (by decide);rw[aW,aQ,gE this];rfl
noncomputable def sg7(f k:Nat):Nat:=LET.getD ((f+7*k) % 26) 0
theorem Qw(f k:Nat):sg7 f k∈LET:=by have:(f+7*k) % 26<LET.length:=Nat.mod_lt _ (by decide);unfold sg7;rw[aQ,gE this];exact aL this
theorem Lp(f i:Nat):(codes K1.tLET)[(f+7*i) % 26]?=some (sg7 f i):=by have:(f+7*i) % 26<LET.length:=Nat.mod_lt _ (by decide);rw[show codes K1.tLET=LET from K1.cLET,sg7,aQ,gE this];rfl
theorem Lo:∀f<26,((bh 26).map (sg7 f)).Nodup:=by decide +kernel
theorem WV{f x y:Nat}(hf:f<26)(hx:x<26)(hy:y<26)(e:sg7 f x=sg7 f y):x=y:=by
 have h1:((bh 26).map (sg7 f))[x]'(by simpa using hx)=((bh 26).map (sg7 f))[y]'(by simpa using hy):=by simpa using e
 exact(fL (Lo f hf)).mp h1
noncomputable def end9(k:Nat):Str:=Txt.slice "z9" none (some ((k % 3:Nat):Int))
theorem RS(k:Nat):codes (end9 k)=[122,57].take (k % 3):=by unfold end9;rw[Gp _ _ (by omega)];rfl
noncomputable def put7(base:Str)(a f k:Nat):Str:=put base a (sg7 f k)++end9 k
noncomputable def puts7(base:Str)(a f n:Nat):List Str:=(bh n).map (put7 base a f)
theorem J4{base:Str}{a:Nat}(h:a<=base.length)(f k:Nat):codes (put7 base a f k)=(codes base).take a++(sg7 f k::((codes base).drop a++[122,57].take (k % 3))):=by unfold put7;rw[Y3,RP h,RS];simp
theorem Tf{base:Str}{sz:Nat}(hb:Bs sz base)(hs:sz<=5){a:Nat}(ha:a<=sz)(f n:Nat):∀t∈puts7 base a f n,Nx t:=λt ht=>by
 obtain⟨k,_,rfl⟩:=ai.mp ht;have hl:base.length=sz:=by rw[<-ZU];exact hb.1
 have m3:k % 3<3:=Nat.mod_lt _ (by decide);have hall:∀c∈codes base,c∈LET++FIG:=λc hc=>bI _ (hb.2 c hc);have hz:∀c∈([122,57]:List Nat),c∈LET++FIG:=by decide +kernel
 unfold Nx;rw[J4 (by omega)];refine⟨?_,?_,λc hc=>?_⟩
 ·simp only[av,aU,aF,c6,hb.1,List.length_nil];omega
 ·cases e:(codes base).take a with
 |nil=>exact⟨_,_,rfl,Qw f k⟩
 |cons c r=>exact⟨c,_,rfl,hb.2 c (cO (e▸aA))⟩
 ·simp only[aK,ar]at hc;rcases hc with hc|rfl|hc|hc
  ·exact hall c (cO hc)
  ·exact bI _ (Qw f k)
  ·exact hall c (gn hc)
  ·exact hz c (cO hc)
theorem Tg{base:Str}{sz:Nat}(hb:Bs sz base){a:Nat}(ha:a<=sz){f n:Nat}(hf:f<26)(hn:n<=26):(puts7 base a f n).Nodup:=by
 have hl:base.length=sz:=by rw[<-ZU];exact hb.1
 refine nodup_map_on List.nodup_range λx hx y hy e=>?_;have e1:=congrArg codes e;rw[J4 (by omega),J4 (by omega)]at e1;have:=List.append_cancel_left e1;injection this with e2 _;rw[cj]at hx hy;exact WV hf (by omega) (by omega) e2
end WD
namespace WD
open PySem L2 PySem.Spec PyProof.Rows TB
def J8:Sp:=λvs H Q _=>∃(b:Addr)(n:Int),vs=[.ref b,.int n]/\Zz H b/\0<=n/\n<=20/\∀H' l(ts:List Str),Zz H' b->Zi b H H'->H l=none->H' l=some (.lst (ts.map V.str))->l≠b->(ts.length:Int)=n->ts.Nodup->(∀t∈ts,Nx t)->Q (.ref l) H'
theorem modN{x:Int}{k n:Nat}(h:x=k):x % (n:Int)=((k % n:Nat):Int):=by rw[h];rfl
theorem DQ{r:Int}(h0:0<=r)(h1:r<26):∃c,atI (codes K1.tLET) r=some c/\c∈LET:=by obtain⟨c,h,m⟩:=at_of (xs:=codes K1.tLET) h0 (by rw[show codes K1.tLET=LET from K1.cLET];exact h1);rw[show codes K1.tLET=LET from K1.cLET]at m;exact⟨c,h,m⟩
theorem Qg{α:Type}{xs:List α}{i:Int}{j:Nat}{v:α}(e:i=(j:Int))(h:xs[j]?=some v):atI xs i=some v:=by rw[e];exact Zl h
theorem R5{b:Addr}{H H1:Hp}{i:Nat}{ts:List Str}{c:Nat}(e:ts.length=i)(h:∀t∈ts,Bs 1 t)(hc:c∈LET):(ts++[(⟨#[c]⟩:Str)]).length=i+1/\∀t∈ts++[(⟨#[c]⟩:Str)],Bs 1 t:=by
 refine⟨by simp[e],λt ht=>?_⟩;rcases aK.mp ht with ht|ht
 ·exact h t ht
 ·rw[a7]at ht;subst ht;exact⟨rfl,λd hd=>by rw[a7.mp hd];exact hc⟩
theorem SA:∀(ts:List Str),(∀t∈ts,Bs 1 t)->(ts.map (·.length)).sum=ts.length
|[],_=>rfl
|t::r,h=>by have h1:=(h t aA).1;rw[ZU]at h1;rw[ax,fG,h1,SA r λu hu=>h u (aq _ hu),aU];omega
theorem X9{b l:Addr}{H H1:Hp}(s:Zi b H H1)(hl:H1 l=none)(n:l≠b):H l=none:=by
 cases e:H l with
|none=>rfl
|some o=>rw[s _ _ e n]at hl;cases hl
section
variable {P:Program}{w:World}{K:ae}{mg:Str->Option Value}{base:Heap}
theorem Z2:FnScope [q_b,"_law_many","_law_letters","_law_words","_law_at","_law_k","_law_base","_law_first","_law_names_here","_law_sign"] [q_b,"_law_many"] (Zf T.f__law_names):=scO
noncomputable def Jk:Scope:=csx [(".0",.local),("_law_k",.local),("_law_at",.free),("_law_words",.free)]
theorem VF:CompScope Jk (Zf T.f__law_names):=⟨rfl,by decide +kernel,by decide +kernel,by decide +kernel⟩
theorem VH:(["_law_k","_law_at","_law_words"]:List Str).Nodup:=by decide +kernel
theorem VG:CompNames [q_b,"_law_many","_law_letters","_law_words","_law_at","_law_k","_law_base","_law_first","_law_names_here","_law_sign"] Jk ["_law_k","_law_at","_law_words"] [none,some 4,some 3]:=.mk' (by decide +kernel)
noncomputable def Jj:Scope:=csx [(".0",.local),("_law_k",.local),("_law_take",.globalImplicit),(q_b,.free),("_law_letters",.free)]
theorem VC:CompScope Jj (Zf T.f__law_names):=⟨rfl,by decide +kernel,by decide +kernel,by decide +kernel⟩
theorem VE:(["_law_k",q_b,"_law_letters"]:List Str).Nodup:=by decide +kernel
theorem VD:CompNames [q_b,"_law_many","_law_letters","_law_words","_law_at","_law_k","_law_base","_law_first","_law_names_here","_law_sign"] Jj ["_law_k",q_b,"_law_letters"] [none,some 0,some 2]:=.mk' (by decide +kernel)
theorem RV(B:∀x∈Blts,mg x=none)(CT:Can P w K mg base 1 "_law_take" [q_b,"_law_many"] X2)(D:Df K mg "_law_names" T.f__law_names [q_b,"_law_many"]):Can P w K mg base 2 "_law_names" [q_b,"_law_many"] J8:=by
 refine D.cn Z2 λf cdv A outer s H vs Q E hr h=>?_;obtain⟨b,n,rfl,hb,hn1,hn2,k⟩:=h;have hsz:n.toNat<=sizeLine:=Nat.le_trans (by omega:n.toNat<=1000) (by decide);refine' ⟨_,(@Za _ _ _ _ _ ?h6 (@Za _ _ _ _ _ ?h7 (@Za _ _ _ _ _ ?h8 (@Za _ _ _ _ _ ?h9 (@Za _ _ _ _ _ ?h10 (@Za _ _ _ _ _ ?h11 (@Za _ _ _ _ _ ?h12 (@Za _ _ _ _ _ ?h13 (@Ze _ _ _ ?h14))))))))),?rd⟩;case' h14=>refine' (Zk (pv 8))
 case' h13=>refine' (ZW aD rfl (YY rfl (bm B) (@pa1 _ _ _ (pv 1) (by rfl))) (nmT 5 Z2.nd) (@Za _ _ _ _ _ ?h4 (@Ze _ _ _ ?h5)))
 case' h12=>refine' (@st _ _ _ _ 8 _ _ Z2.nd ?h3 (by rfl) (by exact aN rfl) (by rfl) (by exact .inl rfl))
 case' h11=>refine' (@st _ _ _ _ 7 _ _ Z2.nd (cn CT hr (@pa2 _ _ _ _ _ (pv 0) Zb (by rfl))) (by rfl) (by exact aN rfl) (by rfl) (by exact .inl rfl))
 case' h10=>refine' (@YA _ _ 4 _ _ _ _ Z2.nd (by rfl) (by exact fJ rfl) (cn CT hr (@pa2 _ _ _ _ _ (pv 0) (Zt ZQ (Zy MT rfl (bm B) aT (@pa1 _ _ _ (pv 6) (by rfl))) Zb) (by rfl))) (by rfl) (by exact aN rfl))
 case' h9=>refine' (@st _ _ _ _ 6 _ _ Z2.nd (Vl PySem.F.plainAttrs_str PySem.F.slot_str_join PySem.F.type_str_join Km ZC (@pa1 _ _ _ (JB rfl VC VD (YY rfl (bm B) (@pa1 _ _ _ (cn CT hr (@pa2 _ _ _ _ _ (pv 0) Zb (by rfl))) (by rfl))) (λC s H ex pn=>(nmT 0 VE)) (λC s H ex pn=>Uv) (λC s H ex pn=>(Yd ML (pv 2) (cn CT hr (Zh (pv 1) (Zh Zb Zj))) (λ_ _=>rfl)))) (by rfl))) (by rfl) (by exact aN rfl) (by rfl) (by exact .inl rfl))
 case' h8=>refine' (Tp (@ZD _ _ _ _ _ _ _ _ (PW.pt (VV (@Zr _ _ _ _ _ _ _ _ QK (pv 1) Zb (Zw _)) (Ve (@Zr _ _ _ _ _ _ _ _ Ug (cn CT hr (@pa2 _ _ _ _ _ (pv 0) Zb (by rfl))) Zb (Zw _))))) (@Za _ _ _ _ _ ?h1 (@Ze _ _ _ ?h2)) Zo))
 case' h7=>refine' (@YA _ _ 3 _ _ _ _ Z2.nd (by rfl) (by exact fJ rfl) (@Z0 _ _ _ _ (@Y6 _ _ (by decide +kernel))) (by rfl) (by exact aN rfl))
 case' h6=>refine' (@YA _ _ 2 _ _ _ _ Z2.nd (by rfl) (by exact fJ rfl) ZC (by rfl) (by exact aN rfl))
 case' h5=>refine' (ZX (Vl bq bE bD YI (pv 8) (@pa1 _ _ _ (Zt X7 (Zt X7 (Zt X7 (XS Pe (pv 6) Jz (Jy (pv 4))) (pv 9)) (XS Pe (pv 6) (Jy (pv 4)) Jz)) (XS Pe ZC Jz (Jy (Zt Y0 (pv 5) Zb)))) (by rfl))))
 case' h4=>refine' (@st _ _ _ _ 9 _ _ Z2.nd (Yd ML (pv 2) (Zt Y0 (Zt ZQ (pv 7) (Zt Xf Zb (pv 5))) Zb) (λ_ _=>rfl)) (by rfl) (by exact aN rfl) (by rfl) (by exact .inl rfl))
 case' h3=>refine' (@Z0 _ _ _ _ Zj)
 case' h2=>refine' (Zk (JB rfl VF VG (YY rfl (bm B) (@pa1 _ _ _ (pv 1) (by rfl))) (λC s H ex pn=>(nmT 0 VH)) (λC s H ex pn=>Uv) (λC s H ex pn=>(il K (pv 2) (Zt Y0 (Zt ZQ (pv 1) (Zt Xf Zb (pv 0))) Zb)))))
 case' h1=>refine' (@YA _ _ 4 _ _ _ _ Z2.nd (by rfl) (by exact fJ rfl) (cn CT hr (@pa2 _ _ _ _ _ (pv 0) Zb (by rfl))) (by rfl) (by exact aN rfl))
 case' rd=>
 refine⟨zl,λl hl=>?_⟩;have nlb:=hb.ne hl;have e0:upd H l (.lst (wdx.map V.str)) l=some (.lst (wdx.map V.str)):=Zd;have B0:Zz (upd H l (.lst (wdx.map V.str))) b:=hb.new hl;have S0:Zi b H (upd H l (.lst (wdx.map V.str))):=(Zi.refl b H).new' hl;show tSeq _ _ _ _ (upd H l (.lst (wdx.map V.str)));generalize upd H l (.lst (wdx.map V.str))=H0 at e0 B0 S0 ⊢;refine⟨λσ' H'=>Zz H' b/\Zi b H H'/\σ'=[some (.ref b),some (.int n),some (.str K1.tLET),some (.ref l),none,none,none,none,none,none],?_,?_⟩
 ·refine⟨_,rfl,_,_,rfl,rfl,_,rfl,?_⟩;refine ite2 (λe15=>?_) (λ_=>?_)
  ·refine tkC B0 (λr H1 h0 h1 B1 S1=>?_);refine⟨rfl,_,rfl,?_⟩;refine ite2 (λ_=>?_) (λ_=>⟨B1,S0.trans S1,rfl⟩);have hn15:n<15:=of_decide_eq_true e15;refine tkC B1 (λr2 H2 h02 h12 B2 S2=>?_);have hw:H2 l=some (.lst (wdx.map V.str)):=S2 _ _ (S1 _ _ e0 nlb) nlb;have S02:=(S0.trans S1).trans S2;refine⟨_,rfl,n,rfl,by omega,by omega,VI (J:=Itr 0 n.toNat) n.toNat hsz
    (λi ys τ H'=>H'=H2/\ys=(wdxFrom r2.toNat i).map V.str/\∃v,τ=[v,some (.int r2),some (.ref l)]) ⟨rfl,rfl,none,rfl⟩ (λi ys τ H' p=>?_) (λi ys τ H' hi p=>hi) (λys τ H' p=>Nat.le_refl _) (λi ys τ H' x' H3 hi p yl=>?_) (λys τ H' p q hq=>?_)⟩
   ·obtain⟨_,rfl,_⟩:=p;simp[wdxFrom]
   ·obtain⟨rfl,rfl,v,rfl⟩:=p;obtain⟨rfl,rfl⟩:=yl;refine⟨_,rfl,_,rfl,_,rfl,_,_,rfl,rfl,.inl ⟨by decide,by decide⟩,_,_,rfl,rfl,_,_,rfl,rfl,(by show(0:Int)<14;decide),l,_,_,_,rfl,rfl,SqL.of hw,Qg (j:=(r2.toNat+3*i) % 14) (modN (n:=14) (by omega)) (Lg _ _),rfl,?_,_,rfl⟩;simp[wdxFrom,fW]
   ·obtain⟨rfl,rfl,v,rfl⟩:=p;exact k _ q _ (B2.new hq) (S02.new' hq) (X9 S02 hq (B2.ne hq)) Zd (B2.ne hq) (by simp[wdxFrom];omega) (Lf _ (by omega) _ (by omega)) (N2 _ _)
  ·exact⟨B0,S0,rfl⟩
 ·intro σ' H1 hM;obtain⟨B1,S1,rfl⟩:=hM;clear e0 B0 S0;refine⟨rfl,tkC B1 (λsz H2 h02 h12 B2 S2=>?_)⟩;have S02:=S1.trans S2;refine⟨sz,rfl,by omega,by omega,VI (J:=Itr 0 sz.toNat) sz.toNat (Nat.le_trans (by omega:sz.toNat<=8) (by decide))
    (λi ys τ H'=>Zz H' b/\Zi b H H'/\(∃ts:List Str,ys=ts.map V.str/\ts.length=i/\∀t∈ts,Bs 1 t)/\∃v,τ=[v,some (.ref b),some (.str K1.tLET)]) ⟨B2,S02,⟨[],rfl,rfl,by simp⟩,none,rfl⟩ (λi ys τ H' p=>?_) (λi ys τ H' hi p=>hi) (λys τ H' p=>Nat.le_refl _) (λi ys τ H' x' H3 hi p yl=>?_) (λys τ H' p q hq=>?_)⟩
  ·obtain⟨_,_,⟨ts,rfl,e,_⟩,_⟩:=p;rw[lm,e];exact Nat.le_refl _
  ·obtain⟨bx,sm,⟨ts,rfl,e,ho⟩,v,rfl⟩:=p;obtain⟨rfl,rfl⟩:=yl;refine⟨_,rfl,tkC bx (λr4 H4 h04 h14 B4 S4=>?_)⟩;obtain⟨c,hat,hc⟩:=DQ h04 h14;obtain⟨g1,g2⟩:=R5 (b:=b) (H:=H) (H1:=H) e ho hc;exact⟨_,r4,c,rfl,rfl,by decide +kernel,hat,B4,sm.trans S4,⟨ts++[⟨#[c]⟩],by rw[aE];rfl,g1,g2⟩,_,rfl⟩
  ·obtain⟨bx,sm,⟨ts,rfl,e,ho⟩,v,rfl⟩:=p;refine⟨_,q,ts,rfl,rfl,SqL.of Zd,?_,?_⟩
   ·rw[SA _ ho,e];show sz.toNat+sz.toNat*0<=16777216;omega
   have hbs:Bs ts.length (Txt.join (Str.ofString "") ts):=Bs.join ho;rw[e]at hbs;have hl8:(Txt.join (Str.ofString "") ts).length=sz.toNat:=by rw[<-ZU];exact hbs.1
   have B3:=bx.new hq (o:=.lst (ts.map V.str));have S3:=sm.new' hq (o:=.lst (ts.map V.str));generalize upd H' q (.lst (ts.map V.str))=H3 at B3 S3 ⊢;clear bx sm hq;generalize Txt.join (Str.ofString "") ts=bs at hbs hl8 ⊢;dsimp only[Zq,au];have z1:(100:Nat)<=sizeLine:=by decide
   refine⟨_,rfl,_,rfl,_,rfl,by omega,_,_,rfl,rfl,b,_,rfl,B3,?_,ZP ?_ ?_,λat_ H4 h03 h13 B4 S4=>?_⟩
   ·rw[hl8];omega
   ·rw[hl8];omega
   ·rw[hl8];omega
   have S04:=S3.trans S4;refine tkC B4 (λfi H5 h05 h15 B5 S5=>?_);have S05:=S04.trans S5;refine⟨Nat.zero_le _,λl2 hl2=>?_⟩;have nl2:=B5.ne hl2;have n0:=X9 S05 hl2 nl2;dsimp only[Zq,au];refine⟨_,rfl,n,rfl,by omega,by omega,?_⟩;refine Z8 (J:=Itr 0 n.toNat) n.toNat (λi σ H'=>Zz H' b/\Zi b H H'/\H' l2=some (.lst ((puts7 bs at_.toNat fi.toNat i).map V.str))/\∃o5 o9,σ=[some (.ref b),some (.int n),some (.str K1.tLET),some (.ref l),some (.int at_),o5,some (.str bs),some (.int fi),some (.ref l2),o9]) ⟨B5.new hl2,S05.new' hl2,Zd,_,_,rfl⟩ (λi σ H' hi q=>hi) (λσ H' q=>Nat.le_refl _) (λi σ H' v H6 hi q yl=>?_) (λσ H' q=>?_)
   ·obtain⟨bx,sm,el,o5,o9,rfl⟩:=q;obtain⟨rfl,rfl⟩:=yl;dsimp only[Zq,au];refine td λD' hdd=>?_;refine⟨_,rfl,_,rfl,_,rfl,_,_,rfl,rfl,.inl ⟨by decide,by decide⟩,_,_,rfl,rfl,_,_,rfl,rfl,(by show(0:Int)<26;decide),_,_,_,rfl,rfl,by decide +kernel,Qg (j:=(fi.toNat+7*i) % 26) (modN (n:=26) (by omega)) (Lp _ _),?_⟩;have e1:=Txt.slice_le bs none (some at_);have e2:=Txt.slice_le bs (some at_) none;have e3:=Txt.slice_le "z9" none (some ((0+(i:Int)) % 3));have e4:("z9":Str).length=2:=by decide +kernel
    refine⟨_,rfl,.inl ⟨rfl,_,SqL.of el⟩,?_⟩;refine⟨_,rfl,_,rfl,_,rfl,_,rfl,by omega,_,rfl,_,_,rfl,rfl,?_,_,rfl,_,rfl,_,rfl,_,rfl,by omega,_,_,rfl,rfl,?_,_,rfl,_,_,rfl,rfl,(by show(0:Int)<3;decide),_,rfl,_,rfl,by omega,_,_,rfl,rfl,?_,?_⟩
    ·show _+1<=_;omega
    ·rw[Str.length_append];show _+1+_<=_;omega
    ·rw[Str.length_append,Str.length_append];show _+1+_+_<=_;omega
    have ev:Txt.slice bs none (some at_)++{cps:=#[sg7 fi.toNat i]}++Txt.slice bs (some at_) none++Txt.slice (Str.ofString "z9") none (some ((0+(i:Int)) % 3))=put7 bs at_.toNat fi.toNat i:=by
     have e5:at_=((at_.toNat:Nat):Int):=by omega
     have e6:(0+(i:Int)) % 3=((i % 3:Nat):Int):=by omega
     rw[e6,put7,put,end9,<-e5]
    rw[ev];refine⟨l2,_,_,rfl,rfl,el,Nat.lt_of_le_of_lt (by rw[lm];show(puts7 bs at_.toNat fi.toNat i).length<=99;simp[puts7];omega) z1,?_⟩;refine hdd _ _ ⟨Zz.same_ne bx nl2,Xm sm S05 nl2 hl2,?_,_,_,rfl⟩;rw[Zd];simp[puts7,fW]
   ·obtain⟨bx,sm,el,o5,o9,rfl⟩:=q;refine⟨_,rfl,?_⟩;exact k _ l2 _ bx sm n0 el nl2 (by simp[puts7];omega) (Tg hbs (by omega) (by omega) (by omega)) (Tf hbs (by omega) (by omega) _ _)
def Ml(K:ae):Sp:=λvs H Q _=>∃(a:Addr)(ns:List Int)(k:Nat),vs=[.ref a,.int k]/\SqL K H a (ns.map V.int)/\ns.length<=1000/\k<=1000/\∀c:Int,Q (.int c) H
theorem QU{ns:List Int}{i:Int}(h0:0<=i)(h1:i<ns.length):∃c,atI (ns.map V.int) i=some (.int c):=by obtain⟨v,h,m⟩:=at_of (xs:=ns.map V.int) h0 (by rw[lm];exact h1);obtain⟨c,_,rfl⟩:=ai.mp m;exact⟨c,h⟩
theorem Nd:FnScope ["_law_script","_law_k"] ["_law_script","_law_k"] (Zf T.f__law_cell):=scO
theorem WA(B:∀x∈Blts,mg x=none)(D:Df K mg "_law_cell" T.f__law_cell ["_law_script","_law_k"]):Can P w K mg base 1 "_law_cell" ["_law_script","_law_k"] (Ml K):=by
 refine D.cn Nd λf cdv A outer s H vs Q E hr h=>?_;obtain⟨a,ns,k,rfl,hS,hl,hk,q⟩:=h;refine' ⟨_,(@Za _ _ _ _ _ ?h5 (@Za _ _ _ _ _ ?h6 (@Ze _ _ _ ?h7))),?rd⟩;case' h7=>refine' (Zk (Zt ZQ (Zt QM ?h4 (Zt ZQ (pv 1) Zb)) (Zt Xf Zb (pv 1))))
 case' h6=>refine' (@ZD _ _ _ _ _ _ _ _ (@Zr _ _ _ _ _ _ _ _ Ug (Zy (r:=rLen K) ZI rfl (bm B) aT (@pa1 _ _ _ (pv 0) (by rfl))) Zb (Zw _)) (@Ze _ _ _ ?h3) Zo)
 case' h5=>refine' (@ZD _ _ _ _ _ _ _ _ (@Zr _ _ _ _ _ _ _ _ QK (pv 1) (Zy (r:=rLen K) ZI rfl (bm B) aT (@pa1 _ _ _ (pv 0) (by rfl))) (Zw _)) (@Ze _ _ _ ?h2) Zo)
 case' h4=>refine' (@il _ _ _ _ _ _ K (pv 0) (Zt Y0 (pv 1) (Zy (r:=rLen K) ZI rfl (bm B) aT (@pa1 _ _ _ (pv 0) (by rfl)))) (by rfl) (by exact λ_ _=>rfl))
 case' h3=>refine' (Zk (Zt ZQ (Zt Xf Zb (pv 1)) Zb))
 case' h2=>refine' (Zk ?h1)
 case' h1=>refine' (@il _ _ _ _ _ _ K (pv 0) (pv 1) (by rfl) (by exact λ_ _=>rfl))
 case' rd=>
 refine⟨_,rfl,_,rfl,a,_,rfl,.inl hS,_,_,rfl,rfl,_,rfl,?_⟩;refine ite2 (λe=>?_) (λe=>?_)
 ·have hlt:(k:Int)<ns.length:=by have:=of_decide_eq_true e;rw[lm]at this;exact this
  obtain⟨c,hc⟩:=QU (ns:=ns) (i:=k) (by omega) hlt;exact⟨_,rfl,_,rfl,a,_,_,_,rfl,rfl,hS,hc,q c⟩
 ·refine⟨_,rfl,a,_,rfl,.inl hS,rfl,_,rfl,?_⟩;refine ite2 (λe2=>?_) (λe2=>?_)
  ·exact⟨_,rfl,_,_,rfl,rfl,.inl ⟨by decide,by decide⟩,_,_,rfl,rfl,q _⟩
  ·have hl0:ns.length≠0:=λz=>by rw[lm,z]at e2;exact e2 (decide_eq_true rfl)
   have m0:0<=(k:Int) % ns.length:=Int.emod_nonneg _ (by omega);have m1:(k:Int) % ns.length<ns.length:=Int.emod_lt_of_pos _ (by omega);obtain⟨c,hc⟩:=QU (ns:=ns) m0 m1;refine⟨_,rfl,_,rfl,_,rfl,a,_,rfl,.inl hS,_,_,rfl,rfl,(by rw[lm];omega),a,_,_,_,rfl,rfl,hS,(by rw[lm];exact hc),_,rfl,_,_,rfl,rfl,_,_,rfl,rfl,⟨by omega,by omega⟩,_,rfl,_,_,rfl,rfl,.inl ⟨by decide,by decide⟩,_,_,rfl,rfl,q _⟩
theorem RowsAt.app{b:Addr}{H:Hp}{l:Addr}{rows:List (List V)}(h:RowsAt b H l rows):∃xs:List V,H l=some (.lst xs)/\xs.length=rows.length/\∀q row,H q=none->q≠b->RowsAt b (upd (upd H q (.tup row)) l (.lst (xs++[.ref q]))) l (rows++[row]):=by
 obtain⟨n,as,e,hl,r⟩:=h;refine⟨_,e,by rw[lm,hl],λq row hq nq=>⟨n,as++[q],?_,by simp[hl],λi a r' h1 h2=>?_⟩⟩
 ·rw[Zd,aE];rfl
 ·have nl:q≠l:=λz=>by rw[z,e]at hq;cases hq
  rcases Nat.lt_or_ge i as.length with hi|hi
  ·rw[dO hi]at h1;rw[dO (by omega)]at h2;obtain⟨x,y⟩:=r i a r' h1 h2;refine⟨x,?_⟩;rw[Zc (ne_of y e (λz=>nomatch z)),Zc (ne_of_none y hq)];exact y
  ·rw[dG hi]at h1;rw[dG (by omega)]at h2;have hi0:i-as.length=0:=by
    rcases Nat.eq_zero_or_pos (i-as.length)with z|z
    ·exact z
    ·rw[dr (by simp;omega)]at h1;cases h1
   rw[hi0]at h1;rw[<-hl,hi0]at h2;cases h1;cases h2;refine⟨nq,?_⟩;rw[Zc nl];exact Zd
structure RdX(n:Int)(ns ss:List Str)(r:Rd):Prop where
 st:r.st∈ss
 gl:r.gl∈ns
 ne:r.st≠r.gl
 lv0:0<=r.lv
 lv1:r.lv<=n-1
 cm0:r.lv+1<=r.cm
 cm1:r.cm<=n
 se0:0<=r.se
 se1:r.se<=1000
structure NmL(H:Hp)(b lN lS:Addr)(ns ss:List Str):Prop where
 n:H lN=some (.lst (ns.map V.str))
 s:H lS=some (.lst (ss.map V.str))
 nn:lN≠b
 ne:lS≠b
 nd:ns.Nodup
 sub:∀t∈ss,t∈ns
 len:ns.length<=20
 lenS:ss.length<=20
 sh:∀t∈ns,t.length<=1000
theorem NmL.same{H H':Hp}{b lN lS:Addr}{ns ss:List Str}(s:Zi b H H')(h:NmL H b lN lS ns ss):NmL H' b lN lS ns ss:=⟨s _ _ h.n h.nn,s _ _ h.s h.ne,h.nn,h.ne,h.nd,h.sub,h.len,h.lenS,h.sh⟩
theorem Yv{α:Type}(p:α->Bool)(l:List α){i:Nat}{a:α}(h:l[i]?=some a):(l.take (i+1)).filter p=(l.take i).filter p++(if p a=true then[a]else[]):=by rw[aV,h,gT];simp only[Option.toList_some];cases hp:p a<;>simp[hp]
theorem Gf:∀{ns:List Str}{t:Str},ns.Nodup->t∈ns->(ns.filter λz=>decide (z≠t)).length+1=ns.length
|[],_,_,h=>nomatch h
|a::ns,t,nd,h=>by
  rw[bo]at nd;by_cases e:a=t
  ·subst e;have e:(ns.filter λz=>decide (z≠a))=ns:=List.filter_eq_self.mpr λz hz=>by simpa using λq:z=a=>nd.1 (q▸hz)
   rw[List.filter_cons_of_neg (by simp),e,aU]
  ·rw[List.filter_cons_of_pos (by simpa using e),aU,Gf nd.2 (by rcases ar.mp h with q|q;exact absurd q.symm e;exact q),aU]
def Nc:Sp:=λvs H Q _=>∃(b lN lS:Addr)(n m:Int)(ns ss:List Str),vs=[.ref b,.int n,.ref lN,.ref lS,.int m]/\Zz H b/\NmL H b lN lS ns ss/\1<=n/\n<=50/\1<=m/\m<=20 /\∀H' l(rs:List Rd),Zz H' b->Zi b H H'->H l=none->RowsAt b H' l (rs.map rdRow)->rs.length<=20->(rs.map (·.nm)).Nodup->(∀r∈rs,Nx r.nm/\RdX n ns ss r)->Q (.ref l) H'
theorem Yp:FnScope [q_b,"_law_turns","_law_names_here","_law_starts","_law_most","_law_found","_law_label","_law_start","_law_goal","_law_leave","_law_come"] [q_b,"_law_turns","_law_names_here","_law_starts","_law_most"] (Zf T.f__law_rides):=scO
noncomputable def Ji:Scope:=csx [(".0",.local),("_law_name",.local),("_law_start",.free)]
theorem Vz:CompScope Ji (Zf T.f__law_rides):=⟨rfl,by decide +kernel,by decide +kernel,by decide +kernel⟩
theorem VB:(["_law_name","_law_start"]:List Str).Nodup:=by decide +kernel
theorem VA:CompNames [q_b,"_law_turns","_law_names_here","_law_starts","_law_most","_law_found","_law_label","_law_start","_law_goal","_law_leave","_law_come"] Ji ["_law_name","_law_start"] [none,some 7]:=.mk' (by decide +kernel)
theorem Qc(B:∀x∈Blts,mg x=none)(CT:Can P w K mg base 1 "_law_take" [q_b,"_law_many"] X2)(CN:Can P w K mg base 2 "_law_names" [q_b,"_law_many"] J8)(D:Df K mg "_law_rides" T.f__law_rides [q_b,"_law_turns","_law_names_here","_law_starts","_law_most"]):Can P w K mg base 3 "_law_rides" [q_b,"_law_turns","_law_names_here","_law_starts","_law_most"] Nc:=by
 refine D.cn Yp λf cdv A outer s H vs Q E hr h=>?_;obtain⟨b,lN,lS,n,m,ns,ss,rfl,hb,hN,hn1,hn2,hm1,hm2,k⟩:=h;refine' ⟨_,(@Za _ _ _ _ _ ?h13 (@Za _ _ _ _ _ ?h14 (@Ze _ _ _ ?h15))),?rd⟩;case' h15=>refine' (Zk (pv 5))
 case' h14=>refine' (ZW aD rfl (Z6 (cn CN hr (@pa2 _ _ _ _ _ (pv 0) (cn CT hr (@pa2 _ _ _ _ _ (pv 0) (pv 4) (by rfl))) (by rfl)))) (nmT 6 Yp.nd) (@Ze _ _ _ ?h12))
 case' h13=>refine' (@st _ _ _ _ 5 _ _ Yp.nd ?h1 (by rfl) (by exact aN rfl) (by rfl) (by exact .inl rfl))
 case' h12=>refine' (@ZD _ _ _ _ _ _ _ _ (PW.pt (VV (@Zr _ _ _ _ _ _ _ _ (Vq hr.units) (pv 3) ?h2 (Zw _)) (Ve (@Zr _ _ _ _ _ _ _ _ Ue (Zy (r:=rLen K) ZI rfl (bm B) aT (@pa1 _ _ _ (pv 2) (by rfl))) Zb (Zw _))))) (@Za _ _ _ _ _ ?h7 (@Za _ _ _ _ _ ?h8 (@Za _ _ _ _ _ ?h9 (@Za _ _ _ _ _ ?h10 (@Ze _ _ _ ?h11))))) Zo)
 case' h11=>refine' (ZX (Vl bq bE bD YI (pv 5) (@pa1 _ _ _ ?h6 (by rfl))))
 case' h10=>refine' (@st _ _ _ _ 10 _ _ Yp.nd (Zt ZQ (Zt ZQ (pv 9) Zb) (cn CT hr (@pa2 _ _ _ _ _ (pv 0) (Zt Xe (pv 1) (pv 9)) (by rfl)))) (by rfl) (by exact aN rfl) (by rfl) (by exact .inl rfl))
 case' h9=>refine' (@st _ _ _ _ 9 _ _ Yp.nd (cn CT hr (@pa2 _ _ _ _ _ (pv 0) (pv 1) (by rfl))) (by rfl) (by exact aN rfl) (by rfl) (by exact .inl rfl))
 case' h8=>refine' (@st _ _ _ _ 8 _ _ Yp.nd ?h4 (by rfl) (by exact aN rfl) (by rfl) (by exact .inl rfl))
 case' h7=>refine' (@YA _ _ 7 _ _ _ _ Yp.nd (by rfl) (by exact fJ rfl) ?h3 (by rfl) (by exact aN rfl))
 case' h6=>refine' (@ZE _ _ _ _ _ (@Zh _ _ _ _ _ (pv 6) (@Zh _ _ _ _ _ (pv 7) (@Zh _ _ _ _ _ (pv 9) (@pa3 _ _ _ _ _ _ _ (pv 8) (pv 10) ?h5 (by rfl)) (by rfl)) (by rfl)) (by rfl)))
 case' h5=>refine' (@il _ _ _ _ _ _ K (@Z0 _ _ _ _ (@Y6 _ _ (by decide +kernel))) (cn CT hr (@pa2 _ _ _ _ _ (pv 0) Zb (by rfl))) (by rfl) (by exact λ_ _=>rfl))
 case' h4=>refine' (@il _ _ _ _ _ _ K (JB rfl Vz VA (Z6 (pv 2)) (λC s H ex pn=>(nmT 0 VB)) (λC s H ex pn=>(X5 (Zr U2 (pv 0) (pv 1) (Zw _)))) (λC s H ex pn=>(pv 0))) (cn CT hr (@pa2 _ _ _ _ _ (pv 0) (Zt Xe (Zy (r:=rLen K) ZI rfl (bm B) aT (@pa1 _ _ _ (pv 2) (by rfl))) Zb) (by rfl))) (by rfl) (by exact λ_ _=>rfl))
 case' h3=>refine' (@il _ _ _ _ _ _ K (pv 3) (cn CT hr (@pa2 _ _ _ _ _ (pv 0) (Zy (r:=rLen K) ZI rfl (bm B) aT (@pa1 _ _ _ (pv 3) (by rfl))) (by rfl))) (by rfl) (by exact λ_ _=>rfl))
 case' h2=>refine' (@Z0 _ _ _ _ Zj)
 case' h1=>refine' (@Z0 _ _ _ _ Zj)
 case' rd=>
 refine⟨Nat.zero_le _,λlF hF=>?_⟩;have nF:=hb.ne hF;dsimp only[Zq,au];refine⟨_,rfl,_,rfl,_,rfl,b,m,rfl,hb.new hF,by omega,ZP (by omega) (by omega),λc H1 c0 c1 B1 S1=>?_⟩;refine⟨b,c,rfl,B1,c0,by omega,λH2 lL ts B2 S2 nL eL neL hc nd nx=>?_⟩;have hz:ts.length<=sizeLine:=Nat.le_trans (by omega:ts.length<=1000) (by decide);have S02:Zi b H H2:=((Zi.refl b H).new' hF).trans (S1.trans S2);have e1F:H1 lF=some (.lst []):=S1 _ _ Zd nF;have e2F:H2 lF=some (.lst []):=S2 _ _ e1F nF;have nLF:lL≠lF:=λz=>by rw[z,e1F]at nL;cases nL
 have R0:RowsAt b H2 lF (([]:List Rd).map rdRow):=⟨nF,[],e2F,rfl,λi a r h1=>by cases h1⟩;refine⟨lL,rfl,⟨_,SqL.of eL⟩,?_⟩;clear S1 S2 B1 e1F e2F c0;refine Z8 (J:=Itl K lL) ts.length (λi σ H'=>Zz H' b/\Zi b H H'/\H' lL=some (.lst (ts.map V.str))/\(∃rs:List Rd,RowsAt b H' lF (rs.map rdRow)/\(rs.map (·.nm)).Sublist (ts.take i)/\∀r∈rs,RdX n ns ss r)/\∃o:Nat->Option V,σ=[some (.ref b),some (.int n),some (.ref lN),some (.ref lS),some (.int m),some (.ref lF),o 6,o 7,o 8,o 9,o 10]) ?_ (λi σ H' hi q=>?_) (λσ H' q=>?_) (λi σ H' v H3 hi q yl=>?_) (λσ H' q=>?_)
 ·exact⟨B2,S02,eL,⟨[],R0,.slnil,by simp⟩,shp rfl⟩
 ·exact⟨_,V.str ts[i],SqL.of q.2.2.1,by simp[hi]⟩
 ·exact⟨_,SqL.of q.2.2.1,by simp⟩
 ·obtain⟨bx,sm,el,⟨rs,ra,sub,rx⟩,o,rfl⟩:=q;obtain⟨rfl,hy⟩:=yl;have hx:v=V.str ts[i]:=by have:=hy _ (SqL.of el);simp[hi]at this;exact this.symm
  subst hx;have hN':=hN.same sm;dsimp only[Zq,au];refine td λD' hdd=>?_;refine⟨_,rfl,Nat.zero_le _,λle he=>?_⟩;refine⟨_,_,_,rfl,rfl,SqL.of ((Zc (ne_of_none hN'.s he)).trans hN'.s),Zd,_,rfl,?_⟩;have S4:Zi b H3 (upd H3 le (.lst [])):=(Zi.refl b H3).new' he;have bx4:Zz (upd H3 le (.lst [])) b:=bx.new he;generalize upd H3 le (.lst [])=H4 at S4 bx4 ⊢;have keep:∀(H5:Hp)(σ5:L2.St),Zz H5 b->Zi b H3 H5->(∃o:Nat->Option V,σ5=[some (.ref b),some (.int n),some (.ref lN),some (.ref lS),some (.int m),some (.ref lF),o 6,o 7,o 8,o 9,o 10])->D'.nx σ5 H5:=λH5 σ5 b5 s5 e5=>
   hdd _ _ ⟨b5,sm.trans s5,s5 _ _ el neL,⟨rs,ra.same s5,sub.trans (List.take_sublist_take_left (Nat.le_succ i)),rx⟩,e5⟩;refine ite2 (λec=>?_) (λ_=>keep _ _ bx4 S4 (shp rfl));have hs0:0<ss.length:=by
   cases ss with
  |nil=>simp at ec
  |cons a l=>simp
  have hN4:=hN'.same S4;refine⟨_,rfl,lN,_,rfl,.inl (SqL.of hN4.n),_,_,rfl,rfl,_,rfl,?_⟩;refine ite2 (λen=>?_) (λ_=>keep _ _ bx4 S4 (shp rfl));have hn2:1<ns.length:=by have:=of_decide_eq_true en;rw[lm]at this;omega
  refine⟨_,rfl,_,rfl,_,rfl,lS,_,rfl,.inl (SqL.of hN4.s),b,_,rfl,bx4,(by rw[lm];omega),ZP (by rw[lm];omega) (by rw[lm];have:=hN4.lenS;omega),λr5 H5 r50 r51 B5 S5=>?_⟩;obtain⟨v5,at5,m5⟩:=at_of (xs:=ss.map V.str) r50 r51;obtain⟨st,hst,rfl⟩:=ai.mp m5;have S35:=S4.trans S5;have hN5:=hN'.same S35;have stn:=hN5.sub st hst;refine⟨lS,_,_,_,rfl,rfl,SqL.of hN5.s,at5,?_⟩;dsimp only[Zq,au];clear at5 m5 r50 r51 S5 S4 bx4 hN4 he ec en;refine⟨_,rfl,lN,rfl,⟨_,SqL.of hN5.n⟩,?_⟩;refine XD (J:=Itl K lN) ns.length (Nat.le_trans (by have:=hN5.len;omega:ns.length<=1000) (by decide)) (λi ys τ H'=>H'=H5/\ys=((ns.take i).filter λz=>decide (z≠st)).map V.str/\∃v,τ=[v,some (.str st)]) ⟨rfl,rfl,none,rfl⟩ (λi ys τ H' p=>?_) (λi ys τ H' hi p=>?_) (λys τ H' p=>?_) (λi ys τ H' x H6 hi p yl=>?_) (λys τ H' p lG hG=>?_)
  ·obtain⟨_,rfl,_⟩:=p;rw[lm];exact Nat.le_trans (bO _ _) (by rw[aF];omega)
  ·obtain⟨rfl,_⟩:=p;exact⟨_,V.str ns[i],SqL.of hN5.n,by simp[hi]⟩
  ·obtain⟨rfl,_⟩:=p;exact⟨_,SqL.of hN5.n,by simp⟩
  ·obtain⟨rfl,rfl,v,rfl⟩:=p;obtain⟨rfl,hy⟩:=yl;have hx:x=V.str ns[i]:=by have:=hy _ (SqL.of hN5.n);simp[hi]at this;exact this.symm
   subst hx;refine⟨_,rfl,_,rfl,rfl,_,rfl,?_⟩;have e0:ns[i]?=some ns[i]:=gE hi;refine ite2 (λe=>?_) (λe=>?_)
   ·refine⟨_,rfl,rfl,?_,_,rfl⟩;rw[Yv _ _ e0,if_pos (by simpa using e),aE];rfl
   ·refine⟨rfl,?_,_,rfl⟩;rw[Yv _ _ e0,if_neg (by simpa using e),bp]
  ·obtain⟨rfl,rfl,v,rfl⟩:=p;rw[aH];have hfl:=Gf hN5.nd stn;have eG:upd H' lG (.lst ((ns.filter λz=>decide (z≠st)).map V.str)) lG=some (.lst ((ns.filter λz=>decide (z≠st)).map V.str)):=Zd;have B6:Zz (upd H' lG (.lst ((ns.filter λz=>decide (z≠st)).map V.str))) b:=B5.new hG;have S6:Zi b H3 (upd H' lG (.lst ((ns.filter λz=>decide (z≠st)).map V.str))):=S35.new' hG;have nG:=B5.ne hG;generalize upd H' lG (.lst ((ns.filter λz=>decide (z≠st)).map V.str))=H6 at eG B6 S6 ⊢;have hgm:∀t∈ns.filter λz=>decide (z≠st),t∈ns/\t≠st:=λt ht=>by simpa using bP.mp ht
   generalize (ns.filter λz=>decide (z≠st))=gs at hfl eG hgm;have hN6:=hN'.same S6;refine⟨_,rfl,_,rfl,lN,_,rfl,.inl (SqL.of hN6.n),_,_,rfl,rfl,b,_,rfl,B6,(by rw[lm];omega),ZP (by rw[lm];omega) (by rw[lm];have:=hN6.len;omega),λr7 H7 r70 r71 B7 S7=>?_⟩;obtain⟨v7,at7,m7⟩:=at_of (xs:=gs.map V.str) r70 (by rw[lm]at r71 ⊢;omega);obtain⟨gl,hgl,rfl⟩:=ai.mp m7;have S37:=S6.trans S7;refine⟨lG,_,_,_,rfl,rfl,SqL.of (S7 _ _ eG nG),at7,?_⟩;dsimp only[Zq,au];refine⟨_,rfl,_,rfl,b,n,rfl,B7,by omega,ZP (by omega) (by omega),λlv H8 l0 l1 B8 S8=>?_⟩;refine⟨_,rfl,_,_,rfl,rfl,_,rfl,_,rfl,_,rfl,_,_,rfl,rfl,b,_,rfl,B8,by omega,ZP (by omega) (by omega),λc9 H9 c0 c1 B9 S9=>?_⟩;refine⟨_,_,rfl,rfl,?_⟩;have S39:=(S37.trans S8).trans S9;dsimp only[Zq,au];have e9:=(ra.same S39).app;obtain⟨xs9,e9,l9,_⟩:=e9;refine⟨_,rfl,.inl ⟨rfl,_,SqL.of e9⟩,_,rfl,_,rfl,_,rfl,_,rfl,_,rfl,(zl),λlq hq=>?_⟩;refine tkC (B9.new hq) (λra_ H10 a0 a1 B10 S10=>?_);have eS:H10 lq=some (.lst (([1,0,2,1,3,1000]:List Int).map V.int)):=S10 _ _ Zd (B9.ne hq);have S310:=(S39.new' hq).trans S10;obtain⟨v10,at10,m10⟩:=at_of (xs:=([1,0,2,1,3,1000]:List Int).map V.int) a0 a1;obtain⟨se,hse,rfl⟩:=ai.mp m10;have hse2:0<=se/\se<=1000:=by simp only[ar,aP,or_false]at hse;omega
   refine⟨lq,_,_,_,rfl,rfl,SqL.of eS,at10,?_⟩;obtain⟨xs,eF,lx,app⟩:=(ra.same S310).app;refine⟨Nat.le_trans (by decide:6<=1000) (by decide),λq hq2=>?_⟩;have rsl:rs.length<=20:=by have:=sub.length_le;rw[lm,aF]at this;omega
   have nFq:lF≠q:=ne_of_none eF hq2;refine⟨lF,xs,_,rfl,rfl,(Zc nFq).trans eF,Nat.lt_of_le_of_lt (by rw[lx,lm];exact rsl) (by decide),?_⟩;have nq:=B10.ne hq2;refine hdd _ _ ⟨Zz.same_ne (B10.new hq2) nF,Xm ((sm.trans S310).new' hq2) (Zi.refl b H) nF hF,?_,⟨rs++[⟨ts[i],st,lv,gl,lv+1+c9,se⟩],?_,?_,?_⟩,shp rfl⟩
   ·rw[Zc nLF,Zc (ne_of_none (S310 _ _ el neL) hq2)];exact S310 _ _ el neL
   ·rw[aE];exact app q _ hq2 nq
   ·rw[aE,aV,gE hi];exact sub.append (List.Sublist.refl _)
   ·intro r hr;rcases aK.mp hr with hr|hr
    ·exact rx r hr
    ·rw[a7]at hr;subst hr;exact⟨hst,(hgm gl hgl).1,λz=>(hgm gl hgl).2 z.symm,l0,by show lv<=n-1;omega,by show lv+1<=lv+1+c9;omega,by show lv+1+c9<=n;omega,hse2.1,hse2.2⟩
 ·obtain⟨bx,sm,el,⟨rs,ra,sub,rx⟩,o,rfl⟩:=q;rw[aH]at sub;exact⟨_,rfl,k _ lF rs bx sm hF ra (by have:=sub.length_le;rw[lm]at this;omega) (sub.nodup nd) λr hr=>⟨nx _ (sub.subset (ai.mpr ⟨r,hr,rfl⟩)),rx r hr⟩⟩
structure WyX(ns ss:List Str)(r:Wy):Prop where
 st:r.st∈ss
 gl:r.gl∈ns
 ne:r.st≠r.gl
 lo0:1<=r.lo
 lo1:r.lo<=50
 wi0:0<=r.wi
 wi1:r.wi<=1000
def Qs:Sp:=λvs H Q _=>∃(b lN lS:Addr)(n:Int)(ns ss:List Str),vs=[.ref b,.int n,.ref lN,.ref lS]/\Zz H b/\NmL H b lN lS ns ss/\1<=n/\n<=49 /\∀H' l(rs:List Wy),Zz H' b->Zi b H H'->H l=none->RowsAt b H' l (rs.map wyRow)->rs.length<=20->(rs.map (·.nm)).Nodup->(∀r∈rs,Nx r.nm/\WyX ns ss r)->Q (.ref l) H'
theorem YH:FnScope [q_b,"_law_turns","_law_names_here","_law_starts","_law_found","_law_label","_law_start","_law_goal","_law_long"] [q_b,"_law_turns","_law_names_here","_law_starts"] (Zf T.f__law_ways):=scO
noncomputable def JR:Scope:=csx [(".0",.local),("_law_name",.local),("_law_start",.free)]
theorem V3:CompScope JR (Zf T.f__law_ways):=⟨rfl,by decide +kernel,by decide +kernel,by decide +kernel⟩
theorem V5:(["_law_name","_law_start"]:List Str).Nodup:=by decide +kernel
theorem V4:CompNames [q_b,"_law_turns","_law_names_here","_law_starts","_law_found","_law_label","_law_start","_law_goal","_law_long"] JR ["_law_name","_law_start"] [none,some 6]:=.mk' (by decide +kernel)
theorem RW(B:∀x∈Blts,mg x=none)(CT:Can P w K mg base 1 "_law_take" [q_b,"_law_many"] X2)(CN:Can P w K mg base 2 "_law_names" [q_b,"_law_many"] J8)(D:Df K mg "_law_ways" T.f__law_ways [q_b,"_law_turns","_law_names_here","_law_starts"]):Can P w K mg base 3 "_law_ways" [q_b,"_law_turns","_law_names_here","_law_starts"] Qs:=by
 refine D.cn YH λf cdv A outer s H vs Q E hr h=>?_;obtain⟨b,lN,lS,n,ns,ss,rfl,hb,hN,hn1,hn2,k⟩:=h;refine' ⟨_,(@Za _ _ _ _ _ ?h14 (@Za _ _ _ _ _ ?h15 (@Ze _ _ _ ?h16))),?rd⟩;case' h16=>refine' (Zk (pv 4))
 case' h15=>refine' (ZW aD rfl (Z6 (cn CN hr (@pa2 _ _ _ _ _ (pv 0) (cn CT hr (@pa2 _ _ _ _ _ (pv 0) Zb (by rfl))) (by rfl)))) (nmT 5 YH.nd) (@Ze _ _ _ ?h13))
 case' h14=>refine' (@st _ _ _ _ 4 _ _ YH.nd ?h1 (by rfl) (by exact aN rfl) (by rfl) (by exact .inl rfl))
 case' h13=>refine' (@ZD _ _ _ _ _ _ _ _ (PW.pt (VV (@Zr _ _ _ _ _ _ _ _ (Vq hr.units) (pv 3) ?h2 (Zw _)) (Ve (@Zr _ _ _ _ _ _ _ _ Ue (Zy (r:=rLen K) ZI rfl (bm B) aT (@pa1 _ _ _ (pv 2) (by rfl))) Zb (Zw _))))) (@Za _ _ _ _ _ ?h9 (@Za _ _ _ _ _ ?h10 (@Za _ _ _ _ _ ?h11 (@Ze _ _ _ ?h12)))) Zo)
 case' h12=>refine' (ZX (Vl bq bE bD YI (pv 4) (@pa1 _ _ _ ?h8 (by rfl))))
 case' h11=>refine' (@st _ _ _ _ 8 _ _ YH.nd ?h6 (by rfl) (by exact aN rfl) (by rfl) (by exact .inl rfl))
 case' h10=>refine' (@st _ _ _ _ 7 _ _ YH.nd ?h4 (by rfl) (by exact aN rfl) (by rfl) (by exact .inl rfl))
 case' h9=>refine' (@YA _ _ 6 _ _ _ _ YH.nd (by rfl) (by exact fJ rfl) ?h3 (by rfl) (by exact aN rfl))
 case' h8=>refine' (@ZE _ _ _ _ _ (@Zh _ _ _ _ _ (pv 5) (@Zh _ _ _ _ _ (pv 6) (@pa3 _ _ _ _ _ _ _ (pv 7) (pv 8) ?h7 (by rfl)) (by rfl)) (by rfl)))
 case' h7=>refine' (@il _ _ _ _ _ _ K (@Z0 _ _ _ _ (@Y6 _ _ (by decide +kernel))) (cn CT hr (@pa2 _ _ _ _ _ (pv 0) Zb (by rfl))) (by rfl) (by exact λ_ _=>rfl))
 case' h6=>refine' (@il _ _ _ _ _ _ K ?h5 (cn CT hr (@pa2 _ _ _ _ _ (pv 0) Zb (by rfl))) (by rfl) (by exact λ_ _=>rfl))
 case' h5=>refine' (@Z0 _ _ _ _ (@Zh _ _ _ _ _ Zb (@pa3 _ _ _ _ _ _ _ Zb Zb (Zt ZQ Zb (cn CT hr (@pa2 _ _ _ _ _ (pv 0) (Zt ZQ (pv 1) Zb) (by rfl)))) (by rfl)) (by rfl)))
 case' h4=>refine' (@il _ _ _ _ _ _ K (JB rfl V3 V4 (Z6 (pv 2)) (λC s H ex pn=>(nmT 0 V5)) (λC s H ex pn=>(X5 (Zr U2 (pv 0) (pv 1) (Zw _)))) (λC s H ex pn=>(pv 0))) (cn CT hr (@pa2 _ _ _ _ _ (pv 0) (Zt Xe (Zy (r:=rLen K) ZI rfl (bm B) aT (@pa1 _ _ _ (pv 2) (by rfl))) Zb) (by rfl))) (by rfl) (by exact λ_ _=>rfl))
 case' h3=>refine' (@il _ _ _ _ _ _ K (pv 3) (cn CT hr (@pa2 _ _ _ _ _ (pv 0) (Zy (r:=rLen K) ZI rfl (bm B) aT (@pa1 _ _ _ (pv 3) (by rfl))) (by rfl))) (by rfl) (by exact λ_ _=>rfl))
 case' h2=>refine' (@Z0 _ _ _ _ Zj)
 case' h1=>refine' (@Z0 _ _ _ _ Zj)
 case' rd=>
 refine⟨Nat.zero_le _,λlF hF=>?_⟩;have nF:=hb.ne hF;dsimp only[Zq,au];refine⟨_,rfl,tkC (hb.new hF) (λc H1 c0 c1 B1 S1=>?_)⟩;refine⟨b,c,rfl,B1,c0,by omega,λH2 lL ts B2 S2 nL eL neL hc nd nx=>?_⟩;have hz:ts.length<=sizeLine:=Nat.le_trans (by omega:ts.length<=1000) (by decide);have S02:Zi b H H2:=((Zi.refl b H).new' hF).trans (S1.trans S2);have e1F:H1 lF=some (.lst []):=S1 _ _ Zd nF;have e2F:H2 lF=some (.lst []):=S2 _ _ e1F nF;have nLF:lL≠lF:=λz=>by rw[z,e1F]at nL;cases nL
 have R0:RowsAt b H2 lF (([]:List Wy).map wyRow):=⟨nF,[],e2F,rfl,λi a r h1=>by cases h1⟩;refine⟨lL,rfl,⟨_,SqL.of eL⟩,?_⟩;clear S1 S2 B1 e1F e2F c0;refine Z8 (J:=Itl K lL) ts.length (λi σ H'=>Zz H' b/\Zi b H H'/\H' lL=some (.lst (ts.map V.str))/\(∃rs:List Wy,RowsAt b H' lF (rs.map wyRow)/\(rs.map (·.nm)).Sublist (ts.take i)/\∀r∈rs,WyX ns ss r)/\∃o:Nat->Option V,σ=[some (.ref b),some (.int n),some (.ref lN),some (.ref lS),some (.ref lF),o 5,o 6,o 7,o 8]) ?_ (λi σ H' hi q=>?_) (λσ H' q=>?_) (λi σ H' v H3 hi q yl=>?_) (λσ H' q=>?_)
 ·exact⟨B2,S02,eL,⟨[],R0,.slnil,by simp⟩,shp rfl⟩
 ·exact⟨_,V.str ts[i],SqL.of q.2.2.1,by simp[hi]⟩
 ·exact⟨_,SqL.of q.2.2.1,by simp⟩
 ·obtain⟨bx,sm,el,⟨rs,ra,sub,rx⟩,o,rfl⟩:=q;obtain⟨rfl,hy⟩:=yl;have hx:v=V.str ts[i]:=by have:=hy _ (SqL.of el);simp[hi]at this;exact this.symm
  subst hx;have hN':=hN.same sm;dsimp only[Zq,au];refine td λD' hdd=>?_;refine⟨_,rfl,Nat.zero_le _,λle he=>?_⟩;refine⟨_,_,_,rfl,rfl,SqL.of ((Zc (ne_of_none hN'.s he)).trans hN'.s),Zd,_,rfl,?_⟩;have S4:Zi b H3 (upd H3 le (.lst [])):=(Zi.refl b H3).new' he;have bx4:Zz (upd H3 le (.lst [])) b:=bx.new he;generalize upd H3 le (.lst [])=H4 at S4 bx4 ⊢;have keep:∀(H5:Hp)(σ5:L2.St),Zz H5 b->Zi b H3 H5->(∃o:Nat->Option V,σ5=[some (.ref b),some (.int n),some (.ref lN),some (.ref lS),some (.ref lF),o 5,o 6,o 7,o 8])->D'.nx σ5 H5:=λH5 σ5 b5 s5 e5=>
   hdd _ _ ⟨b5,sm.trans s5,s5 _ _ el neL,⟨rs,ra.same s5,sub.trans (List.take_sublist_take_left (Nat.le_succ i)),rx⟩,e5⟩;refine ite2 (λec=>?_) (λ_=>keep _ _ bx4 S4 (shp rfl));have hs0:0<ss.length:=by
   cases ss with
  |nil=>simp at ec
  |cons a l=>simp
  have hN4:=hN'.same S4;refine⟨_,rfl,lN,_,rfl,.inl (SqL.of hN4.n),_,_,rfl,rfl,_,rfl,?_⟩;refine ite2 (λen=>?_) (λ_=>keep _ _ bx4 S4 (shp rfl));have hn2:1<ns.length:=by have:=of_decide_eq_true en;rw[lm]at this;omega
  refine⟨_,rfl,_,rfl,_,rfl,lS,_,rfl,.inl (SqL.of hN4.s),b,_,rfl,bx4,(by rw[lm];omega),ZP (by rw[lm];omega) (by rw[lm];have:=hN4.lenS;omega),λr5 H5 r50 r51 B5 S5=>?_⟩;obtain⟨v5,at5,m5⟩:=at_of (xs:=ss.map V.str) r50 r51;obtain⟨st,hst,rfl⟩:=ai.mp m5;have S35:=S4.trans S5;have hN5:=hN'.same S35;have stn:=hN5.sub st hst;refine⟨lS,_,_,_,rfl,rfl,SqL.of hN5.s,at5,?_⟩;dsimp only[Zq,au];clear at5 m5 r50 r51 S5 S4 bx4 hN4 he ec en;refine⟨_,rfl,lN,rfl,⟨_,SqL.of hN5.n⟩,?_⟩;refine XD (J:=Itl K lN) ns.length (Nat.le_trans (by have:=hN5.len;omega:ns.length<=1000) (by decide)) (λi ys τ H'=>H'=H5/\ys=((ns.take i).filter λz=>decide (z≠st)).map V.str/\∃v,τ=[v,some (.str st)]) ⟨rfl,rfl,none,rfl⟩ (λi ys τ H' p=>?_) (λi ys τ H' hi p=>?_) (λys τ H' p=>?_) (λi ys τ H' x H6 hi p yl=>?_) (λys τ H' p lG hG=>?_)
  ·obtain⟨_,rfl,_⟩:=p;rw[lm];exact Nat.le_trans (bO _ _) (by rw[aF];omega)
  ·obtain⟨rfl,_⟩:=p;exact⟨_,V.str ns[i],SqL.of hN5.n,by simp[hi]⟩
  ·obtain⟨rfl,_⟩:=p;exact⟨_,SqL.of hN5.n,by simp⟩
  ·obtain⟨rfl,rfl,v,rfl⟩:=p;obtain⟨rfl,hy⟩:=yl;have hx:x=V.str ns[i]:=by have:=hy _ (SqL.of hN5.n);simp[hi]at this;exact this.symm
   subst hx;refine⟨_,rfl,_,rfl,rfl,_,rfl,?_⟩;have e0:ns[i]?=some ns[i]:=gE hi;refine ite2 (λe=>?_) (λe=>?_)
   ·refine⟨_,rfl,rfl,?_,_,rfl⟩;rw[Yv _ _ e0,if_pos (by simpa using e),aE];rfl
   ·refine⟨rfl,?_,_,rfl⟩;rw[Yv _ _ e0,if_neg (by simpa using e),bp]
  ·obtain⟨rfl,rfl,v,rfl⟩:=p;rw[aH];have hfl:=Gf hN5.nd stn;have eG:upd H' lG (.lst ((ns.filter λz=>decide (z≠st)).map V.str)) lG=some (.lst ((ns.filter λz=>decide (z≠st)).map V.str)):=Zd;have B6:Zz (upd H' lG (.lst ((ns.filter λz=>decide (z≠st)).map V.str))) b:=B5.new hG;have S6:Zi b H3 (upd H' lG (.lst ((ns.filter λz=>decide (z≠st)).map V.str))):=S35.new' hG;have nG:=B5.ne hG;generalize upd H' lG (.lst ((ns.filter λz=>decide (z≠st)).map V.str))=H6 at eG B6 S6 ⊢;have hgm:∀t∈ns.filter λz=>decide (z≠st),t∈ns/\t≠st:=λt ht=>by simpa using bP.mp ht
   generalize (ns.filter λz=>decide (z≠st))=gs at hfl eG hgm;have hN6:=hN'.same S6;refine⟨_,rfl,_,rfl,lN,_,rfl,.inl (SqL.of hN6.n),_,_,rfl,rfl,b,_,rfl,B6,(by rw[lm];omega),ZP (by rw[lm];omega) (by rw[lm];have:=hN6.len;omega),λr7 H7 r70 r71 B7 S7=>?_⟩;obtain⟨v7,at7,m7⟩:=at_of (xs:=gs.map V.str) r70 (by rw[lm]at r71 ⊢;omega);obtain⟨gl,hgl,rfl⟩:=ai.mp m7;have S37:=S6.trans S7;refine⟨lG,_,_,_,rfl,rfl,SqL.of (S7 _ _ eG nG),at7,?_⟩;dsimp only[Zq,au];refine⟨_,rfl,_,rfl,_,_,rfl,rfl,b,_,rfl,B7,by omega,ZP (by omega) (by omega),λlv H8 l0 l1 B8 S8=>?_⟩;refine⟨_,_,rfl,rfl,(zl),λlw hw=>?_⟩;refine tkC (B8.new hw) (λc9 H9 c0 c1 B9 S9=>?_);have eW:H9 lw=some (.lst (([1,2,1,1+lv]:List Int).map V.int)):=S9 _ _ Zd (B8.ne hw);obtain⟨v9,at9,m9⟩:=at_of (xs:=([1,2,1,1+lv]:List Int).map V.int) c0 c1;obtain⟨lo,hlo,rfl⟩:=ai.mp m9;have hlo2:1<=lo/\lo<=50:=by simp only[ar,aP,or_false]at hlo;omega
   refine⟨lw,_,_,_,rfl,rfl,SqL.of eW,at9,?_⟩;have S39:=(((S37.trans S8).new' hw).trans S9);dsimp only[Zq,au];have e9:=(ra.same S39).app;obtain⟨xs9,e9,l9,_⟩:=e9;refine⟨_,rfl,.inl ⟨rfl,_,SqL.of e9⟩,_,rfl,_,rfl,_,rfl,_,rfl,(zl),λlq hq=>?_⟩;refine tkC (B9.new hq) (λra_ H10 a0 a1 B10 S10=>?_);have eS:H10 lq=some (.lst (([1,0,2,1]:List Int).map V.int)):=S10 _ _ Zd (B9.ne hq);have S310:=(S39.new' hq).trans S10;obtain⟨v10,at10,m10⟩:=at_of (xs:=([1,0,2,1]:List Int).map V.int) a0 a1;obtain⟨se,hse,rfl⟩:=ai.mp m10;have hse2:0<=se/\se<=1000:=by simp only[ar,aP,or_false]at hse;omega
   refine⟨lq,_,_,_,rfl,rfl,SqL.of eS,at10,?_⟩;obtain⟨xs,eF,lx,app⟩:=(ra.same S310).app;refine⟨Nat.le_trans (by decide:5<=1000) (by decide),λq hq2=>?_⟩;have rsl:rs.length<=20:=by have:=sub.length_le;rw[lm,aF]at this;omega
   have nFq:lF≠q:=ne_of_none eF hq2;refine⟨lF,xs,_,rfl,rfl,(Zc nFq).trans eF,Nat.lt_of_le_of_lt (by rw[lx,lm];exact rsl) (by decide),?_⟩;have nq:=B10.ne hq2;refine hdd _ _ ⟨Zz.same_ne (B10.new hq2) nF,Xm ((sm.trans S310).new' hq2) (Zi.refl b H) nF hF,?_,⟨rs++[⟨ts[i],st,gl,lo,se⟩],?_,?_,?_⟩,shp rfl⟩
   ·rw[Zc nLF,Zc (ne_of_none (S310 _ _ el neL) hq2)];exact S310 _ _ el neL
   ·rw[aE];exact app q _ hq2 nq
   ·rw[aE,aV,gE hi];exact sub.append (List.Sublist.refl _)
   ·intro r hr;rcases aK.mp hr with hr|hr
    ·exact rx r hr
    ·rw[a7]at hr;subst hr;exact⟨hst,(hgm gl hgl).1,λz=>(hgm gl hgl).2 z.symm,hlo2.1,hlo2.2,hse2.1,hse2.2⟩
 ·obtain⟨bx,sm,el,⟨rs,ra,sub,rx⟩,o,rfl⟩:=q;rw[aH]at sub;exact⟨_,rfl,k _ lF rs bx sm hF ra (by have:=sub.length_le;rw[lm]at this;omega) (sub.nodup nd) λr hr=>⟨nx _ (sub.subset (ai.mpr ⟨r,hr,rfl⟩)),rx r hr⟩⟩
end
end WD
namespace L2
open PySem PySem.Spec PyProof.Rows
noncomputable def N1(l:Addr):It:=⟨λi H=>∃xs,H l=some (.lst xs)/\i<xs.length,λi H x H'=>∃(T:Addr)(xs:List V)(y:V),H T=none/\H l=some (.lst xs)/\xs[i]?=some y/\x=.ref T/\H'=upd H T (.tup [.int i,y]),λi H=>∃xs,H l=some (.lst xs)/\i=xs.length⟩
theorem UH{P:Program}{w:World}{K:ae}{es:List Expr}{k:Nat}{pt:Pos}(l e it:Addr)(hei:e≠it)(hle:l≠e)(hli:l≠it):
  Turn P w K (.Tuple es k pt) (N1 l) [e,it] e (λi h=>(∃old,IsEnum h e it i old)/\h.IsListIter it l i) where
 mem:=by simp
 obj:=λi h st b hb=>by
  obtain⟨⟨old,he⟩,o,ho,c,d⟩:=st
  have hb':b=e\/b=it:=by simpa using hb
  rcases hb' with rfl|rfl
  ·exact⟨_,he,λv z=>by cases z⟩
  ·exact⟨o,ho,λv z=>by rw[d]at z;cases z⟩
 keep:=λi h h' st kk=>by
  obtain⟨⟨old,he⟩,o,ho,r⟩:=st
  exact⟨⟨old,kk e (by simp) _ he⟩,o,kk it (by simp) o ho,r⟩
 item:=by
  intro X hP hw hK hc i pins s σ H E I hf st hg
  subst hP hw hK
  obtain⟨xs,hx,hi⟩:=hg
  obtain⟨⟨old,he⟩,hs⟩:=st
  obtain⟨its,rv,pl,_⟩:=I.list (SqL.of hx)
  have hlen:=rv.length
  have D:=Draws.list (prog:=X.prog) (w:=X.w) (A:=X.A.in1) (I.ok.hd hc) it l hli its.toArray
  have W:=fx D e hei (by simp[hei,bR hle]) (by simp)
  refine W.item i s _ _ (by simp only[ao];omega) ⟨⟨old,he⟩,hs,pl.isList⟩ λT vals h' tk hv hT ht hm kk=>?_
  obtain⟨tk',u,hu,rfl⟩:=hv
  obtain⟨y,hy⟩:∃y,xs[i]?=some y:=⟨xs[i],gE hi⟩
  obtain⟨u2,hu2,ru⟩:=rv.get hy
  have hu':its[i]?=some u:=by simpa using hu
  rw[hu']at hu2;cases hu2
  refine⟨_,rfl,?_⟩
  refine W.go es k pt i T {s with heap:=h',toks:=tk} _ _ hm λh2 st2 kk2=>?_
  have hTn:H T=none:=I.hok.fresh hT
  have hap:=W.apart i T h' hm
  have hb2:∀b,b∉[e,it]->∀o,s.heap.get? b=some o->h2.get? b=some o:=λb hb o q=>kk2 b o hb (kk b o hb q)
  have nb:∀b u,H b=some u->b∉[e,it]:=λb u q hb=>by rw[(hf b hb).1]at q;cases q
  have I1:Inv X pins σ (upd H T (.tup [.int i,y])) {s with heap:=h2,toks:=tk}:=by
   refine I.step (g':=s.gens) (d':=s.drawn) (ch:=[e,it]) (λb hb=>?_) (λb o _ _ hb q _=>hb2 b hb o q) (λb o _ _ hb q _=>⟨o.slots,hb2 b hb o q⟩)
    (λb o hb q n=>?_) (λb o hb q=>⟨o,hb2 b hb o q⟩) (λb xs q=>?_) (λb o u q=>?_) (λb ps q=>?_) (λm hm=>?_) ?_ I.bare
   ·obtain⟨g0,g1,g2,g3,g4,g5⟩:=hf b hb
    exact⟨g3,g1,g4,g5⟩
   ·rw[Zc (Nat.ne_of_lt (Nat.lt_of_lt_of_le (Heap.lt_size q) hT))];exact n
   ·rw[Zc (ne_of_none q hTn)];exact q
   ·rw[Zc (ne_of_none q hTn)];exact q
   ·exact⟨#[],by rw[Zc (ne_of_none q hTn),q];simp⟩
   ·obtain⟨o,es',ep,ho,r⟩:=hm
    refine⟨o,es',ep,hb2 _ ?_ o ho,r⟩
    intro hb
    obtain⟨g0,g1,_⟩:=hf _ hb
    exact g1 rfl
   ·intro b ob q
    by_cases hb:b=T
    ·subst hb
     rw[Zd]at q
     cases q
     obtain⟨o,h1,h2',h3⟩:=ht
     exact⟨zl,[.int i tk',u],.cons ⟨_,rfl⟩ (.cons ru .nil),⟨o,kk2 _ _ hap h1,h2',h3⟩⟩
    ·rw[Zc hb]at q
     refine(I.hok b ob q).stay (λc' v hc' q'=>hb2 c' ?_ v q') (λc' q'=>by rw[Zc (ne_of_none q' hTn)];exact q') λc' xs q'=>by rw[Zc (ne_of_none q' hTn)];exact q'
     rcases hc' with rfl|hc'
     ·exact nb _ _ q
     ·exact nb _ _ hc'
  refine⟨.ref T,_,I1,rfl,⟨T,xs,y,hTn,hx,hy,rfl,rfl⟩,⟨st2.1,st2.2.1⟩,λb hb=>?_⟩
  rw[Zc]
  ·exact(hf b hb).1
  ·rintro rfl
   exact hap hb
 done:=by
  intro X hP hw hK hc i pins s σ H E I hf st hg
  subst hP hw hK
  obtain⟨xs,hx,hi⟩:=hg
  obtain⟨⟨old,he⟩,hs⟩:=st
  obtain⟨its,rv,pl,_⟩:=I.list (SqL.of hx)
  have hlen:=rv.length
  have D:=Draws.list (prog:=X.prog) (w:=X.w) (A:=X.A.in1) (I.ok.hd hc) it l hli its.toArray
  have W:=fx D e hei (by simp[hei,bR hle]) (by simp)
  have ei:i=its.toArray.size:=by simp only[ao];omega
  subst ei
  refine W.done s _ _ ⟨⟨old,he⟩,hs,pl.isList⟩ λh' tk kk=>⟨rfl,?_⟩
  have nb:∀b u,H b=some u->b∉[e,it]:=λb u q hb=>by rw[(hf b hb).1]at q;cases q
  refine I.step (g':=s.gens) (d':=s.drawn) (ch:=[e,it]) (λb hb=>?_) (λb o _ _ hb q _=>kk b o hb q) (λb o _ _ hb q _=>⟨o.slots,kk b o hb q⟩)
   (λb o hb q n=>n) (λb o hb q=>⟨o,kk b o hb q⟩) (λb xs q=>q) (λb o u q=>q) (λb ps q=>⟨#[],by rw[q];simp⟩) (λm hm=>?_) (λb u q=>?_) I.bare
  ·obtain⟨g0,g1,g2,g3,g4,g5⟩:=hf b hb
   exact⟨g3,g1,g4,g5⟩
  ·obtain⟨o,es',ep,ho,r⟩:=hm
   refine⟨o,es',ep,kk _ o ?_ ho,r⟩
   intro hb
   obtain⟨g0,g1,_⟩:=hf _ hb
   exact g1 rfl
  ·refine(I.hok b u q).stay (λc' v hc' q'=>kk c' v ?_ q') (λ_ q'=>q') λ_ _ q'=>q'
   rcases hc' with rfl|hc'
   ·exact nb _ _ q
   ·exact nb _ _ hc'
 self:=λA i s Q E st h=>by
  obtain⟨⟨old,he⟩,_⟩:=st
  exact dM he h
section
variable {X:Cx}
noncomputable def iEnL(ta:TA):TI:=λσ H R=>ta σ H λvs H1=>∃(l:Addr)(xs:List V),vs=[.ref l]/\H1 l=some (.lst xs)/\R (N1 l) H1
theorem Nl{a:Expr}{ta:TA}{p pos pt:Pos}{es:List Expr}{k:Nat}(hg:Gl X "enumerate")(hm:X.mg "enumerate"=none)(ha:PA X [a] ta)(hb:bt "enumerate"=some (.type "enumerate"))(hs:az [a] X.env=[(false,eval a X.env)]:=by rfl):PI X (.Tuple es k pt) (.Call (.Name "enumerate" p) [a] [] pos) (iEnL ta):=by
 intro pins s σ H R I h;refine Call_ (Xp I hg hm hb (bc (thn (ha pos pins s σ H _ I h) λus s1 hZ=>?_) hs rfl));obtain⟨vs,H1,I1,r1,q1⟩:=hZ;obtain⟨l,xs,e,hx,q⟩:=q1;subst e;cases r1 with
|cons r rr=>
  cases rr;cases r;obtain⟨its,rv,pl,_⟩:=I1.list (SqL.of hx);refine call_enumerate_list pl.isList λh' he hst _ kk=>?_;have I2:Inv X pins σ H1 {s1 with heap:=h'}:=I1.kept (t':=s1.toks) kk;refine dM he ?_;have lt:l<s1.heap.objs.size:=I1.hok.lt hx;refine⟨s1.heap.objs.size+1,[s1.heap.objs.size+1,s1.heap.objs.size],_,_,H1,rfl,I2,UH l (s1.heap.objs.size+1) s1.heap.objs.size (Nat.succ_ne_self _) (Nat.ne_of_lt (Nat.lt_succ_of_lt lt)) (Nat.ne_of_lt lt),⟨⟨_,he⟩,hst⟩,λb hb=>?_,q⟩;have e:b=s1.heap.objs.size+1\/b=s1.heap.objs.size:=by simpa using hb
  rcases e with e|e<;>subst e
  ·exact I1.fpOk (Nat.le_succ _) (I1.hok.fresh (Nat.le_succ _))
  ·exact I1.fpOk (Nat.le_refl _) (I1.hok.fresh (Nat.le_refl _))
end
end L2
namespace WD
open PySem L2 PySem.Spec PyProof.Rows TB
structure GrX(n:Int)(ns:List Str)(r:Gr):Prop where
 nm:Z3 true (.str r.nm)=true
 pl:r.pl∈ns
 tu0:0<=r.tu
 tu1:r.tu<=n
 ma0:0<=r.ma
 ma1:r.ma<=3
noncomputable def sfx(j:Nat):Str:=sufs.getD (j % 3) ""
theorem Ut(j:Nat):sfx j∈sufs:=by have:j % 3<sufs.length:=Nat.mod_lt _ (by decide);unfold sfx;rw[aQ,gE this];exact aL this
theorem Lq(j:Nat):(sufs.map V.str)[j % 3]?=some (.str (sfx j)):=by have:j % 3<sufs.length:=Nat.mod_lt _ (by decide);unfold sfx;rw[aW,aQ,gE this];rfl
noncomputable def gnm(ts:List Str)(i:Nat):List Str:=(bh i).map λj=>ts.getD j ""++sfx j
theorem DC{ts:List Str}(nd:ts.Nodup)(nx:∀t∈ts,Nx t):(gnm ts ts.length).Nodup:=by
 refine nodup_map_on List.nodup_range λx hx y hy e=>?_;rw[cj]at hx hy;have ex:ts.getD x ""=ts[x]:=by rw[aQ,gE hx];rfl
 have ey:ts.getD y ""=ts[y]:=by rw[aQ,gE hy];rfl
 rw[ex,ey]at e;exact(fL nd).mp (WI (nx _ (aL hx)) (nx _ (aL hy)) (Ut x) (Ut y) e)
def GP:Sp:=λvs H Q _=>∃(b lN:Addr)(n m:Int)(ns:List Str),vs=[.ref b,.int n,.ref lN,.int m]/\Zz H b/\H lN=some (.lst (ns.map V.str))/\lN≠b/\1<=ns.length/\ns.length<=20/\1<=n/\n<=49/\1<=m/\m<=20 /\∀H' l(rs:List Gr),Zz H' b->Zi b H H'->H l=none->RowsAt b H' l (rs.map grRow)->rs.length<=20->(rs.map (·.nm)).Nodup->(∀r∈rs,GrX n ns r)->Q (.ref l) H'
section
variable {P:Program}{w:World}{K:ae}{mg:Str->Option Value}{base:Heap}
theorem Yr:FnScope [q_b,"_law_turns","_law_names_here","_law_most","_law_found","_law_k","_law_label","_law_place","_law_turn"] [q_b,"_law_turns","_law_names_here","_law_most"] (Zf T.f__law_groups):=scO
theorem NY(B:∀x∈Blts,mg x=none)(CT:Can P w K mg base 1 "_law_take" [q_b,"_law_many"] X2)(CN:Can P w K mg base 2 "_law_names" [q_b,"_law_many"] J8)(D:Df K mg "_law_groups" T.f__law_groups [q_b,"_law_turns","_law_names_here","_law_most"]):Can P w K mg base 3 "_law_groups" [q_b,"_law_turns","_law_names_here","_law_most"] GP:=by
 refine D.cn Yr λf cdv A outer s H vs Q E hr h=>?_;obtain⟨b,lN,n,m,ns,rfl,hb,hN,nN,hs1,hs2,hn1,hn2,hm1,hm2,k⟩:=h;refine' ⟨_,(@Za _ _ _ _ _ ?h8 (@Za _ _ _ _ _ ?h9 (@Ze _ _ _ ?h10))),?rd⟩;case' h10=>refine' (Zk (pv 4))
 case' h9=>refine' (ZW aD rfl (Nl rfl (bm B) (@pa1 _ _ _ (cn CN hr (@pa2 _ _ _ _ _ (pv 0) (cn CT hr (@pa2 _ _ _ _ _ (pv 0) (pv 3) (by rfl))) (by rfl))) (by rfl)) (by decide +kernel)) (YB rfl (Zn (nmT 5 Yr.nd) (Zn (nmT 6 Yr.nd) Yc))) (@Za _ _ _ _ _ ?h5 (@Za _ _ _ _ _ ?h6 (@Ze _ _ _ ?h7))))
 case' h8=>refine' (@st _ _ _ _ 4 _ _ Yr.nd ?h1 (by rfl) (by exact aN rfl) (by rfl) (by exact .inl rfl))
 case' h7=>refine' (ZX (Vl bq bE bD YI (pv 4) (@pa1 _ _ _ ?h4 (by rfl))))
 case' h6=>refine' (@st _ _ _ _ 8 _ _ Yr.nd (Zt Xf (cn CT hr (@pa2 _ _ _ _ _ (pv 0) (Zt ZQ (pv 1) Zb) (by rfl))) (Xn JK rfl (bm B) V6 (@pa1 _ _ _ (@YG _ _ _ _ _ _ _ _ Ue (cn CT hr (@pa2 _ _ _ _ _ (pv 0) Zb (by rfl))) Zb (Zw _)) (by rfl)))) (by rfl) (by exact aN rfl) (by rfl) (by exact .inl rfl))
 case' h5=>refine' (@st _ _ _ _ 7 _ _ Yr.nd ?h2 (by rfl) (by exact aN rfl) (by rfl) (by exact .inl rfl))
 case' h4=>refine' (@ZE _ _ _ _ _ (@Zh _ _ _ _ _ (Zt X7 (pv 6) ?h3) (@pa3 _ _ _ _ _ _ _ (pv 7) (pv 8) (cn CT hr (@pa2 _ _ _ _ _ (pv 0) Zb (by rfl))) (by rfl)) (by rfl)))
 case' h3=>refine' (@il _ _ _ _ _ _ K (@Z0 _ _ _ _ (@Y6 _ _ (by decide +kernel))) (Zt Y0 (pv 5) Zb) (by rfl) (by exact λ_ _=>rfl))
 case' h2=>refine' (@il _ _ _ _ _ _ K (pv 2) (cn CT hr (@pa2 _ _ _ _ _ (pv 0) (Zy (r:=rLen K) ZI rfl (bm B) aT (@pa1 _ _ _ (pv 2) (by rfl))) (by rfl))) (by rfl) (by exact λ_ _=>rfl))
 case' h1=>refine' (@Z0 _ _ _ _ Zj)
 case' rd=>
 refine⟨Nat.zero_le _,λlF hF=>?_⟩;have nF:=hb.ne hF;dsimp only[Zq,au];refine⟨_,rfl,_,rfl,_,rfl,b,m,rfl,hb.new hF,by omega,ZP (by omega) (by omega),λc H1 c0 c1 B1 S1=>?_⟩;refine⟨b,c,rfl,B1,c0,by omega,λH2 lL ts B2 S2 nL eL neL hc nd nx=>?_⟩;have S02:Zi b H H2:=((Zi.refl b H).new' hF).trans (S1.trans S2);have e1F:H1 lF=some (.lst []):=S1 _ _ Zd nF;have e2F:H2 lF=some (.lst []):=S2 _ _ e1F nF;have nLF:lL≠lF:=λz=>by rw[z,e1F]at nL;cases nL
 have R0:RowsAt b H2 lF (([]:List Gr).map grRow):=⟨nF,[],e2F,rfl,λi a r h1=>by cases h1⟩;clear S1 S2 B1 e1F e2F c0;refine⟨lL,_,rfl,eL,?_⟩;refine Z8 (J:=N1 lL) ts.length (λi σ H'=>Zz H' b/\Zi b H H'/\H' lL=some (.lst (ts.map V.str))/\(∃rs:List Gr,RowsAt b H' lF (rs.map grRow)/\rs.map (·.nm)=gnm ts i/\∀r∈rs,GrX n ns r)/\∃o:Nat->Option V,σ=[some (.ref b),some (.int n),some (.ref lN),some (.int m),some (.ref lF),o 5,o 6,o 7,o 8]) ?_ (λi σ H' hi q=>?_) (λσ H' q=>?_) (λi σ H' v H3 hi q yl=>?_) (λσ H' q=>?_)
 ·exact⟨B2,S02,eL,⟨[],R0,rfl,by simp⟩,shp rfl⟩
 ·exact⟨_,q.2.2.1,by simp[hi]⟩
 ·exact⟨_,q.2.2.1,by simp⟩
 ·obtain⟨bx,sm,el,⟨rs,ra,sub,rx⟩,o,rfl⟩:=q;obtain⟨t,xs,y,ht,hxs,hy,rfl,rfl⟩:=yl;rw[el]at hxs;cases hxs;have hy2:y=V.str ts[i]:=by simp[hi]at hy;exact hy.symm
  subst hy2;have et:upd H' t (.tup [.int i,.str ts[i]]) t=some (.tup [.int i,.str ts[i]]):=Zd;have S3:Zi b H' (upd H' t (.tup [.int i,.str ts[i]])):=(Zi.refl b H').new' ht;have bx3:Zz (upd H' t (.tup [.int i,.str ts[i]])) b:=bx.new ht;generalize upd H' t (.tup [.int i,.str ts[i]])=H3 at et S3 bx3 ⊢;refine⟨t,_,rfl,SqT.of et,rfl,?_⟩;dsimp only[Zq,au];refine⟨_,_,rfl,_,_,rfl,rfl,?_⟩;dsimp only[Zq,au];refine td λD' hdd=>?_;have S03:=sm.trans S3;have eN3:=S03 _ _ hN nN;refine⟨_,rfl,_,rfl,_,rfl,lN,_,rfl,.inl (SqL.of eN3),b,_,rfl,bx3,(by rw[lm];omega),ZP (by rw[lm];omega) (by rw[lm];omega),λr4 H4 r40 r41 B4 S4=>?_⟩;obtain⟨v4,at4,m4⟩:=at_of (xs:=ns.map V.str) r40 r41;obtain⟨pl,hpl,rfl⟩:=ai.mp m4;have S34:=S3.trans S4;refine⟨lN,_,_,_,rfl,rfl,SqL.of (S4 _ _ eN3 nN),at4,?_⟩;dsimp only[Zq,au];refine⟨_,rfl,_,rfl,_,_,rfl,rfl,b,_,rfl,B4,by omega,ZP (by omega) (by omega),λtu H5 t0 t1 B5 S5=>?_⟩;refine tkC B5 (λz H6 z0 z1 B6 S6=>?_);refine⟨_,_,rfl,rfl,.inr ⟨_,rfl,?_⟩⟩;refine⟨_,_,rfl,rfl,.inl ⟨by omega,by omega⟩,?_⟩;have S36:=(S34.trans S5).trans S6;have htu:0<=tu*(if decide (0<z)=true then 1 else 0)/\tu*(if decide (0<z)=true then 1 else 0)<=n:=by split<;>omega
  dsimp only[Zq,au];obtain⟨xs6,e6,_⟩:=(ra.same S36).app;refine⟨_,rfl,.inl ⟨rfl,_,SqL.of e6⟩,_,rfl,(zl),λlq hq=>?_⟩;have eq7:upd H6 lq (.lst (sufs.map V.str)) lq=some (.lst (sufs.map V.str)):=Zd;have hm3:(i:Int) % 3=((i % 3:Nat):Int):=by omega
  have hnx:=nx _ (aL hi);have hlen:(ts[i]:Str).length+(sfx i).length<=100:=by have h1:=hnx.1;have h2:=(Pa _ (Ut i)).1;rw[ZU]at h1 h2;omega
  refine⟨_,rfl,_,_,rfl,rfl,(by show(0:Int)<3;decide),lq,_,_,_,rfl,rfl,SqL.of eq7,Qg (j:=i % 3) hm3 (Lq i),_,_,rfl,rfl,Nat.le_trans hlen (by decide),_,rfl,_,rfl,tkC (B6.new hq) (λma H8 m0 m1 B8 S8=>?_)⟩;have S38:=(S36.new' hq).trans S8;obtain⟨xs,eF,lx,app⟩:=(ra.same S38).app;refine⟨Nat.le_trans (by decide:4<=1000) (by decide),λq hq2=>?_⟩;have hl:rs.length=i:=by have:=congrArg fD sub;simpa[gnm]using this
  have nFq:lF≠q:=ne_of_none eF hq2;refine⟨lF,xs,_,rfl,rfl,(Zc nFq).trans eF,Nat.lt_of_le_of_lt (by rw[lx,lm];omega:xs.length<=20) (by decide),?_⟩;have nq:=B8.ne hq2;refine hdd _ _ ⟨Zz.same_ne (B8.new hq2) nF,Xm ((sm.trans S38).new' hq2) (Zi.refl b H) nF hF,?_,⟨rs++[⟨ts[i]++sfx i,pl,tu*(if decide (0<z)=true then 1 else 0),ma⟩],?_,?_,?_⟩,shp rfl⟩
  ·rw[Zc nLF,Zc (ne_of_none (S38 _ _ el neL) hq2)];exact S38 _ _ el neL
  ·rw[aE];exact app q _ hq2 nq
  ·rw[aE,sub];unfold gnm;rw[fW,aE];congr 1;show[ts[i]++sfx i]=[ts.getD i ""++sfx i];rw[aQ,gE hi];rfl
  ·intro r hr;rcases aK.mp hr with hr|hr
   ·exact rx r hr
   ·rw[a7]at hr;subst hr;exact⟨DB hnx (Ut i),hpl,htu.1,htu.2,m0,by show ma<=3;omega⟩
 ·obtain⟨bx,sm,el,⟨rs,ra,sub,rx⟩,o,rfl⟩:=q;have hl:rs.length=ts.length:=by have:=congrArg fD sub;simpa[gnm]using this
  exact⟨_,rfl,k _ lF rs bx sm hF ra (by omega) (sub▸DC nd nx) rx⟩
end
noncomputable def dF:V->PyData
|.int i=>.int i
|.str z=>.str z
|.bl c=>.bool c
|_=>.none
open PySem L2 PySem.Spec PyProof.Rows TB
def GS(z:Str):Prop:=z.length<=12/\∀c∈z.cps.toList,c<0x110000
noncomputable instance (z:Str):Decidable (GS z):=by unfold GS;infer_instance
inductive Atm:V->Prop
|non:Atm .non
|int {i:Int} (h:i.natAbs<=1000):Atm (.int i)
|str {z:Str} (h:GS z):Atm (.str z)
theorem Atm.is{H:Hp}{v:V}(h:Atm v):Is H v (dF v):=by
 cases h with
|non=>exact .non
|int h=>exact .int _
|str h=>exact .str _
theorem GZ{H:Hp}:∀{ys:List V},(∀y∈ys,Atm y)->IsAll H ys (ys.map dF)
|[],_=>.nil
|y::ys,h=>.cons (h y aA).is (GZ λz hz=>h z (aq _ hz))
def RowG(ys:List V):Prop:=ys.length<=6/\∀y∈ys,Atm y
noncomputable def rowD(ys:List V):PyData:=.tuple (ys.map dF)
structure Sm(d:PyData)(k m:Nat):Prop where
 sh:d.showable=true
 lv:d.leavesShort 13=true
 dp:d.depth<=k
 wt:d.weight<=m
theorem lgk{i:Nat}(h:i<=1000):i.log2<=11:=by
 by_cases e:i=0
 ·subst e;decide
 ·exact Nat.lt_succ_iff.mp ((Nat.log2_lt e).mpr (by omega))
theorem shown_int{i:Int}(h:i.natAbs<=1000):((PyData.int i).shown).length<=13:=by
 have key:∀n:Nat,n<=1000->((PyData.int n).shown).length<=13/\((PyData.int (-(n:Int))).shown).length<=13:=by intro n hn;have:=(by decide +kernel:∀k∈bh 1001,((PyData.int (k:Nat)).shown).length<=13/\((PyData.int (-((k:Nat):Int))).shown).length<=13);exact this n (cj.mpr (by omega))
 rcases Int.natAbs_eq i with e|e
 ·rw[e];exact(key _ h).1
 ·rw[e];exact(key _ h).2
theorem Atm.sm{v:V}(h:Atm v):Sm (dF v) 0 12:=by
 cases h with
|non=>exact⟨rfl,rfl,Nat.le_refl _,Nat.zero_le _⟩
|int h=>
  have:=lgk h;refine⟨?_,?_,Nat.le_refl _,?_⟩
  ·simp only[dF,PyData.showable,decide_eq_true_eq];omega
  ·simp only[dF,PyData.leavesShort,decide_eq_true_eq];exact shown_int h
  ·simp only[dF,PyData.weight];split<;>omega
|str h=>refine⟨by simp only[dF,PyData.showable],?_,Nat.le_refl _,h.1⟩;simp only[dF,PyData.leavesShort,cz,decide_eq_true_eq];exact λc hc=>Nat.lt_of_lt_of_le (h.2 c hc) (by decide)
structure SmAll(ds:List PyData)(k m:Nat):Prop where
 sh:PyData.showableAll ds=true
 lv:PyData.leavesShortAll 13 ds=true
 dp:PyData.depthAll ds<=k
 wt:PyData.weightAll ds<=ds.length*(m+1)
theorem SmAll.of{k m:Nat}:∀{ds:List PyData},(∀d∈ds,Sm d k m)->SmAll ds k m
|[],_=>⟨rfl,rfl,Nat.zero_le _,Nat.zero_le _⟩
|d::ds,h=>by
  have h1:=h d aA;have h2:=SmAll.of (ds:=ds) λx hx=>h x (aq _ hx);refine⟨?_,?_,?_,?_⟩
  ·simp only[PyData.showableAll,h1.sh,h2.sh,Bool.and_self]
  ·simp only[PyData.leavesShortAll,h1.lv,h2.lv,Bool.and_self]
  ·simp only[PyData.depthAll];have:=h1.dp;have:=h2.dp;omega
  ·simp only[PyData.weightAll,aU,Nat.succ_mul];have:=h1.wt;have:=h2.wt;omega
theorem SmAll.tup{ds:List PyData}{k m n:Nat}(h:SmAll ds k m)(hl:ds.length<=n):Sm (.tuple ds) (k+1) (n*(m+1)):=by
 refine⟨?_,?_,?_,?_⟩
 ·simp only[PyData.showable,h.sh]
 ·simp only[PyData.leavesShort,h.lv]
 ·simp only[PyData.depth];have:=h.dp;omega
 ·simp only[PyData.weight];exact Nat.le_trans h.wt (Nat.mul_le_mul_right _ hl)
theorem Sm.mono{d:PyData}{k m k' m':Nat}(h:Sm d k m)(hk:k<=k')(hm:m<=m'):Sm d k' m':=⟨h.sh,h.lv,Nat.le_trans h.dp hk,Nat.le_trans h.wt hm⟩
theorem Atm.lay{v:V}(h:Atm v):(dF v).canLay0=true:=by
 cases h with
|non=>rfl
|int h=>rfl
|str h=>show(Array.all _ _)=true;rw[Array.all_eq_true'];intro c hc;exact decide_eq_true (h.2 c (eT.mpr hc))
theorem JD:∀{ds:List PyData},(∀d∈ds,d.canLay0=true)->PyData.canLayAll0 ds=true
|[],_=>rfl
|d::ds,h=>by show(d.canLay0&&PyData.canLayAll0 ds)=true;rw[h d aA,JD λe he=>h e (aq _ he)];rfl
theorem W3{ys:List V}(h:RowG ys):(rowD ys).canLay0=true:=JD (ds:=ys.map dF) λd hd=>by obtain⟨y,hy,rfl⟩:=ai.mp hd;exact(h.2 y hy).lay
end WD
namespace TB
open PySem L2 PySem.Spec PyProof.Rows WD
theorem WJ.same{H H':Hp}(sm:Same H H'){v:V}{r:PR}(h:WJ H v r):WJ H' v r:=by
 cases r with
|none=>obtain⟨T,th,a⟩:=h;exact⟨T,th.same sm,a⟩
|some q=>
  obtain⟨xs,rs⟩:=q;obtain⟨⟨p,rfl,hp⟩,h1,h2⟩:=h;refine⟨⟨p,rfl,?_⟩,h1,λi y r e1 e2=>?_⟩
  ·rcases hp with hp|hp
   ·exact .inl (sm _ _ hp)
   ·exact .inr (sm _ _ hp)
  ·have:=h2 i y r e1 e2;cases r with
  |none=>obtain⟨T,th,a⟩:=this;exact⟨T,th.same sm,a⟩
  |some ys=>obtain⟨p,rfl,a,b⟩:=this;exact⟨p,rfl,sm _ _ a,λy hy=>let ⟨T,th⟩:=b y hy;⟨T,th.same sm⟩⟩
structure TabP(H:Hp)(C t:Addr)(fs:List (Str×V))(n:Int)(r1 r2 r3 r4:PR)(k:Ks):Prop where
 tab:TabOf H C t fs n r1 r2 r3 r4 k
 rows:∀r,r=r1\/r=r2\/r=r3\/r=r4->∀xs rs,r=some (xs,rs)->YT H xs rs
theorem Row.same{H H':Hp}(s:Same H H'){v:V}{r:Option (List V)}(h:Row H v r):Row H' v r:=by
 cases r with
|none=>obtain⟨T,t,n⟩:=h;exact⟨T,t.same s,n⟩
|some ys=>obtain⟨p,e,a,t⟩:=h;exact⟨p,e,s _ _ a,λy hy=>let ⟨T,u⟩:=t y hy;⟨T,u.same s⟩⟩
theorem YT.same{H H':Hp}(s:Same H H'){xs:List V}{rs:List (Option (List V))}(h:YT H xs rs):YT H' xs rs:=⟨h.1,λi x r e1 e2=>(h.2 i x r e1 e2).same s⟩
theorem Ju.same{H H':Hp}(s:Same H H'){fs:List (Str×V)}{f g:Str}{r:PR}{k:List (Key×V)}(h:Ju H fs f g r k):Ju H' fs f g r k:=by obtain⟨l,d,xs,rs,a1,a2,a3,a4,a5⟩:=h;exact⟨l,d,xs,rs,a1,a2,a3,s _ _ a4,s _ _ a5⟩
theorem TabP.same{H H':Hp}{C t:Addr}{fs:List (Str×V)}{n:Int}{r1 r2 r3 r4:PR}{k:Ks}(s:Same H H')(h:TabP H C t fs n r1 r2 r3 r4 k):TabP H' C t fs n r1 r2 r3 r4 k:=⟨⟨⟨let ⟨dx,e⟩:=h.tab.tab.at_;⟨dx,s _ _ e⟩,h.tab.tab.only⟩,h.tab.turns,h.tab.p.same s,h.tab.r.same s,h.tab.w.same s,h.tab.g.same s⟩,λr hr xs rs e=>(h.rows r hr xs rs e).same s⟩
end TB
namespace WD
open PySem L2 PySem.Spec PyProof.Rows TB
def isJ(j:Nat):Prop:=j=1\/j=2\/j=3\/j=4
theorem DE{H:Hp}{y:V}(h:Flat y):∃T,Th H y T:=by
 rcases h with rfl|⟨i,rfl⟩|⟨z,rfl,hz⟩
 ·exact⟨_,.non⟩
 ·exact⟨_,.int i⟩
 ·exact⟨_,.str z hz⟩
structure TbAt(b:Addr)(H:Hp)(p:Addr)(T:Tb)(l1 l2 l3 l4:Addr):Prop where
 ne:p≠b
 at_:H p=some (.lst [.int T.n,.ref l1,.ref l2,.ref l3,.ref l4])
 pl:RowsAt b H l1 T.t1
 rd:RowsAt b H l2 T.t2
 wy:RowsAt b H l3 T.t3
 gr:RowsAt b H l4 T.t4
theorem TbAt.same{b:Addr}{H H':Hp}{p:Addr}{T:Tb}{l1 l2 l3 l4:Addr}(s:Zi b H H')(h:TbAt b H p T l1 l2 l3 l4):TbAt b H' p T l1 l2 l3 l4:=⟨h.ne,s _ _ h.at_ h.ne,h.pl.same s,h.rd.same s,h.wy.same s,h.gr.same s⟩
theorem RowsAt.part{b:Addr}{H:Hp}{l:Addr}{rows:List (List V)}(h:RowsAt b H l rows)(hf:∀ys∈rows,∀y∈ys,Flat y):∃xs:List V,xs.length=rows.length/\H l=some (.lst xs)/\(∀x∈xs,∃a,x=.ref a/\a≠b)/\YT H xs (rows.map some):=by
 obtain⟨n,as,e,hl,r⟩:=h;refine⟨as.map V.ref,by rw[lm,hl],e,λx hx=>?_,by simp[hl],λi x r' e1 e2=>?_⟩
 ·obtain⟨a,ha,rfl⟩:=ai.mp hx;obtain⟨i,hi⟩:=aZ.mp ha;have h1:i<rows.length:=by rw[<-hl];exact(aj.mp hi).1
  exact⟨a,rfl,(r i a _ hi (gE h1)).1⟩
 ·rw[aW]at e1 e2;obtain⟨a,ha,rfl⟩:=cu.mp e1;obtain⟨q,hq,rfl⟩:=cu.mp e2;exact⟨a,rfl,(r i a q ha hq).2,λy hy=>DE (hf q (a_ hq) y hy)⟩
theorem OkTb.flat{T:Tb}(o:OkTb T){j:Nat}(hj:isJ j):∀ys∈T.part j,∀y∈ys,Flat y:=λys h=>((o.part j hj).2.row ys h).flat
def Tel(H:Hp)(C t:Addr)(T:Tb):Prop:=∃fs x1 x2 x3 x4 k,TabP H C t fs T.n (prs x1 T.t1) (prs x2 T.t2) (prs x3 T.t3) (prs x4 T.t4) k/\TbDict T x2 x3 x4 k
theorem Tel.same{H H':Hp}{C t:Addr}{T:Tb}(s:Same H H')(h:Tel H C t T):Tel H' C t T:=by obtain⟨fs,x1,x2,x3,x4,k,tp,d⟩:=h;exact⟨fs,x1,x2,x3,x4,k,tp.same s,d⟩
theorem Ta{k1:Kv}{n:Int}{s l g a m:V}(h:Vc k1 n s l g a m=.non):YK k1 s g=.non/\∃i,l=.int i/\K1.Zu (.int i) 0 (n-1)=true/\K1.Zu a (i+1) n=true/\K1.Zu m 0 1000=true:=by
 unfold Vc at h;by_cases e:YK k1 s g=.non
 ·rw[if_neg (λz=>z e)]at h;refine⟨e,?_⟩;cases l with
 |int i=>dsimp only at h;refine⟨i,rfl,?_⟩;cases h1:K1.Zu (.int i) 0 (n-1)<;>cases h2:K1.Zu a (i+1) n<;>cases h3:K1.Zu m 0 1000<;>simp_all
 |_=>cases h
 ·rw[if_pos e]at h;exact absurd h e
theorem WL{k1:Kv}{s g l m:V}(h:wayV k1 s g l m=.non):YK k1 s g=.non/\K1.Zu l 1 50=true/\K1.Zu m 0 1000=true:=by
 unfold wayV at h;by_cases e:YK k1 s g=.non
 ·rw[if_neg (λz=>z e)]at h;refine⟨e,?_⟩;cases h1:K1.Zu l 1 50<;>cases h2:K1.Zu m 0 1000<;>simp_all
 ·rw[if_pos e]at h;exact absurd h e
theorem RL{k1:Kv}{n pp:Int}{p t m:V}(h:Xg k1 n pp p t m=.non):ZM p k1=true/\K1.Zu t 0 n=true:=by unfold Xg at h;cases h1:ZM p k1<;>cases h2:K1.Zu t 0 n<;>simp_all
theorem Vw{k1:Kv}{s g:V}(h:YK k1 s g=.non):ZM s k1=true/\ZM g k1=true/\JQ s k1=false:=by unfold YK at h;cases h1:ZM s k1<;>cases h2:ZM g k1<;>cases h3:JQ s k1<;>simp_all
theorem My{g:Bool}{z:Str}(h:Z3 g (.str z)=true):z.length<=1000:=by
 have h12:K1.lenB 12 (codes z)=true\/K1.lenB 8 (codes z)=true:=by
  cases g
  ·right;have h':K1.XW 8 (K1.codes K1.tNAME) (codes z)=true:=h;unfold K1.XW K1.Yy at h';exact(Bool.and_eq_true_iff.mp (Bool.and_eq_true_iff.mp h').1).1
  ·left;have h':K1.XW 12 (K1.codes K1.tGROUP) (codes z)=true:=h;unfold K1.XW K1.Yy at h';exact(Bool.and_eq_true_iff.mp (Bool.and_eq_true_iff.mp h').1).1
 unfold K1.lenB at h12;rw[ZU]at h12;simp only[Bool.and_eq_true,decide_eq_true_eq]at h12;omega
theorem NN{ps:Pl}{s g:Str}(h:Ends ps s g){k1:Kv}(hk:VL k1 (ps.map plRow)):YK k1 (.str s) (.str g)=.non:=by obtain⟨⟨i,hi⟩,⟨r,hr⟩,ne⟩:=h;have e1:valV k1 (.inr s)=some (.int i):=hk _ (ai.mpr ⟨_,hi,rfl⟩);have e2:valV k1 (.inr g)=some (XA r):=hk _ (ai.mpr ⟨_,hr,rfl⟩);unfold YK ZM JQ;simp only[e1,e2,Option.isSome_some,Bool.not_true,Bool.or_false,Bool.false_eq_true,if_false];rw[if_neg (by simp),if_neg (by intro z;injection z with z;exact ne z.symm)]
theorem Xb(i:Int):Flat (.int i):=.inr (.inl ⟨i,rfl⟩)
theorem YN{z:Str}(h:z.length<=1000):Flat (.str z):=.inr (.inr ⟨z,rfl,h⟩)
section
variable {n:Int}{ps:Pl}
theorem El{p:Str×Option Int}{t1:List (List V)}(hn:Z3 false (.str p.1)=true)(hr:∀i,p.2=some i->0<=i/\i<=1000):RowOk 1 n t1 (plRow p):=by
 refine⟨rfl,hn,λk1 _ pp _=>?_,λz=>(by cases z),λy hy=>?_⟩
 ·show Yq (XA p.2)=.non;unfold Yq;rw[if_pos];cases e:p.2 with
 |none=>rfl
 |some i=>have:=hr i e;simp[XA,K1.Zu,this.1,this.2]
 ·simp only[plRow,ar,aP,or_false]at hy;rcases hy with rfl|rfl
  ·exact YN (My hn)
  ·cases p.2 with
  |none=>exact .inl rfl
  |some i=>exact Xb i
theorem Eh(gp:∀p∈ps,p.1.length<=1000){r:Rd}(g:GoodRd n ps r)(hn:Z3 false (.str r.nm)=true):RowOk 2 n (ps.map plRow) (rdRow r):=by
 refine⟨rfl,hn,λk1 hk pp _=>?_,λz=>(by cases z),λy hy=>?_⟩
 ·show Vc k1 n (.str r.st) (.int r.lv) (.str r.gl) (.int r.cm) (.int r.se)=.non;unfold Vc;rw[NN g.ends (hk (by decide)),if_neg (λz=>z rfl)];dsimp only;rw[YU g.lv0 g.lv1,YU g.cm0 g.cm1,YU g.se0 g.se1];rfl
 ·obtain⟨⟨i,hi⟩,⟨x,hx⟩,_⟩:=g.ends;simp only[rdRow,ar,aP,or_false]at hy;rcases hy with rfl|rfl|rfl|rfl|rfl|rfl
  ·exact YN (My hn)
  ·exact YN (gp _ hi)
  ·exact Xb _
  ·exact YN (gp _ hx)
  ·exact Xb _
  ·exact Xb _
theorem DS(gp:∀p∈ps,p.1.length<=1000){r:Wy}(g:GoodWy ps r)(hn:Z3 false (.str r.nm)=true):RowOk 3 n (ps.map plRow) (wyRow r):=by
 refine⟨rfl,hn,λk1 hk pp _=>?_,λz=>(by cases z),λy hy=>?_⟩
 ·show wayV k1 (.str r.st) (.str r.gl) (.int r.lo) (.int r.wi)=.non;unfold wayV;rw[NN g.ends (hk (by decide)),if_neg (λz=>z rfl),YU g.lo0 g.lo1,YU g.wi0 g.wi1];rfl
 ·obtain⟨⟨i,hi⟩,⟨x,hx⟩,_⟩:=g.ends;simp only[wyRow,ar,aP,or_false]at hy;rcases hy with rfl|rfl|rfl|rfl|rfl
  ·exact YN (My hn)
  ·exact YN (gp _ hi)
  ·exact YN (gp _ hx)
  ·exact Xb _
  ·exact Xb _
theorem Eu{t1:List (List V)}{r:Gr}{v:V}(hp:∃p∈t1,nameOf p=r.pl)(pl:r.pl.length<=1000)(t0:0<=r.tu)(t1':r.tu<=n)(m0:0<=r.ma)(m1:r.ma<=300)(hn:Z3 true (.str r.nm)=true):RowOk 4 n t1 (grRow r):=by
 refine⟨rfl,hn,λk1 hk pp hpp=>?_,λ_=>m0,λy hy=>?_⟩
 ·show Xg k1 n pp (.str r.pl) (.int r.tu) (.int r.ma)=.non;obtain⟨p,hp,e⟩:=hp;have e1:=hk (by decide) p hp;rw[e]at e1;unfold Xg;rw[show ZM (.str r.pl) k1=true from by show(valV k1 (.inr r.pl)).isSome=true;rw[e1];rfl,YU t0 t1'];dsimp only;rw[YU m0 m1];have:=hpp rfl;have em:ZF (grRow r)=r.ma:=rfl;rw[em]at this;simp only[Bool.not_true,Bool.false_eq_true,if_false];rw[if_neg (by omega)]
 ·simp only[grRow,ar,aP,or_false]at hy;rcases hy with rfl|rfl|rfl|rfl
  ·exact YN (My hn)
  ·exact YN pl
  ·exact Xb _
  ·exact Xb _
end
theorem Mw{T:Tb}(o:OkTb T):∃k1,PlDict k1 T.t1:=by obtain⟨k1,_,d,_⟩:=Rm (j:=1) (k1:=[]) (n:=T.n) (t1:=T.t1) (.inl rfl) (λh=>absurd rfl h) (o.part 1 (.inl rfl)) (xs:=T.t1.map λ_=>V.non) (by rw[lm];rfl);exact⟨k1,d rfl⟩
theorem UO:(∀c∈K1.codes K1.tNAME,c<0x110000)/\∀c∈K1.codes K1.tGROUP,c<0x110000:=by decide +kernel
theorem Kl{g:Bool}{z:Str}(h:Z3 g (.str z)=true):GS z:=by
 cases g
 ·have h':K1.XW 8 (K1.codes K1.tNAME) (codes z)=true:=h;unfold K1.XW K1.Yy K1.lenB at h';simp only[Bool.and_eq_true,decide_eq_true_eq,cz]at h';exact⟨by rw[<-ZU];omega,λc hc=>UO.1 c (h'.1.2 c hc)⟩
 ·have h':K1.XW 12 (K1.codes K1.tGROUP) (codes z)=true:=h;unfold K1.XW K1.Yy K1.lenB at h';simp only[Bool.and_eq_true,decide_eq_true_eq,cz]at h';exact⟨by rw[<-ZU];omega,λc hc=>UO.2 c (h'.1.2 c hc)⟩
theorem within_int{v:V}{lo hi:Int}(h:K1.Zu v lo hi=true):∃i,v=.int i/\lo<=i/\i<=hi:=by
 cases v with
|int i=>have h':(decide (lo<=i)&&decide (i<=hi))=true:=h;simp only[Bool.and_eq_true,decide_eq_true_eq]at h';exact⟨i,rfl,h'.1,h'.2⟩
|_=>cases h
theorem Uj{k1:Kv}{n pp:Int}{p t m:V}(h:Xg k1 n pp p t m=.non):ZM p k1=true/\K1.Zu t 0 n=true/\∃i,m=.int i/\0<=i/\i<=300:=by
 obtain⟨h1,h2⟩:=RL h;refine⟨h1,h2,?_⟩;unfold Xg at h;rw[h1,h2]at h;cases m with
|int i=>
  cases hw:K1.Zu (.int i) 0 300 with
 |true=>exact within_int hw
 |false=>dsimp only at h;rw[hw]at h;cases h
|_=>cases h
theorem PD{k1:Kv}{t1:List (List V)}(hk:PlDict k1 t1){x:V}(h:ZM x k1=true):∃p∈t1,x=.str (nameOf p):=by
 obtain⟨z,v,rfl,hv⟩:=Yb h;by_cases hz:z∈t1.map nameOf
 ·obtain⟨p,hp,e⟩:=ai.mp hz;exact⟨p,hp,by rw[e]⟩
 ·rw[hk.no z hz]at hv;cases hv
section
variable {T:Tb}(o:OkTb T)
include o
theorem UW{j:Nat}(hj:isJ j){ys:List V}(h:ys∈T.part j):RowOk j T.n T.t1 ys:=(o.part j hj).2.row ys h
theorem XU{j:Nat}(hj:isJ j){ys:List V}(h:ys∈T.part j):at_ ys 0=.str (nameOf ys)/\GS (nameOf ys):=by have r:=UW o hj h;refine⟨r.name,?_⟩;have:=r.nm;rw[show at_ ys 0=.str (nameOf ys)from r.name]at this;exact Kl this
theorem VX{k1:Kv}(hk:PlDict k1 T.t1){x:V}(h:ZM x k1=true):Atm x:=by obtain⟨p,hp,rfl⟩:=PD hk h;exact .str (XU o (j:=1) (.inl rfl) hp).2
theorem X6{ys:List V}(h:ys∈T.t1):∃p:Str×Option Int,ys=plRow p/\GS p.1/\∀i,p.2=some i->0<=i/\i<=1000:=by
 have r:=UW o (j:=1) (.inl rfl) h;obtain⟨e0,g⟩:=XU o (j:=1) (.inl rfl) h;have hw:Yq (at_ ys 1)=.non:=r.why [] (λz=>absurd rfl z) 0 (λz=>by cases z);obtain⟨a,c,rfl⟩:=len2 r.len;have ea:a=.str (nameOf [a,c]):=e0;have hw:Yq c=.non:=hw;unfold Yq at hw;by_cases e:c=.non
 ·exact⟨(nameOf [a,c],none),by rw[e];rw[e]at ea;rw[<-ea.symm];rfl,g,λi q=>by cases q⟩
 ·have hb:K1.Zu c 0 1000=true:=by
   cases hb:K1.Zu c 0 1000 with
  |true=>rfl
  |false=>rw[hb,decide_eq_false e,Bool.or_false,if_neg (by decide)]at hw;cases hw
  obtain⟨i,rfl,h0,h1⟩:=within_int hb;exact⟨(nameOf [a,.int i],some i),by rw[<-ea.symm];rfl,g,λj q=>by cases q;exact⟨h0,h1⟩⟩
theorem Ri{ys:List V}(h:ys∈T.t2){k1:Kv}(hk:VL k1 T.t1):∃z s lv g cm se,ys=[.str z,s,.int lv,g,.int cm,.int se]/\nameOf ys=z/\YK k1 s g=.non/\0<=lv/\lv<=T.n-1/\lv+1<=cm/\cm<=T.n/\0<=se/\se<=1000:=by have r:=UW o (j:=2) (.inr (.inl rfl)) h;have hw:Tc k1 T.n ys=.non:=r.why k1 (λ_=>hk) 0 (λz=>by cases z);obtain⟨a,b,c,d,e,f,rfl⟩:=len6 r.len;have ea:a=.str (nameOf [a,b,c,d,e,f]):=r.name;have hw:Vc k1 T.n b c d e f=.non:=hw;obtain⟨he,i,rfl,h1,h2,h3⟩:=Ta hw;obtain⟨i',q,a1,a2⟩:=within_int h1;cases q;obtain⟨cm,rfl,b1,b2⟩:=within_int h2;obtain⟨se,rfl,c1,c2⟩:=within_int h3;exact⟨_,b,i,d,cm,se,congrArg (λq=>q::[b,.int i,d,.int cm,.int se]) ea,rfl,he,a1,a2,b1,b2,c1,c2⟩
theorem NO{k1:Kv}(hk:PlDict k1 T.t1){s g:V}(h:YK k1 s g=.non):Atm s/\Atm g:=⟨VX o hk (Vw h).1,VX o hk (Vw h).2.1⟩
end
structure GD(j:Nat)(t:List (List V))(xs:List V)(i:Nat)(kvs:Kv):Prop where
 has:∀(m:Nat)y x,m<i->t[m]?=some y->xs[m]?=some x->valV kvs (.inr (nameOf y))=some (if j=1 then at_ y 1 else x)
 no:∀z,z∉(t.take i).map nameOf->valV kvs (.inr z)=none
 len:kvs.length<=i
section
variable {j i:Nat}{t:List (List V)}{xs:List V}{kvs:Kv}{y:List V}{x:V}
theorem GD.nil:GD j t xs 0 []:=⟨λ_ _ _ h=>absurd h (Nat.not_lt_zero _),λ_ _=>rfl,Nat.le_refl _⟩
theorem GD.fresh(g:GD j t xs i kvs)(nd:(t.map nameOf).Nodup)(e:t[i]?=some y):valV kvs (.inr (nameOf y))=none:=g.no _ λh=>by
 obtain⟨q,hq,eq⟩:=ai.mp h;obtain⟨m,hm⟩:=aZ.mp hq;have hlt:m<i:=by have:=(aj.mp hm).1;rw[aF]at this;omega
 rw[List.getElem?_take_of_lt hlt]at hm;have h1:(t.map nameOf)[m]?=some (nameOf y):=by rw[aW,hm,<-eq];rfl
 have h2:(t.map nameOf)[i]?=some (nameOf y):=by rw[aW,e];rfl
 obtain⟨p1,q1⟩:=aj.mp h1;obtain⟨p2,q2⟩:=aj.mp h2;exact List.pairwise_iff_getElem.mp nd m i p1 p2 hlt (q1.trans q2.symm)
theorem GD.step(g:GD j t xs i kvs)(nd:(t.map nameOf).Nodup)(e:t[i]?=some y)(ex:xs[i]?=some x):GD j t xs (i+1) (putK kvs (.inr (nameOf y)) (if j=1 then at_ y 1 else x)):=by
 refine⟨λm q z hm h1 h2=>?_,λz hz=>?_,?_⟩
 ·rw[Yu];by_cases h:m=i
  ·subst h;rw[e]at h1;rw[ex]at h2;cases h1;cases h2;rw[if_pos rfl]
  ·have hlt:m<i:=by omega
   have hv:=g.has m q z hlt h1 h2;rw[if_neg (λz=>by injection z with z;rw[z,g.fresh nd e]at hv;cases hv)];exact hv
 ·rw[aV,e,aE,aK,not_or]at hz;rw[Yu,if_neg (λq=>hz.2 (by injection q with q;rw[q];exact a7.mpr rfl))];exact g.no z hz.1
 ·have:=Xa kvs (b9 (nameOf y)) (if j=1 then at_ y 1 else x);have:=g.len;omega
theorem KN{n:Int}{t1:List (List V)}(r:RowOk j n t1 y)(h:valV kvs (.inr (nameOf y))=none):begR (gJ j) (szJ j) kvs (some y)=.non:=by show begV _ _ _ _=_;unfold begV;rw[if_neg (λz=>z r.len),show Z3 (gJ j) (y.getD 0 .non)=true from r.nm,if_neg (by decide),r.name];rw[show ZM (.str (nameOf y)) kvs=false from by show(valV kvs _).isSome=false;rw[h];rfl,if_neg (by decide)]
end
noncomputable def dJ:Nat->Str
|1=>"room_by_place"|2=>"ride_by_name"|3=>"way_by_name"|_=>"group_by_name"
theorem GG{j:Nat}(hj:isJ j):(Yj j,szJ j)∈Np/\(Yj j,NA j)∈QJ/\decide (Yj j="groups")=gJ j/\Yj j∈fields/\dJ j∈fields/\"turns"≠Yj j/\"turns"≠dJ j:=by rcases hj with rfl|rfl|rfl|rfl<;>exact⟨by simp[Np,Yj,szJ],by simp[QJ,Yj,NA],by decide +kernel,by simp[fields,Yj],by simp[fields,dJ],by decide +kernel,by decide +kernel⟩
theorem R9{i j:Nat}(hi:isJ i)(hj:isJ j):(i≠j->Yj i≠Yj j/\dJ i≠dJ j)/\Yj i≠dJ j:=by rcases hi with rfl|rfl|rfl|rfl<;>rcases hj with rfl|rfl|rfl|rfl<;>decide +kernel
def PlG(j:Nat)(H:Hp)(fs:List (Str×V))(n:Int)(t1:List (List V)):Prop:=j≠1->fs.lookup ("turns":Str)=some (.int n)/\∃dP kP,fs.lookup ("room_by_place":Str)=some (.ref dP)/\H dP=some (.dK kP)/\VL kP t1
def Xi(C:Addr)(j:Nat):Sp:=λvs H Q _=>∃(t l dx:Addr)(xs:List V)(ts:List (List V))(fs:List (Str×V))(n:Int)(t1:List (List V)),vs=[.ref t,.ref l]/\H t=some (.ins C dx fs)/\(∀g,g∉fields->fs.lookup g=none)/\fs.length<=20/\PlG j H fs n t1/\H l=some (.tup xs)/\YT H xs (ts.map some)/\Qk j n t1 ts /\∀H' d kvs,Zi t H H'->H d=none->d≠t->H' d=some (.dK kvs)->GD j ts xs ts.length kvs->H' t=some (.ins C dx (putF (dJ j) (.ref d) (putF (Yj j) (.ref l) fs)))->Q .non H'
section
variable {K:ae}{C:Addr}{H H2:Hp}{t l d dx:Addr}{fs:List (Str×V)}{D:L2.Ends}{σ:L2.St}
theorem X1(Z:TCl K C){f g:Str}(nf:f∈fields)(ng:g∈fields){u:TS}(s0:σ[0]?=some (some (.ref t)))(s1:σ[1]?=some (some (.ref l)))(ht:H t=some (.ins C dx fs))(hfs:fs.length<=20)(k:∀H2 d,Zi t H H2->H d=none->d≠t->H2 d=some (.dK [])->H2 t=some (.ins C dx (putF g (.ref d) (putF f (.ref l) fs)))->u D σ H2):tSeq (sFld K (tVar 0) (tVar 1) f) (tSeq (sFld K (tVar 0) Sv g) u) D σ H:=by
 have fl1:=YJ f (V.ref l) fs;refine⟨_,s1,_,s0,t,C,dx,_,rfl,ht,Z.cl,Z.na _ nf,by omega,?_⟩;have t1:upd H t (.ins C dx (putF f (.ref l) fs)) t=some (.ins C dx (putF f (.ref l) fs)):=Zd;refine λd hd=>⟨_,s0,t,C,dx,_,rfl,(by rw[Zc (ne_of_none t1 hd)];exact t1),Z.cl,Z.na _ ng,by omega,?_⟩;have hdt:d≠t:=bR (ne_of_none t1 hd);have hd0:H d=none:=by rw[Zc hdt]at hd;exact hd
 refine k _ d (λc o h hc=>?_) hd0 hdt (by rw[Zc hdt,Zd]) Zd;rw[Zc hc,Zc (ne_of_none h hd0),Zc hc];exact h
theorem Jw{a b j:Nat}{tb:TS}{F2:List (Str×V)}{ts:List (List V)}{xs:List V}(Ps:Nat->L2.St->Prop)(s1:σ[1]?=some (some (.ref l)))(ht:H t=some (.ins C dx fs))(hl:H l=some (.tup xs))(hd0:H d=none)(hdt:d≠t)(rows:YT H xs (ts.map some))(nd:(ts.map nameOf).Nodup)(sm:Zi t H H2)(d2:H2 d=some (.dK []))(t2:H2 t=some (.ins C dx F2))(p0:Ps 0 σ)(body:∀i x y kvs H' σ' D',xs[i]?=some x->ts[i]?=some y->Ps i σ'->Zi t H H'->H' t=some (.ins C dx F2)->H' d=some (.dK kvs)->kvs.length<=i->valV kvs (.inr (nameOf y))=none->Row H' x (some y) ->(∀H4 σ4,Zi t H H4->H4 t=some (.ins C dx F2)->H4 d=some (.dK kvs)->Ps (i+1) σ4->D'.nx σ4 (upd H4 d (.dK (putK kvs (.inr (nameOf y)) (if j=1 then at_ y 1 else x)))))->tb D' ((σ'.set a (some (.int i))).set b (some x)) H')(k:∀H' σ' kvs,Zi t H H'->H' d=some (.dK kvs)->GD j ts xs ts.length kvs->H' t=some (.ins C dx F2)->D.nx σ' H'):tFor (iEnT (Xy (tVar 1) tNil)) (gTup K 2 (Wj (Zq a) (Wj (Zq b) gNil))) tb D σ H2:=by
 have htl:l≠t:=ne_of hl ht (by intro z;cases z);have hln:xs.length=ts.length:=by rw[rows.1,lm]
 refine⟨_,s1,l,xs,rfl,sm _ _ hl htl,Z8 (J:=Iten l) xs.length (λi σ' H'=>Ps i σ'/\Zi t H H'/\H' t=some (.ins C dx F2)/\∃kvs,H' d=some (.dK kvs)/\GD j ts xs i kvs) ⟨p0,sm,t2,[],d2,.nil⟩ (λi σ' H' hi p=>⟨xs,p.2.1 _ _ hl htl,hi⟩) (λσ' H' p=>⟨xs,p.2.1 _ _ hl htl,rfl⟩) (λi σ' H' x H'' hi p yl=>?_) (λσ' H' p=>?_)⟩
 ·obtain⟨ps,sm',tt,kvs,dd,g⟩:=p;obtain⟨Tt,xs',y,hT,e1,hy,rfl,rfl⟩:=yl;rw[sm' _ _ hl htl]at e1;cases e1;have hi':i<ts.length:=by omega
  have ey:ts[i]?=some ts[i]:=gE hi';have hrow:=rows.2 i y (some ts[i]) hy (by rw[aW,ey];rfl);generalize ts[i]=r at ey hrow;have S3:Same H' (upd H' Tt (.tup [.int i,y])):=sameNew (Same.refl H') hT;have sm3:=sm'.trans (Zi.of S3);refine⟨Tt,_,rfl,SqT.of Zd,rfl,_,_,rfl,_,_,rfl,rfl,?_⟩;refine body i y r kvs _ σ' _ hy ey ps sm3 (S3 _ _ tt) (S3 _ _ dd) g.len (g.fresh nd ey) (hrow.sameB ht sm3) λH4 σ4 s4 t4 d4 p4=>⟨p4,λc o h hc=>?_,?_,_,Zd,g.step nd ey hy⟩
  ·rw[Zc (ne_of_none h hd0)];exact s4 c o h hc
  ·rw[Zc (bR hdt)];exact t4
 ·obtain⟨_,sm',tt,kvs,dd,g⟩:=p;exact k H' σ' kvs sm' dd (hln▸g) tt
theorem Ur{j:Nat}(hj:isJ j){n:Int}{t1:List (List V)}{x:V}{y:List V}{kvs:Kv}{Q:VK}{E:XK}(hr:Row H x (some y))(r:RowOk j n t1 y)(hd:H d=some (.dK kvs))(hv:valV kvs (.inr (nameOf y))=none)(k:∀H',Same H H'->Q .non H'):XI [.str (Yj j),x,.ref d] H Q E:=by obtain⟨m1,_,eg,_⟩:=GG hj;refine⟨_,_,x,some y,d,kvs,rfl,m1,hr,hd,λH' s=>?_⟩;rw[eg,KN r hv];exact k H' s
end
def XJ:Sp:=λvs H Q _=>∃p a,vs=[p,a,.non]/\Q .non H
def Mh:Sp:=λvs H Q _=>∃z n p xs,vs=[.str z,.ref p]/\(z,n)∈QJ/\(H p=some (.lst xs)\/H p=some (.tup xs))/\xs.length<=n/\∀H1 l,Same H H1->H1 l=some (.tup xs)->Q (.ref l) H1
section
variable {P:Program}{w:World}{K:ae}{mg:Str->Option Value}{base:Heap}{C:Addr}
theorem Gz:FnScope ["part","at","why"] ["part","at","why"] (Zf T.f_refuse_row):=scO
theorem NX(D:Df K mg "refuse_row" T.f_refuse_row ["part","at","why"]):Can P w K mg base 1 "refuse_row" ["part","at","why"] XJ:=by refine D.cn Gz λf cdv A outer s H vs Q E hr h=>?_;obtain⟨p,a,rfl,k⟩:=h;refine⟨_,(Ze (ZD (Zr Vp (pv 2) ZZ (Zw _)) (Ze YF) Zo)),?_⟩;refine⟨_,rfl,rfl,_,rfl,?_⟩;exact iteF k
theorem Pg:FnScope ["part","rows"] ["part","rows"] (Zf T.f_rows_of):=scO
theorem RU(B:∀x∈Blts,mg x=none)(M:Mosts K w mg)(D:Df K mg "rows_of" T.f_rows_of ["part","rows"]):Can P w K mg base 1 "rows_of" ["part","rows"] Mh:=by
 obtain⟨aM,hM,k1,k2,k3,k4⟩:=M.at_;refine D.cn Pg λf cdv A outer s H vs Q E hr h=>?_;obtain⟨z,n,p,xs,rfl,hz,hp,hl,k⟩:=h;have hK:Xw K w aM z (.int n):=by simp only[QJ,ar,gj,aP,or_false]at hz;rcases hz with⟨rfl,rfl⟩|⟨rfl,rfl⟩|⟨rfl,rfl⟩|⟨rfl,rfl⟩<;>assumption
 refine⟨_,Za (ZD (ZH (ZA (Zy G8 rfl (bm B) d8 (Zg (pv 1) (Zg (ZE (Zg (Vm (v:=V.ty "list") rfl (bm B) UC rfl) (Zg (Vm (v:=V.ty "tuple") rfl (bm B) YR rfl) Zj))) Zj))))) (Ze YF) Zo) (Za (ZD (Zr Ue (Zy Ja rfl (bm B) aT (Zg (pv 1) Zj)) (QH (Z7 (v:=V.ref aM) rfl hM rfl) (pv 0) (λ_ _=>rfl)) (Zw _)) (Ze YF) Zo) (Ze (Zk (Xn GF rfl (bm B) YR (Zg (pv 1) Zj))))),?_⟩;obtain⟨T',th,hT⟩:∃T',Th H (.ref p) T'/\(T'="list"\/T'="tuple"):=by
  rcases hp with hp|hp
  ·exact⟨_,.lst hp,.inl rfl⟩
  ·exact⟨_,.tup hp,.inr rfl⟩
 refine⟨_,rfl,zl,λl hl=>?_⟩;have sm:Same H (upd H l (.tup [V.ty "list",V.ty "tuple"])):=sameNew (Same.refl H) hl;refine⟨.ref p,l,["list","tuple"],T',_,rfl,th.same sm,Zd ..,(th.same sm).kitLT,_,rfl,?_⟩;rw[decide_eq_true hT];refine iteF ?_;generalize upd H l (.tup [V.ty "list",V.ty "tuple"])=H1 at sm ⊢;have hs:SqL K H1 p xs\/SqT K H1 p xs:=by
  rcases hp with hp|hp
  ·exact .inl (SqL.of (sm _ _ hp))
  ·exact .inr (SqT.of (sm _ _ hp))
 refine⟨_,rfl,p,xs,rfl,hs,_,rfl,aM,z,.int n,rfl,rfl,hK,_,_,rfl,rfl,_,rfl,?_⟩;rw[decide_eq_false (by omega)];refine iteF ?_;refine⟨_,rfl,p,xs,rfl,?_⟩;rcases hp with hp|hp
 ·exact .inl ⟨SqL.of (sm _ _ hp),λl2 hl2=>k _ l2 (sameNew sm hl2) (Zd ..)⟩
 ·exact .inr ⟨SqT.of (sm _ _ hp),k _ p sm (sm _ _ hp)⟩
section
variable {H:Hp}{t dx dP:Addr}{F:List (Str×V)}{n:Int}{t1:List (List V)}{kP:Kv}{x:V}{y:List V}{Q:VK}{E:XK}
theorem Ms{j:Nat}(r:RowOk j n t1 y):atI y 0=some (.str (nameOf y)):=by
 have h:=r.name;have hl:0<y.length:=by rw[r.len];unfold szJ;split<;>decide
 have e:y[0]?=some (.str (nameOf y)):=by rw[gE hl];rw[aQ,gE hl]at h;exact congrArg some h
 exact Zl (j:=0) e
theorem Q5(hr:Row H x (some y))(r:RowOk 1 n t1 y)(k:Q .non H):UK [x] H Q E:=by obtain⟨q,rfl,hq,th⟩:=hr;have hy:=r.why [] (λh=>absurd rfl h) 0 (λh=>by cases h);obtain⟨a,b,rfl⟩:=len2 r.len;obtain⟨T,hT⟩:=th b (by simp);have hy':Yq b=.non:=hy;exact⟨q,a,b,T,rfl,hq,hT,by rw[hy'];exact k⟩
variable (ht:H t=some (.ins C dx F))(only:∀g,g∉fields->F.lookup g=none)(hd:F.lookup ("room_by_place":Str)=some (.ref dP))(hn:F.lookup ("turns":Str)=some (.int n))(hk:H dP=some (.dK kP))(has:VL kP t1)(hr:Row H x (some y))
include ht only hd hk has hr in
theorem WK(r:RowOk 3 n t1 y)(k:Q .non H):SE C [.ref t,x] H Q E:=by obtain⟨q,rfl,hq,th⟩:=hr;have hy:=r.why kP (λ_=>has) 0 (λh=>by cases h);obtain⟨a,b,c,d,e,rfl⟩:=len5 r.len;exact⟨t,q,a,b,c,d,e,F,dP,kP,rfl,⟨⟨dx,ht⟩,only⟩,hd,hk,hq,th,by rw[show wayV kP b c d e=.non from hy];exact k⟩
include ht only hd hn hk has hr
theorem R8(r:RowOk 2 n t1 y)(k:Q .non H):Pc C [.ref t,x] H Q E:=by obtain⟨q,rfl,hq,th⟩:=hr;have hy:=r.why kP (λ_=>has) 0 (λh=>by cases h);obtain⟨a,b,c,d,e,f,rfl⟩:=len6 r.len;exact⟨t,q,a,b,c,d,e,f,F,dP,kP,n,rfl,⟨⟨dx,ht⟩,only⟩,hd,hn,hk,hq,th,by rw[show Vc kP n b c d e f=.non from hy];exact k⟩
theorem Q6{pp:Int}(r:RowOk 4 n t1 y)(hp:pp+ZF y<=300)(k:Q .non H):Mj C [.ref t,x,.int pp] H Q E:=by obtain⟨q,rfl,hq,th⟩:=hr;have hy:=r.why kP (λ_=>has) pp (λ_=>hp);obtain⟨a,b,c,d,rfl⟩:=len4 r.len;exact⟨t,q,a,b,c,d,F,dP,kP,n,pp,rfl,⟨⟨dx,ht⟩,only⟩,hd,hn,hk,hq,th,by rw[show Xg kP n pp b c d=.non from hy];exact k⟩
end
theorem XF{fs:List (Str×V)}{f g x:Str}{a b:V}(h1:x≠f)(h2:x≠g):(putF g b (putF f a fs)).lookup x=fs.lookup x:=by rw[Yi,if_neg h2,Yi,if_neg h1]
theorem Uy{fs:List (Str×V)}{f g:Str}{a b:V}(hf:f∈fields)(hg:g∈fields)(h:∀x,x∉fields->fs.lookup x=none):∀x,x∉fields->(putF g b (putF f a fs)).lookup x=none:=λx hx=>by rw[XF (λz=>hx (by rw[z];exact hf)) (λz=>hx (by rw[z];exact hg))];exact h x hx
theorem U5{fs:List (Str×V)}{f g:Str}{a b:V}:(putF g b (putF f a fs)).lookup g=some b:=by rw[Yi,if_pos rfl]
theorem UU:FnScope ["self","places","at","row"] ["self","places"] (Zf T.m_Table_take_places):=scO
theorem P6(Z:TCl K C)(he:mg "enumerate"=none)(D:DfM K C "take_places" "Table.take_places" T.m_Table_take_places ["self","places"])(CB:Can P w K mg base 3 "wrong_beginning" ["part","row","names_ahead"] XI)(CW:Can P w K mg base 3 "wrong_place" ["row"] UK)(CR:Can P w K mg base 1 "refuse_row" ["part","at","why"] XJ):CanM P w K mg base CX0 6 C "take_places" ["self","places"] (Xi C 1):=by
 refine D.cn UU λf cdv A outer s H vs Q E hr h=>?_;obtain⟨t,l,dx,xs,ts,fs,n,t1,rfl,ht,only,hfs,pg,hl,rows,⟨hm,ok⟩,k⟩:=h;refine⟨_,Za (YL (pv 0) (pv 1) rfl) (Za (YL (pv 0) Vj rfl) (Ze (ZW aD rfl (Vg rfl he (Zg (pv 1) Zj) UD) (YB rfl (Zn (nmT 2 UU.nd) (Zn (nmT 3 UU.nd) Yc))) (Za (ZX (cn CR hr (Zg ZC (Zg (pv 2) (Zg (Mu (cn CB hr (Zg ZC (Zg (pv 3) (Zg (Z4 (pv 0) rfl) Zj)))) (Xd (cn CW hr (Zg (pv 3) Zj)))) Zj))))) (Ze (Yx (ZT hr) (Z4 (pv 0) rfl) (Yd Z5 (pv 3) Zb (λ_ _=>rfl)) (Yd Z5 (pv 3) Zb (λ_ _=>rfl)) rfl)))))),?_⟩;obtain⟨_,_,_,nf,ng,_⟩:=GG (j:=1) (.inl rfl);have nR:=Z.na _ ng;have hx14:xs.length<=14:=by rw[rows.1,lm];exact hm
 refine X1 Z nf ng rfl rfl ht hfs λH2 d s2 hd0 hdt d2 t2=>?_;have lk:(putF (dJ 1) (.ref d) (putF (Yj 1) (.ref l) fs)).lookup ("room_by_place":Str)=some (.ref d):=U5;refine Jw (j:=1) (λi σ=>∃o2 o3,σ=[some (.ref t),some (.ref l),o2,o3]) rfl ht hl hd0 hdt rows ok.nd s2 d2 t2 ⟨_,_,rfl⟩ (λi x y kvs H3 σ' D' hx hy ps s3 t3 d3 hkl hv hrow kx=>?_) (λH' σ' kvs s' d' g t'=>k H' d kvs s' hd0 hdt d' g t');obtain⟨o2,o3,rfl⟩:=ps;have ro:=ok.row y (a_ hy);have hi:i<xs.length:=(aj.mp hx).1;refine⟨_,rfl,_,rfl,_,rfl,t,C,dx,_,_,rfl,t3,Z.cl,nR,lk,?_⟩;dsimp only[tNil];refine Ur (j:=1) (.inl rfl) hrow ro d3 hv λH4 s34=>⟨false,rfl,iteF ?_⟩;have hrow4:=hrow.same s34;refine⟨_,rfl,?_⟩;dsimp only[tNil];refine Q5 hrow4 ro ⟨_,_,rfl,?_⟩;obtain⟨q,rfl,hq,th⟩:=hrow4;have a0:=Ms ro;have hy1:atI y 1=some (at_ y 1):=by obtain⟨a,b,rfl⟩:=len2 ro.len;exact Zl (j:=1) rfl
 refine iaT hq hy1 ⟨_,rfl,t,C,dx,_,_,rfl,s34 _ _ t3,Z.cl,nR,lk,iaT hq a0 ⟨d,_,rfl,DPut.k (k:=b9 (nameOf y)) (s34 _ _ d3) (XM (by omega)),?_⟩⟩;exact kx H4 _ (s3.trans (Zi.of s34)) (s34 _ _ t3) (s34 _ _ d3) ⟨_,_,rfl⟩
theorem UT:FnScope ["self","rides","at","row"] ["self","rides"] (Zf T.m_Table_take_rides):=scO
theorem P5(Z:TCl K C)(he:mg "enumerate"=none)(D:DfM K C "take_rides" "Table.take_rides" T.m_Table_take_rides ["self","rides"])(CB:Can P w K mg base 3 "wrong_beginning" ["part","row","names_ahead"] XI)(CW:Can P w K mg base 5 "wrong_ride" ["table","row"] (Pc C))(CR:Can P w K mg base 1 "refuse_row" ["part","at","why"] XJ):CanM P w K mg base CX0 6 C "take_rides" ["self","rides"] (Xi C 2):=by
 refine D.cn UT λf cdv A outer s H vs Q E hr h=>?_;obtain⟨t,l,dx,xs,ts,fs,n,t1,rfl,ht,only,hfs,pg,hl,rows,⟨hm,ok⟩,k⟩:=h;refine⟨_,Za (YL (pv 0) (pv 1) rfl) (Za (YL (pv 0) Vj rfl) (Ze (ZW aD rfl (Vg rfl he (Zg (pv 1) Zj) UD) (YB rfl (Zn (nmT 2 UT.nd) (Zn (nmT 3 UT.nd) Yc))) (Za (ZX (cn CR hr (Zg ZC (Zg (pv 2) (Zg (Mu (cn CB hr (Zg ZC (Zg (pv 3) (Zg (Z4 (pv 0) rfl) Zj)))) (Xd (cn CW hr (Zg (pv 0) (Zg (pv 3) Zj))))) Zj))))) (Ze (Yx (ZT hr) (Z4 (pv 0) rfl) (Yd Z5 (pv 3) Zb (λ_ _=>rfl)) (pv 3) rfl)))))),?_⟩;obtain⟨_,_,_,nf,ng,nt,nu⟩:=GG (j:=2) (.inr (.inl rfl));have nR:=Z.na _ ng;have hx14:xs.length<=80:=by rw[rows.1,lm];exact Nat.le_trans hm (by decide)
 obtain⟨hn,dP,kP,hdP,hkP,has⟩:=pg (by decide);have nPt:dP≠t:=ne_of hkP ht (by intro z;cases z);refine X1 Z nf ng rfl rfl ht hfs λH2 d s2 hd0 hdt d2 t2=>?_;have lk:(putF (dJ 2) (.ref d) (putF (Yj 2) (.ref l) fs)).lookup ("ride_by_name":Str)=some (.ref d):=U5;have lkP:=(XF (f:=Yj 2) (g:=dJ 2) (a:=.ref l) (b:=.ref d) (x:="room_by_place") (by decide +kernel) (by decide +kernel)).trans hdP;have lkT:=(XF (f:=Yj 2) (g:=dJ 2) (a:=.ref l) (b:=.ref d) nt nu).trans hn;have lkO:=Uy (a:=.ref l) (b:=.ref d) nf ng only;refine Jw (j:=2) (λi σ=>∃o2 o3,σ=[some (.ref t),some (.ref l),o2,o3]) rfl ht hl hd0 hdt rows ok.nd s2 d2 t2 ⟨_,_,rfl⟩ (λi x y kvs H3 σ' D' hx hy ps s3 t3 d3 hkl hv hrow kx=>?_) (λH' σ' kvs s' d' g t'=>k H' d kvs s' hd0 hdt d' g t');obtain⟨o2,o3,rfl⟩:=ps;have ro:=ok.row y (a_ hy);have hi:i<xs.length:=(aj.mp hx).1;refine⟨_,rfl,_,rfl,_,rfl,t,C,dx,_,_,rfl,t3,Z.cl,nR,lk,?_⟩;dsimp only[tNil];refine Ur (j:=2) (.inr (.inl rfl)) hrow ro d3 hv λH4 s34=>⟨false,rfl,iteF ?_⟩;have hrow4:=hrow.same s34;have hkP4:=s34 _ _ (s3 _ _ hkP nPt);refine⟨_,rfl,_,rfl,?_⟩;dsimp only[tNil];refine R8 (s34 _ _ t3) lkO lkP lkT hkP4 has hrow4 ro ⟨_,_,rfl,?_⟩;obtain⟨q,rfl,hq,th⟩:=hrow4;refine⟨_,rfl,_,rfl,t,C,dx,_,_,rfl,s34 _ _ t3,Z.cl,nR,lk,iaT hq (Ms ro) ⟨d,_,rfl,DPut.k (k:=b9 (nameOf y)) (s34 _ _ d3) (XM (by omega)),?_⟩⟩;exact kx H4 _ (s3.trans (Zi.of s34)) (s34 _ _ t3) (s34 _ _ d3) ⟨_,_,rfl⟩
theorem US:FnScope ["self","ways","at","row"] ["self","ways"] (Zf T.m_Table_take_ways):=scO
theorem P4(Z:TCl K C)(he:mg "enumerate"=none)(D:DfM K C "take_ways" "Table.take_ways" T.m_Table_take_ways ["self","ways"])(CB:Can P w K mg base 3 "wrong_beginning" ["part","row","names_ahead"] XI)(CW:Can P w K mg base 5 "wrong_way" ["table","row"] (SE C))(CR:Can P w K mg base 1 "refuse_row" ["part","at","why"] XJ):CanM P w K mg base CX0 6 C "take_ways" ["self","ways"] (Xi C 3):=by
 refine D.cn US λf cdv A outer s H vs Q E hr h=>?_;obtain⟨t,l,dx,xs,ts,fs,n,t1,rfl,ht,only,hfs,pg,hl,rows,⟨hm,ok⟩,k⟩:=h;refine⟨_,Za (YL (pv 0) (pv 1) rfl) (Za (YL (pv 0) Vj rfl) (Ze (ZW aD rfl (Vg rfl he (Zg (pv 1) Zj) UD) (YB rfl (Zn (nmT 2 US.nd) (Zn (nmT 3 US.nd) Yc))) (Za (ZX (cn CR hr (Zg ZC (Zg (pv 2) (Zg (Mu (cn CB hr (Zg ZC (Zg (pv 3) (Zg (Z4 (pv 0) rfl) Zj)))) (Xd (cn CW hr (Zg (pv 0) (Zg (pv 3) Zj))))) Zj))))) (Ze (Yx (ZT hr) (Z4 (pv 0) rfl) (Yd Z5 (pv 3) Zb (λ_ _=>rfl)) (pv 3) rfl)))))),?_⟩;obtain⟨_,_,_,nf,ng,nt,nu⟩:=GG (j:=3) (.inr (.inr (.inl rfl)));have nR:=Z.na _ ng;have hx14:xs.length<=80:=by rw[rows.1,lm];exact Nat.le_trans hm (by decide)
 obtain⟨hn,dP,kP,hdP,hkP,has⟩:=pg (by decide);have nPt:dP≠t:=ne_of hkP ht (by intro z;cases z);refine X1 Z nf ng rfl rfl ht hfs λH2 d s2 hd0 hdt d2 t2=>?_;have lk:(putF (dJ 3) (.ref d) (putF (Yj 3) (.ref l) fs)).lookup ("way_by_name":Str)=some (.ref d):=U5;have lkP:=(XF (f:=Yj 3) (g:=dJ 3) (a:=.ref l) (b:=.ref d) (x:="room_by_place") (by decide +kernel) (by decide +kernel)).trans hdP;have lkT:=(XF (f:=Yj 3) (g:=dJ 3) (a:=.ref l) (b:=.ref d) nt nu).trans hn;have lkO:=Uy (a:=.ref l) (b:=.ref d) nf ng only;refine Jw (j:=3) (λi σ=>∃o2 o3,σ=[some (.ref t),some (.ref l),o2,o3]) rfl ht hl hd0 hdt rows ok.nd s2 d2 t2 ⟨_,_,rfl⟩ (λi x y kvs H3 σ' D' hx hy ps s3 t3 d3 hkl hv hrow kx=>?_) (λH' σ' kvs s' d' g t'=>k H' d kvs s' hd0 hdt d' g t');obtain⟨o2,o3,rfl⟩:=ps;have ro:=ok.row y (a_ hy);have hi:i<xs.length:=(aj.mp hx).1;refine⟨_,rfl,_,rfl,_,rfl,t,C,dx,_,_,rfl,t3,Z.cl,nR,lk,?_⟩;dsimp only[tNil];refine Ur (j:=3) (.inr (.inr (.inl rfl))) hrow ro d3 hv λH4 s34=>⟨false,rfl,iteF ?_⟩;have hrow4:=hrow.same s34;have hkP4:=s34 _ _ (s3 _ _ hkP nPt);refine⟨_,rfl,_,rfl,?_⟩;dsimp only[tNil];refine WK (s34 _ _ t3) lkO lkP hkP4 has hrow4 ro ⟨_,_,rfl,?_⟩;obtain⟨q,rfl,hq,th⟩:=hrow4;refine⟨_,rfl,_,rfl,t,C,dx,_,_,rfl,s34 _ _ t3,Z.cl,nR,lk,iaT hq (Ms ro) ⟨d,_,rfl,DPut.k (k:=b9 (nameOf y)) (s34 _ _ d3) (XM (by omega)),?_⟩⟩;exact kx H4 _ (s3.trans (Zi.of s34)) (s34 _ _ t3) (s34 _ _ d3) ⟨_,_,rfl⟩
theorem Ru{ts:List (List V)}(h:∀y∈ts,0<=ZF y)(hs:(ts.map ZF).sum<=300){i:Nat}{y:List V}(e:ts[i]?=some y):((ts.take (i+1)).map ZF).sum=((ts.take i).map ZF).sum+ZF y/\((ts.take i).map ZF).sum+ZF y<=300:=by
 have h1:((ts.take (i+1)).map ZF).sum=((ts.take i).map ZF).sum+ZF y:=by rw[aV,e,aE,List.sum_append];simp
 refine⟨h1,?_⟩;have h2:(ts.map ZF).sum=((ts.take (i+1)).map ZF).sum+((ts.drop (i+1)).map ZF).sum:=by rw[<-List.sum_append,<-aE,eI]
 have h3:=N9 (l:=(ts.drop (i+1)).map ZF) λx hx=>by obtain⟨q,hq,rfl⟩:=ai.mp hx;exact h q (gn hq)
 omega
theorem XO:FnScope ["self","groups","people","at","row","why"] ["self","groups"] (Zf T.m_Table_take_groups):=scO
theorem P7(Z:TCl K C)(he:mg "enumerate"=none)(D:DfM K C "take_groups" "Table.take_groups" T.m_Table_take_groups ["self","groups"])(CB:Can P w K mg base 3 "wrong_beginning" ["part","row","names_ahead"] XI)(CW:Can P w K mg base 3 "wrong_group" ["table","row","people_ahead"] (Mj C))(CR:Can P w K mg base 1 "refuse_row" ["part","at","why"] XJ):CanM P w K mg base CX0 6 C "take_groups" ["self","groups"] (Xi C 4):=by
 refine D.cn XO λf cdv A outer s H vs Q E hr h=>?_;obtain⟨t,l,dx,xs,ts,fs,n,t1,rfl,ht,only,hfs,pg,hl,rows,⟨hm,ok⟩,k⟩:=h;refine⟨_,Za (YL (pv 0) (pv 1) rfl) (Za (YL (pv 0) Vj rfl) (Za (YA (i:=2) XO.nd rfl (aN rfl) Zb) (Ze (ZW aD rfl (Vg rfl he (Zg (pv 1) Zj) UD) (YB rfl (Zn (nmT 3 XO.nd) (Zn (nmT 4 XO.nd) Yc))) (Za (YA (i:=5) XO.nd rfl (aN rfl) (Mu (cn CB hr (Zg ZC (Zg (pv 4) (Zg (Z4 (pv 0) rfl) Zj)))) (Xd (cn CW hr (Zg (pv 0) (Zg (pv 4) (Zg (pv 2) Zj))))))) (Za (ZX (cn CR hr (Zg ZC (Zg (pv 3) (Zg (pv 5) Zj))))) (Za (Yx (ZT hr) (Z4 (pv 0) rfl) (Yd Z5 (pv 4) Zb (λ_ _=>rfl)) (pv 4) rfl) (Ze (YA (i:=2) XO.nd rfl (aN rfl) (Zt ZQ (pv 2) (Yd Z5 (pv 4) Zb (λ_ _=>rfl)))))))))))),?_⟩;obtain⟨_,_,_,nf,ng,nt,nu⟩:=GG (j:=4) (.inr (.inr (.inr rfl)));have nR:=Z.na _ ng;have hx14:xs.length<=300:=by rw[rows.1,lm];exact Nat.le_trans hm (by decide)
 obtain⟨hn,dP,kP,hdP,hkP,has⟩:=pg (by decide);have nPt:dP≠t:=ne_of hkP ht (by intro z;cases z);refine X1 Z nf ng rfl rfl ht hfs λH2 d s2 hd0 hdt d2 t2=>?_;have lk:(putF (dJ 4) (.ref d) (putF (Yj 4) (.ref l) fs)).lookup ("group_by_name":Str)=some (.ref d):=U5;have lkP:=(XF (f:=Yj 4) (g:=dJ 4) (a:=.ref l) (b:=.ref d) (x:="room_by_place") (by decide +kernel) (by decide +kernel)).trans hdP;have lkT:=(XF (f:=Yj 4) (g:=dJ 4) (a:=.ref l) (b:=.ref d) nt nu).trans hn;have lkO:=Uy (a:=.ref l) (b:=.ref d) nf ng only;refine Jw (j:=4) (λi σ=>∃o3 o4 o5,σ=[some (.ref t),some (.ref l),some (.int ((ts.take i).map ZF).sum),o3,o4,o5]) rfl ht hl hd0 hdt rows ok.nd s2 d2 t2 ⟨_,_,_,rfl⟩ (λi x y kvs H3 σ' D' hx hy ps s3 t3 d3 hkl hv hrow kx=>?_) (λH' σ' kvs s' d' g t'=>k H' d kvs s' hd0 hdt d' g t');obtain⟨o3,o4,o5,rfl⟩:=ps;have ro:=ok.row y (a_ hy);have hi:i<xs.length:=(aj.mp hx).1;obtain⟨e1,e2⟩:=Ru (λq hq=>(ok.row q hq).ma rfl) (ok.sum rfl) hy;rw[e1]at kx;generalize ((ts.take i).map ZF).sum=pp at e2 kx ⊢;refine⟨_,rfl,_,rfl,t,C,dx,_,_,rfl,t3,Z.cl,nR,lk,?_⟩;dsimp only[tNil];refine Ur (j:=4) (.inr (.inr (.inr rfl))) hrow ro d3 hv λH4 s34=>⟨false,rfl,iteF ?_⟩;have hrow4:=hrow.same s34;have hkP4:=s34 _ _ (s3 _ _ hkP nPt);refine⟨_,rfl,_,rfl,_,rfl,?_⟩;dsimp only[tNil];refine Q6 (s34 _ _ t3) lkO lkP lkT hkP4 has hrow4 ro e2 ?_;refine⟨_,rfl,_,rfl,_,_,rfl,?_⟩;obtain⟨q,rfl,hq,th⟩:=hrow4;have hm3:atI y 3=some (.int (ZF y)):=by have h:=(ro.why kP (λ_=>has) pp λ_=>e2);obtain⟨a,b,c,m,rfl⟩:=len4 ro.len;obtain⟨i3,e3,_⟩:=(Uj (show Xg kP n pp b c m=.non from h)).2.2;subst e3;exact Zl (j:=3) rfl
 refine⟨_,rfl,_,rfl,t,C,dx,_,_,rfl,s34 _ _ t3,Z.cl,nR,lk,iaT hq (Ms ro) ⟨d,_,rfl,DPut.k (k:=b9 (nameOf y)) (s34 _ _ d3) (XM (by omega)),?_⟩⟩;have hqd:q≠d:=ne_of hq (s34 _ _ d3) (by intro z;cases z);refine⟨_,rfl,iaT (by rw[Zc hqd];exact hq) hm3 ⟨_,_,rfl,rfl,?_⟩⟩;exact kx H4 _ (s3.trans (Zi.of s34)) (s34 _ _ t3) (s34 _ _ d3) ⟨_,_,_,rfl⟩
end
structure Got(H:Hp)(C t dx:Addr)(T:Tb)(xs:Nat->List V)(m:Nat)(fs:List (Str×V))(Hc:Hp):Prop where
 sm:Zi t H Hc
 at_:Hc t=some (.ins C dx fs)
 only:∀g,g∉fields->fs.lookup g=none
 len:fs.length<=1+2*m
 turns:fs.lookup ("turns":Str)=some (.int T.n)
 pt:∀j,isJ j->j<=m->∃l d kvs,fs.lookup (Yj j)=some (.ref l)/\fs.lookup (dJ j)=some (.ref d)/\Hc l=some (.tup (xs j))/\Hc d=some (.dK kvs)/\d≠t/\GD j (T.part j) (xs j) (T.part j).length kvs
def UM(C:Addr):Sp:=λvs H Q _=>∃(t dx:Addr)(T:Tb)(p:Nat->Addr)(xs:Nat->List V),vs=[.ref t,.int T.n,.ref (p 1),.ref (p 2),.ref (p 3),.ref (p 4)]/\H t=some (.ins C dx [])/\OkTb T /\(∀j,isJ j->(H (p j)=some (.lst (xs j))\/H (p j)=some (.tup (xs j)))/\YT H (xs j) ((T.part j).map some))/\∀H',Zi t H H'->Tel H' C t T->Q .non H'
section
variable {P:Program}{w:World}{K:ae}{mg:Str->Option Value}{base:Heap}{C:Addr}{H Hc:Hp}{t dx:Addr}{T:Tb}{p:Nat->Addr}{xs:Nat->List V}{fs:List (Str×V)}
theorem GD.pl{kvs:Kv}{ts:List (List V)}{xs:List V}(hl:xs.length=ts.length)(g:GD 1 ts xs ts.length kvs):PlDict kvs ts:=by refine⟨λy hy=>?_,λz hz=>g.no z (by rw[aH];exact hz)⟩;obtain⟨m,hm⟩:=aZ.mp hy;have hlt:=(aj.mp hm).1;exact g.has m y (xs[m]'(by omega)) hlt hm (gE (by omega))
theorem GD.rw{j:Nat}{kvs:Kv}{ts:List (List V)}{xs:List V}(hj:j≠1)(g:GD j ts xs ts.length kvs):RwDict kvs ts xs:=⟨λm y x h1 h2=>by have:=g.has m y x (aj.mp h1).1 h1 h2;rwa [if_neg hj]at this,λz hz=>g.no z (by rw[aH];exact hz)⟩
theorem Vt{j:Nat}(hj:isJ j)(o:OkTb T)(ht:H t=some (.ins C dx []))(hp:∀j,isJ j->(H (p j)=some (.lst (xs j))\/H (p j)=some (.tup (xs j)))/\YT H (xs j) ((T.part j).map some))(g:Got H C t dx T xs (j-1) fs Hc){Kq:VK}{E E':XK}(k:∀H' fs',Got H C t dx T xs j fs' H'->Kq .non H'):Mh [.str (Yj j),.ref (p j)] Hc (λv H2=>Xi C j [.ref t,v] H2 Kq E) E':=by
 obtain⟨_,m2,_,nf,ng,nt,nu⟩:=GG hj;obtain⟨hpj,rows⟩:=hp j hj;have hpt:p j≠t:=by rcases hpj with e|e<;>exact ne_of e ht (by intro z;cases z)
 have hx:(xs j).length<=NA j:=by rw[rows.1,lm];exact(o.part j hj).1
 refine⟨_,_,p j,xs j,rfl,m2,?_,hx,λH1 l s1 hl=>?_⟩
 ·rcases hpj with e|e
  ·exact .inl (g.sm _ _ e hpt)
  ·exact .inr (g.sm _ _ e hpt)
 have sm1:=g.sm.trans (Zi.of s1);have h4:j<=4:=by rcases hj with rfl|rfl|rfl|rfl<;>decide
 have h1:1<=j:=by rcases hj with rfl|rfl|rfl|rfl<;>decide
 have at1:=s1 _ _ g.at_;have htl:l≠t:=ne_of hl at1 (by intro z;cases z);refine⟨t,l,dx,xs j,T.part j,fs,T.n,T.t1,rfl,at1,g.only,by have:=g.len;omega,λnj=>⟨g.turns,?_⟩,hl,rows.sameB ht sm1,o.part j hj,λH' d kvs s' hd0 hdt hd gd tt=>k H' _ ⟨sm1.trans s',tt,Uy nf ng g.only,?_,(XF nt nu).trans g.turns,λi hi him=>?_⟩⟩
 ·obtain⟨l1,d1,k1,_,e2,_,e4,_,g1⟩:=g.pt 1 (.inl rfl) (by omega);exact⟨d1,k1,e2,s1 _ _ e4,(g1.pl (by rw[(hp 1 (.inl rfl)).2.1,lm])).has⟩
 ·have a1:=YJ (Yj j) (V.ref l) fs;have a2:=YJ (dJ j) (V.ref d) (putF (Yj j) (V.ref l) fs);have:=g.len;omega
 ·by_cases e:i=j
  ·subst e;exact⟨l,d,kvs,by rw[Yi,if_neg (R9 hj hj).2,Yi,if_pos rfl],U5,s' _ _ hl htl,hd,hdt,gd⟩
  ·obtain⟨l1,d1,k1,e1,e2,e3,e4,n1,g1⟩:=g.pt i hi (by omega);have w1:=R9 hi hj;have w2:=R9 hj hi;refine⟨l1,d1,k1,(XF (w1.1 e).1 w1.2).trans e1,(XF (bR w2.2) (w1.1 e).2).trans e2,s' _ _ (s1 _ _ e3) ?_,s' _ _ (s1 _ _ e4) n1,n1,g1⟩;exact ne_of e3 g.at_ (by intro z;cases z)
theorem Got.tel(hp:∀j,isJ j->YT H (xs j) ((T.part j).map some))(ht:H t=some (.ins C dx []))(g:Got H C t dx T xs 4 fs Hc):Tel Hc C t T:=by
 obtain⟨l1,d1,k1,a1,b1,c1,e1,_,g1⟩:=g.pt 1 (.inl rfl) (by decide);obtain⟨l2,d2,k2,a2,b2,c2,e2,_,g2⟩:=g.pt 2 (.inr (.inl rfl)) (by decide);obtain⟨l3,d3,k3,a3,b3,c3,e3,_,g3⟩:=g.pt 3 (.inr (.inr (.inl rfl))) (by decide);obtain⟨l4,d4,k4,a4,b4,c4,e4,_,g4⟩:=g.pt 4 (.inr (.inr (.inr rfl))) (by decide);refine⟨fs,xs 1,xs 2,xs 3,xs 4,(k1,k2,k3,k4),⟨⟨⟨⟨dx,g.at_⟩,g.only⟩,g.turns,⟨l1,d1,_,_,a1,b1,rfl,c1,e1⟩,⟨l2,d2,_,_,a2,b2,rfl,c2,e2⟩,⟨l3,d3,_,_,a3,b3,rfl,c3,e3⟩,⟨l4,d4,_,_,a4,b4,rfl,c4,e4⟩⟩,λr hr ys rs er=>?_⟩,⟨g1.pl (by rw[(hp 1 (.inl rfl)).1,lm];rfl),g2.rw (by decide),g3.rw (by decide),g4.rw (by decide)⟩⟩;rcases hr with rfl|rfl|rfl|rfl
 ·cases er;exact(hp 1 (.inl rfl)).sameB ht g.sm
 ·cases er;exact(hp 2 (.inr (.inl rfl))).sameB ht g.sm
 ·cases er;exact(hp 3 (.inr (.inr (.inl rfl)))).sameB ht g.sm
 ·cases er;exact(hp 4 (.inr (.inr (.inr rfl)))).sameB ht g.sm
end
section
variable {P:Program}{w:World}{K:ae}{mg:Str->Option Value}{base:Heap}{C:Addr}
theorem SQ:FnScope ["self","turns","places","rides","ways","groups"] ["self","turns","places","rides","ways","groups"] (Zf T.m_Table___init__):=scO
theorem TL{f:Addr}{fd:b_}(G:Txt K mg)(Z:TCl K C)(CI:Can P w K mg base 2 "is_within" ["thing","low","high"] K1.YD)(CRo:Can P w K mg base 1 "rows_of" ["part","rows"] Mh)(CP:CanM P w K mg base CX0 6 C "take_places" ["self","places"] (Xi C 1))(CR:CanM P w K mg base CX0 6 C "take_rides" ["self","rides"] (Xi C 2))(CW:CanM P w K mg base CX0 6 C "take_ways" ["self","ways"] (Xi C 3))(CG:CanM P w K mg base CX0 6 C "take_groups" ["self","groups"] (Xi C 4))(F:Fun K "__init__" "Table.__init__" T.m_Table___init__ f fd):FnOk P w K mg base CX0 7 f fd ["self","turns","places","rides","ways","groups"] (UM C):=by
 refine F.ok SQ (λvs H Q E h=>?_) (λcdv A outer s H vs Q E hr h=>?_)
 ·obtain⟨t,dx,T,p,xs,rfl,_⟩:=h;rfl
 ·obtain⟨t,dx,T,p,xs,rfl,ht,o,hp,k⟩:=h;obtain⟨t1,h1⟩:=G.turns;refine⟨_,Za (ZD (ZH (ZA (cn CI hr (Zg (pv 1) (Zg Zb (Zg (Z7 (v:=V.int 50) rfl h1 ⟨t1,rfl⟩) Zj)))))) (Ze YF) Zo) (Za (YL (pv 0) (pv 1) rfl) (Za (ZX (ZR CP Z.cl Z1 hr (pv 0) (Zg (cn CRo hr (Zg ZC (Zg (pv 2) Zj))) Zj))) (Za (ZX (ZR CR Z.cl Z1 hr (pv 0) (Zg (cn CRo hr (Zg ZC (Zg (pv 3) Zj))) Zj))) (Za (ZX (ZR CW Z.cl Z1 hr (pv 0) (Zg (cn CRo hr (Zg ZC (Zg (pv 4) Zj))) Zj))) (Ze (ZX (ZR CG Z.cl Z1 hr (pv 0) (Zg (cn CRo hr (Zg ZC (Zg (pv 5) Zj))) Zj)))))))),?_⟩;have hw:K1.Zu (.int T.n) 1 50=true:=by show(decide (1<=T.n)&&decide (T.n<=50))=true;simp[o.n0,o.n1]
  refine⟨_,rfl,.int T.n,_,1,50,rfl,.int _,_,rfl,?_⟩;rw[hw];refine iteF ?_;refine⟨_,rfl,_,rfl,t,C,dx,_,rfl,ht,Z.cl,Z.na _ (by simp[fields]),by decide,?_⟩;have g0:Got H C t dx T xs 0 (putF "turns" (.int T.n) []) (upd H t (.ins C dx (putF "turns" (.int T.n) []))):=⟨(Zi.refl t H).upd,Zd,λg hg=>by rw[Yi,if_neg (λz=>hg (by rw[z];simp[fields]))];rfl,Nat.le_refl _,by rw[Yi,if_pos rfl],λj hj h0=>by rcases hj with rfl|rfl|rfl|rfl<;>cases h0⟩
  generalize upd H t (.ins C dx (putF "turns" (.int T.n) []))=H0 at g0 ⊢;generalize putF "turns" (.int T.n) []=F0 at g0;refine mthV g0.at_ (g0.only _ (by decide +kernel)) ?_;refine⟨_,rfl,?_⟩;dsimp only[tNil];refine Vt (j:=1) (.inl rfl) o ht hp g0 λH1 F1 g1=>?_;refine mthV g1.at_ (g1.only _ (by decide +kernel)) ?_;refine⟨_,rfl,?_⟩;dsimp only[tNil];refine Vt (j:=2) (.inr (.inl rfl)) o ht hp g1 λH2 F2 g2=>?_;refine mthV g2.at_ (g2.only _ (by decide +kernel)) ?_;refine⟨_,rfl,?_⟩;dsimp only[tNil];refine Vt (j:=3) (.inr (.inr (.inl rfl))) o ht hp g2 λH3 F3 g3=>?_;refine mthV g3.at_ (g3.only _ (by decide +kernel)) ?_;refine⟨_,rfl,?_⟩;dsimp only[tNil];refine Vt (j:=4) (.inr (.inr (.inr rfl))) o ht hp g3 λH4 F4 g4=>?_;exact k H4 g4.sm (g4.tel (λj hj=>(hp j hj).2) ht)
structure TMkG(P:Program)(w:World)(K:ae)(mg:Str->Option Value)(base:Heap)(C:Addr):Prop where
 made:∃f fd,Mk K C f/\FnOk P w K mg base CX0 7 f fd ["self","turns","places","rides","ways","groups"] (UM C)/\Binds K fd ["self","turns","places","rides","ways","groups"] []
 mg:mg "Table"=some (.ref C)
noncomputable def four{α:Type}(z a b c d:α):Nat->α
|1=>a|2=>b|3=>c|4=>d|_=>z
theorem Rv{H:Hp}{T:Tb}(o:OkTb T){l1 l2 l3 l4:Addr}{x1 x2 x3 x4:List V}(h1:H l1=some (.lst x1))(h2:H l2=some (.lst x2))(h3:H l3=some (.lst x3))(h4:H l4=some (.lst x4))(r1:YT H x1 (T.t1.map some))(r2:YT H x2 (T.t2.map some))(r3:YT H x3 (T.t3.map some))(r4:YT H x4 (T.t4.map some)){Qx:Addr->Hp->Prop}{E:XK}(k:∀H' x,Same H H'->H x=none->Tel H' C x T->Qx x H'):∀x dx,H x=none->H dx=none->dx≠x->UM C [.ref x,.int T.n,.ref l1,.ref l2,.ref l3,.ref l4] (upd (upd H dx (.own x)) x (.ins C dx [])) (λv H'=>v=.non/\Qx x H') E:=λx dx hx hdx hne=>by
 have sm:Same H (upd (upd H dx (.own x)) x (.ins C dx [])):=sameNew (o:=.ins C dx []) (sameNew (o:=.own x) (Same.refl H) hdx) (by rw[Zc (bR hne)];exact hx);refine⟨x,dx,T,four 0 l1 l2 l3 l4,four [] x1 x2 x3 x4,rfl,Zd,o,λj hj=>?_,λH' s tl=>⟨rfl,k H' x (λc u e=>?_) hx tl⟩⟩
 ·rcases hj with rfl|rfl|rfl|rfl
  ·exact⟨.inl (sm _ _ h1),r1.same sm⟩
  ·exact⟨.inl (sm _ _ h2),r2.same sm⟩
  ·exact⟨.inl (sm _ _ h3),r3.same sm⟩
  ·exact⟨.inl (sm _ _ h4),r4.same sm⟩
 ·exact s c u (sm c u e) (ne_of_none e hx)
end
end WD
namespace L2
open PySem PySem.Spec PyProof.Rows
theorem QD{X:Cx}{pos:Pos}{K:ae}{es:List Expr}{k:Nat}{t:TGs}{n:Nat}(hK:X.K=K)(hc:X.calm=true)(h:PGs X es t)(hn:(cJ es X.env).length=n:=by rfl)(hst:(cJ es X.env).findIdx? (·.1)=none:=by rfl):PG X (.Tuple es k pos) (gTup K n t):=by subst hK;exact YB hc h hn hst
theorem SqL.same{K:ae}{H H':Hp}{a:Addr}{xs:List V}(s:Same H H')(h:SqL K H a xs):SqL K H' a xs:=by
 rcases h with(h|⟨o,h⟩)|h
 ·exact .inl (.inl (s _ _ h))
 ·exact .inl (.inr ⟨o,s _ _ h⟩)
 ·exact .inr h
theorem Xo{b:Addr}{H H1 H2:Hp}(hn:H b=none)(s:Same H H1)(t:Zi b H1 H2):Same H H2:=λc o e=>t c o (s c o e) (ne_of_none e hn)
end L2
namespace WD
open PySem L2 PySem.Spec PyProof.Rows TB
theorem Rg(r:Option Int):(!decide (XA r=.non))=r.isSome:=by cases r<;>rfl
theorem RowsAt.go{K:ae}{b:Addr}{H:Hp}{l:Addr}{rows:List (List V)}(h:RowsAt b H l rows){i:Nat}(hi:i<rows.length):(Itl K l).go i H:=by obtain⟨n,as,e,hl,r⟩:=h;exact⟨_,.ref (as[i]'(by omega)),SqL.of e,by simp[hl,hi]⟩
theorem RowsAt.stop{K:ae}{b:Addr}{H:Hp}{l:Addr}{rows:List (List V)}(h:RowsAt b H l rows):(Itl K l).stop rows.length H:=by obtain⟨n,as,e,hl,r⟩:=h;exact⟨_,SqL.of e,by simp[hl]⟩
theorem RowsAt.item{K:ae}{b:Addr}{H:Hp}{l:Addr}{rows:List (List V)}(h:RowsAt b H l rows){i:Nat}{r:List V}(hr:rows[i]?=some r){x:V}{H':Hp}(y:(Itl K l).yld i H x H'):H'=H/\∃a,x=.ref a/\a≠b/\H a=some (.tup r):=by obtain⟨a,n,e,as,el,ea,len⟩:=h.at hr;obtain⟨rfl,q⟩:=y;have:=q _ (SqL.of el);rw[aW,ea]at this;exact⟨rfl,a,(aB this).symm,n,e⟩
theorem RowsAt.rebox{b b':Addr}{H:Hp}{l:Addr}{rows:List (List V)}(h:RowsAt b H l rows)(hb:Zz H b')(n:l≠b'):RowsAt b' H l rows:=by obtain⟨_,as,e,hl,r⟩:=h;refine⟨n,as,e,hl,λi a q h1 h2=>⟨λz=>?_,(r i a q h1 h2).2⟩⟩;have:=(r i a q h1 h2).2;obtain⟨x,y,w,eb⟩:=hb;rw[z,eb]at this;cases this
theorem MV{c:Bool}{x y:Int}:atI [V.int x,.int y] (if c=true then 1 else 0)=some (.int (if c=true then y else x)):=by
 cases c
 ·exact Zl (j:=0) rfl
 ·exact Zl (j:=1) rfl
noncomputable def rooms:List (Option Int):=[none,some 0,some 1,some 2,some 1,none,some 3,some 1000]
theorem SY:∀r∈rooms,∀i,r=some i->0<=i/\i<=1000:=by intro r hr i e;subst e;simp[rooms]at hr;omega
theorem Sz{k:Int}(hk:0<=k):∀{rs:List Gr},(∀r∈rs,r.ma<=k)->((rs.map grRow).map ZF).sum<=k*rs.length
|[],_=>by simp
|r::rs,h=>by have:=Sz hk (rs:=rs) λx hx=>h x (aq _ hx);have h0:ZF (grRow r)=r.ma:=rfl;have h1:=h r aA;rw[ax,ax,fG,h0,aU];push_cast;rw[Int.mul_add];omega
theorem TN{n:Int}{ps:Pl}{rs:List Rd}{ws:List Wy}{gs:List Gr}{ts ss:List Str}(hn1:1<=n)(hn2:n<=50)(sub:ps.map (·.1)=ts)(nd:ts.Nodup)(nx:∀t∈ts,Nx t)(rm:∀p∈ps,∀i,p.2=some i->0<=i/\i<=1000)(lt:ts.length<=14)(hss:∀t∈ss,∃i,(t,some i)∈ps)(len2:rs.length<=20)(nd2:(rs.map (·.nm)).Nodup)(rx2:∀r∈rs,Nx r.nm/\RdX n ts ss r)(len3:ws.length<=20)(nd3:(ws.map (·.nm)).Nodup)(rx3:∀r∈ws,Nx r.nm/\WyX ts ss r)(len4:gs.length<=20)(nd4:(gs.map (·.nm)).Nodup)(rx4:∀r∈gs,GrX n ts r):OkTb ⟨n,ps.map plRow,rs.map rdRow,ws.map wyRow,gs.map grRow⟩:=by
 have pm:∀p∈ps,p.1∈ts:=λp hp=>sub▸ai.mpr ⟨p,hp,rfl⟩;have tm:∀t∈ts,∃r,(t,r)∈ps:=λt ht=>by rw[<-sub]at ht;obtain⟨p,hp,rfl⟩:=ai.mp ht;exact⟨p.2,hp⟩
 have sh:∀t∈ts,t.length<=1000:=λt ht=>by have:=(nx t ht).1;rw[ZU]at this;omega
 have gp:∀p∈ps,p.1.length<=1000:=λp hp=>sh _ (pm p hp);have lps:ps.length=ts.length:=by rw[<-sub,lm]
 refine⟨hn1,hn2,λj hj=>?_⟩;rcases hj with rfl|rfl|rfl|rfl
 ·refine⟨by show(ps.map plRow).length<=14;rw[lm];omega,⟨?_,λys hy=>?_,λz=>by cases z⟩⟩
  ·show((ps.map plRow).map nameOf).Nodup;rw[dI];exact(show(ps.map (·.1)).Nodup from sub▸nd)
  ·obtain⟨p,hp,rfl⟩:=ai.mp hy;exact El (TR (nx _ (pm p hp))) (rm p hp)
 ·refine⟨by show(rs.map rdRow).length<=80;rw[lm];omega,⟨?_,λys hy=>?_,λz=>by cases z⟩⟩
  ·show((rs.map rdRow).map nameOf).Nodup;rw[dI];exact nd2
  ·obtain⟨r,hr,rfl⟩:=ai.mp hy;obtain⟨h1,h2⟩:=rx2 r hr;exact Eh gp ⟨⟨hss _ h2.st,tm _ h2.gl,h2.ne⟩,h2.lv0,h2.lv1,h2.cm0,h2.cm1,h2.se0,h2.se1⟩ (TR h1)
 ·refine⟨by show(ws.map wyRow).length<=40;rw[lm];omega,⟨?_,λys hy=>?_,λz=>by cases z⟩⟩
  ·show((ws.map wyRow).map nameOf).Nodup;rw[dI];exact nd3
  ·obtain⟨r,hr,rfl⟩:=ai.mp hy;obtain⟨h1,h2⟩:=rx3 r hr;exact DS gp ⟨⟨hss _ h2.st,tm _ h2.gl,h2.ne⟩,h2.lo0,h2.lo1,h2.wi0,h2.wi1⟩ (TR h1)
 ·refine⟨by show(gs.map grRow).length<=300;rw[lm];omega,⟨?_,λys hy=>?_,λ_=>?_⟩⟩
  ·show((gs.map grRow).map nameOf).Nodup;rw[dI];exact nd4
  ·obtain⟨r,hr,rfl⟩:=ai.mp hy;have h:=rx4 r hr;obtain⟨x,hx⟩:=tm _ h.pl;exact Eu (v:=.non) ⟨plRow (r.pl,x),ai.mpr ⟨_,hx,rfl⟩,rfl⟩ (sh _ h.pl) h.tu0 h.tu1 h.ma0 (by have:=h.ma1;omega) h.nm
  ·have:=Sz (by decide:(0:Int)<=3) λr hr=>(rx4 r hr).ma1;show((gs.map grRow).map ZF).sum<=300;omega
def Qo(K:ae):Sp:=λvs H Q _=>∃(a:Addr)(zs:List Int),vs=[.ref a]/\SqL K H a (zs.map V.int)/\zs.length<=1000 /\∀H' b pw T l1 l2 l3 l4,Same H H'->H b=none->Zz H' b->TbAt b H' pw T l1 l2 l3 l4->OkTb T->Q (.ref pw) H'
section
variable {P:Program}{w:World}{K:ae}{mg:Str->Option Value}{base:Heap}
theorem ZG:FnScope ["_law_script",q_b,"_law_big","_law_turns","_law_names_here","_law_at","_law_places","_law_k","_law_name","_law_room","_law_starts","_law_rides_here","_law_ways_here","_law_groups_here"] ["_law_script"] (Zf T.f__law_world):=scO
noncomputable def Xv:Scope:=csx [(".0",.local),("_law_name",.local),("_law_room",.local)]
theorem Vx:CompScope Xv (Zf T.f__law_world):=⟨rfl,by decide +kernel,by decide +kernel,by decide +kernel⟩
theorem XC:(["_law_name","_law_room"]:List Str).Nodup:=by decide +kernel
theorem Vy:CompNames ["_law_script",q_b,"_law_big","_law_turns","_law_names_here","_law_at","_law_places","_law_k","_law_name","_law_room","_law_starts","_law_rides_here","_law_ways_here","_law_groups_here"] Xv ["_law_name","_law_room"] [none,none]:=.mk' (by decide +kernel)
theorem Qa(B:∀x∈Blts,mg x=none)(CC:Can P w K mg base 1 "_law_cell" ["_law_script","_law_k"] (Ml K))(CB:Can P w K mg base 1 "_law_box" ["_law_cell_here"] SI)(CT:Can P w K mg base 1 "_law_take" [q_b,"_law_many"] X2)(CN:Can P w K mg base 2 "_law_names" [q_b,"_law_many"] J8)(CR:Can P w K mg base 3 "_law_rides" [q_b,"_law_turns","_law_names_here","_law_starts","_law_most"] Nc)(CW:Can P w K mg base 3 "_law_ways" [q_b,"_law_turns","_law_names_here","_law_starts"] Qs)(CG:Can P w K mg base 3 "_law_groups" [q_b,"_law_turns","_law_names_here","_law_most"] GP)(D:Df K mg "_law_world" T.f__law_world ["_law_script"]):Can P w K mg base 4 "_law_world" ["_law_script"] (Qo K):=by
 refine D.cn ZG λf cdv A outer s H vs Q E hr h=>?_;obtain⟨a,zs,rfl,hS,hzl,k⟩:=h;refine' ⟨_,(@Za _ _ _ _ _ ?h11 (@Za _ _ _ _ _ ?h12 (@Za _ _ _ _ _ ?h13 (@Za _ _ _ _ _ ?h14 (@Za _ _ _ _ _ ?h15 (@Za _ _ _ _ _ ?h16 (@Za _ _ _ _ _ ?h17 (@Za _ _ _ _ _ ?h18 (@Za _ _ _ _ _ ?h19 (@Za _ _ _ _ _ ?h20 (@Za _ _ _ _ _ ?h21 (@Ze _ _ _ ?h22)))))))))))),?rd⟩;case' h22=>refine' (Zk ?h10)
 case' h21=>refine' (@st _ _ _ _ 13 _ _ ZG.nd (cn CG hr (@Zh _ _ _ _ _ (cn CB hr (@pa1 _ _ _ (cn CC hr (@pa2 _ _ _ _ _ (pv 0) Zb (by rfl))) (by rfl))) (@pa3 _ _ _ _ _ _ _ (pv 3) (pv 4) ?h9 (by rfl)) (by rfl))) (by rfl) (by exact aN rfl) (by rfl) (by exact .inl rfl))
 case' h20=>refine' (@st _ _ _ _ 12 _ _ ZG.nd (cn CW hr (@Zh _ _ _ _ _ (cn CB hr (@pa1 _ _ _ (cn CC hr (@pa2 _ _ _ _ _ (pv 0) Zb (by rfl))) (by rfl))) (@pa3 _ _ _ _ _ _ _ (pv 3) (pv 4) (pv 10) (by rfl)) (by rfl))) (by rfl) (by exact aN rfl) (by rfl) (by exact .inl rfl))
 case' h19=>refine' (@st _ _ _ _ 11 _ _ ZG.nd (cn CR hr (@Zh _ _ _ _ _ (cn CB hr (@pa1 _ _ _ (cn CC hr (@pa2 _ _ _ _ _ (pv 0) Zb (by rfl))) (by rfl))) (@Zh _ _ _ _ _ (pv 3) (@pa3 _ _ _ _ _ _ _ (pv 4) (pv 10) ?h8 (by rfl)) (by rfl)) (by rfl))) (by rfl) (by exact aN rfl) (by rfl) (by exact .inl rfl))
 case' h18=>refine' (Vf (i:=10) ZG.nd rfl (aN rfl) (scope:=Xv) (N:=["_law_name","_law_room"]) (cp:=[none,none]) rfl Vx Vy (Z6 (pv 6)) (λC s H ex pn=>(QD (K:=K) (n:=2) rfl rfl (Zn (nmT 0 XC) (Zn (nmT 1 XC) Yc)))) (λC s H ex pn=>(X5 (Zr Vp (pv 1) ZZ (Zw _)))) (λC s H ex pn=>(pv 0)))
 case' h17=>refine' (ZW aD rfl (Nl rfl (bm B) (@pa1 _ _ _ (pv 4) (by rfl)) (by decide +kernel)) (YB rfl (Zn (nmT 7 ZG.nd) (Zn (nmT 8 ZG.nd) Yc))) (@Za _ _ _ _ _ ?h6 (@Ze _ _ _ ?h7)))
 case' h16=>refine' (@st _ _ _ _ 6 _ _ ZG.nd ?h3 (by rfl) (by exact aN rfl) (by rfl) (by exact .inl rfl))
 case' h15=>refine' (@st _ _ _ _ 5 _ _ ZG.nd (cn CT hr (@pa2 _ _ _ _ _ (pv 1) (Zt ZQ (Zy (r:=rLen K) ZI rfl (bm B) aT (@pa1 _ _ _ (pv 4) (by rfl))) Zb) (by rfl))) (by rfl) (by exact aN rfl) (by rfl) (by exact .inl rfl))
 case' h14=>refine' (@st _ _ _ _ 4 _ _ ZG.nd (cn CN hr (@pa2 _ _ _ _ _ (pv 1) (Zt ZQ Zb (cn CT hr (@pa2 _ _ _ _ _ (pv 1) ?h2 (by rfl)))) (by rfl))) (by rfl) (by exact aN rfl) (by rfl) (by exact .inl rfl))
 case' h13=>refine' (@st _ _ _ _ 3 _ _ ZG.nd (Zt ZQ Zb (cn CT hr (@pa2 _ _ _ _ _ (pv 1) ?h1 (by rfl)))) (by rfl) (by exact aN rfl) (by rfl) (by exact .inl rfl))
 case' h12=>refine' (@st _ _ _ _ 2 _ _ ZG.nd (Xn JK rfl (bm B) V6 (@pa1 _ _ _ (@YG _ _ _ _ _ _ _ _ Ug (cn CT hr (@pa2 _ _ _ _ _ (pv 1) Zb (by rfl))) Zb (Zw _)) (by rfl))) (by rfl) (by exact aN rfl) (by rfl) (by exact .inl rfl))
 case' h11=>refine' (@st _ _ _ _ 1 _ _ ZG.nd (cn CB hr (@pa1 _ _ _ (cn CC hr (@pa2 _ _ _ _ _ (pv 0) Zb (by rfl))) (by rfl))) (by rfl) (by exact aN rfl) (by rfl) (by exact .inl rfl))
 case' h10=>refine' (@Z0 _ _ _ _ (@Zh _ _ _ _ _ (pv 3) (@Zh _ _ _ _ _ (pv 6) (@pa3 _ _ _ _ _ _ _ (pv 11) (pv 12) (pv 13) (by rfl)) (by rfl)) (by rfl)))
 case' h9=>refine' (@il _ _ _ _ _ _ K (@Z0 _ _ _ _ (@Y6 _ _ (by decide +kernel))) (pv 2) (by rfl) (by exact λ_ _=>rfl))
 case' h8=>refine' (@il _ _ _ _ _ _ K (@Z0 _ _ _ _ (@Y6 _ _ (by decide +kernel))) (pv 2) (by rfl) (by exact λ_ _=>rfl))
 case' h7=>refine' (ZX (Vl bq bE bD YI (pv 6) (@pa1 _ _ _ ?h5 (by rfl))))
 case' h6=>refine' (@st _ _ _ _ 9 _ _ ZG.nd ?h4 (by rfl) (by exact aN rfl) (by rfl) (by exact .inl rfl))
 case' h5=>refine' (@ZE _ _ _ _ _ (@pa2 _ _ _ _ _ (pv 8) (pv 9) (by rfl)))
 case' h4=>refine' (@il _ _ _ _ _ _ K (@Z0 _ _ _ _ (@Y6 _ _ (by decide +kernel))) (Zt Xf (cn CT hr (@pa2 _ _ _ _ _ (pv 1) Zb (by rfl))) (Xn JK rfl (bm B) V6 (@pa1 _ _ _ (@YG _ _ _ _ _ _ _ _ U2 (pv 7) (pv 5) (Zw _)) (by rfl)))) (by rfl) (by exact λ_ _=>rfl))
 case' h3=>refine' (@Z0 _ _ _ _ Zj)
 case' h2=>refine' (@il _ _ _ _ _ _ K (@Z0 _ _ _ _ (@Y6 _ _ (by decide +kernel))) (pv 2) (by rfl) (by exact λ_ _=>rfl))
 case' h1=>refine' (@il _ _ _ _ _ _ K (@Z0 _ _ _ _ (@Y6 _ _ (by decide +kernel))) (pv 2) (by rfl) (by exact λ_ _=>rfl))
 case' rd=>
 refine⟨_,rfl,a,zs,0,rfl,hS,hzl,by decide,λc=>⟨c,rfl,λb H1 hb0 B1 S1=>?_⟩⟩;dsimp only[Zq,au];refine tkC B1 (λrb H2 rb0 rb1 B2 S2=>?_);refine⟨rfl,.inr ⟨_,rfl,?_⟩⟩;generalize decide (V.int rb=V.int 0)=g;dsimp only[Zq,au];refine⟨_,rfl,(zl),λl3 hl3=>?_⟩;refine⟨_,rfl,l3,_,_,_,rfl,rfl,SqL.of Zd,MV,b,_,rfl,B2.new hl3,(by cases g<;>decide),ZP (by cases g<;>decide) (by cases g<;>decide),λt0 H4 t00 t01 B4 S4=>?_⟩;have ht12:t0<12:=by cases g<;>simp at t01<;>omega
 refine⟨_,_,rfl,rfl,?_⟩;have S14:Zi b H1 H4:=(S2.new' hl3).trans S4;clear S2 S4 B2 hl3 t01;dsimp only[Zq,au];obtain⟨n,hn⟩:∃n,n=1+t0:=⟨_,rfl⟩;rw[<-hn];refine⟨_,rfl,_,rfl,(zl),λl5 hl5=>?_⟩;refine⟨_,rfl,l5,_,_,_,rfl,rfl,SqL.of Zd,MV,b,_,rfl,B4.new hl5,(by cases g<;>decide),ZP (by cases g<;>decide) (by cases g<;>decide),λu0 H6 u00 u01 B6 S6=>?_⟩;have hu9:u0<9:=by cases g<;>simp at u01<;>omega
 refine⟨_,_,rfl,rfl,b,_,rfl,B6,by omega,by omega,λH7 lN ts B7 S7 nN eN neN hc nd nx=>?_⟩;have S17:Zi b H1 H7:=((S14.new' hl5).trans S6).trans S7;clear S14 S6 S7 B6 B4 hl5 u01 nN;dsimp only[Zq,au];refine⟨_,rfl,_,rfl,lN,_,rfl,.inl (SqL.of eN),_,_,rfl,rfl,b,_,rfl,B7,(by rw[lm];omega),ZP (by rw[lm];omega) (by rw[lm];omega),λat_ H8 a0 a1 B8 S8=>?_⟩;have S18:=S17.trans S8;have eN8:=S8 _ _ eN neN;clear S17 S8 B7 eN a0 a1;dsimp only[Zq,au];refine⟨Nat.zero_le _,λlP hP=>?_⟩;dsimp only[Zq,au];have nP:=B8.ne hP;have hP1:=X9 S18 hP nP;have nNP:lN≠lP:=ne_of_none eN8 hP;have R0:RowsAt b (upd H8 lP (.lst [])) lP (([]:Pl).map plRow):=⟨nP,[],Zd,rfl,λi a r h1=>by cases h1⟩;refine⟨_,rfl,lN,_,rfl,(Zc nNP).trans eN8,?_⟩;refine Z8 (J:=N1 lN) ts.length (λi σ H'=>Zz H' b/\Zi b H1 H'/\H' lN=some (.lst (ts.map V.str))/\(∃ps:Pl,RowsAt b H' lP (ps.map plRow)/\ps.map (·.1)=ts.take i/\∀p∈ps,p.2∈rooms)/\∃o:Nat->Option V,σ=[some (.ref a),some (.ref b),some (.int (if g=true then 1 else 0)),some (.int n),some (.ref lN),some (.int at_),some (.ref lP),o 7,o 8,o 9,none,none,none,none]) ?_ (λi σ H' hi q=>?_) (λσ H' q=>?_) (λi σ H' v H3 hi q yl=>?_) (λσ H' q=>?_)
 ·exact⟨B8.new hP,S18.new' hP,(Zc nNP).trans eN8,⟨[],R0,rfl,by simp⟩,shp rfl⟩
 ·exact⟨_,q.2.2.1,by simp[hi]⟩
 ·exact⟨_,q.2.2.1,by simp⟩
 ·obtain⟨bx,sm,el,⟨ps,ra,sub,rx⟩,o,rfl⟩:=q;obtain⟨t,xs,y,ht,hxs,hy,rfl,rfl⟩:=yl;rw[el]at hxs;cases hxs;have hy2:y=V.str ts[i]:=by simp[hi]at hy;exact hy.symm
  subst hy2;have et:upd H' t (.tup [.int i,.str ts[i]]) t=some (.tup [.int i,.str ts[i]]):=Zd;have S3:Zi b H' (upd H' t (.tup [.int i,.str ts[i]])):=(Zi.refl b H').new' ht;have bx3:Zz (upd H' t (.tup [.int i,.str ts[i]])) b:=bx.new ht;generalize upd H' t (.tup [.int i,.str ts[i]])=H3 at et S3 bx3 ⊢;refine⟨t,_,rfl,SqT.of et,rfl,?_⟩;dsimp only[Zq,au];refine⟨_,_,rfl,_,_,rfl,rfl,?_⟩;dsimp only[Zq,au];refine td λD' hdd=>?_;refine⟨(zl),λlr hlr=>?_⟩;refine tkC (bx3.new hlr) (λr H5 r0 r1 B5 S5=>?_);have eR:H5 lr=some (.lst (rooms.map XA)):=S5 _ _ Zd (bx3.ne hlr);have S35:=(S3.new' hlr).trans S5;refine⟨_,rfl,_,rfl,rfl,.inr ⟨_,rfl,?_⟩⟩;refine⟨_,_,rfl,rfl,.inl ⟨by omega,by omega⟩,?_⟩;have hix:∀c:Bool,0<=r*(if c=true then 1 else 0)/\r*(if c=true then 1 else 0)<((rooms.map XA).length:Int):=λc=>by show _/\_<(8:Int);cases c<;>simp<;>omega
  obtain⟨v5,at5,m5⟩:=at_of (hix _).1 (hix _).2;obtain⟨ro,hro,rfl⟩:=ai.mp m5;refine⟨lr,_,_,_,rfl,rfl,SqL.of eR,at5,?_⟩;dsimp only[Zq,au];obtain⟨xs,eF,lx,app⟩:=(ra.same S35).app;refine⟨_,rfl,.inl ⟨rfl,_,SqL.of eF⟩,_,rfl,_,rfl,Nat.le_trans (by decide:2<=1000) (by decide),λq hq2=>?_⟩;have hl:ps.length=i:=by have:=congrArg fD sub;rw[lm,aF]at this;omega
  have nFq:lP≠q:=ne_of_none eF hq2;refine⟨lP,xs,_,rfl,rfl,(Zc nFq).trans eF,Nat.lt_of_le_of_lt (by rw[lx,lm];omega:xs.length<=20) (by decide),?_⟩;have nq:=B5.ne hq2;refine hdd _ _ ⟨Zz.same_ne (B5.new hq2) nP,Xm ((sm.trans S35).new' hq2) (Zi.refl b H1) nP hP1,?_,⟨ps++[(ts[i],ro)],?_,?_,?_⟩,shp rfl⟩
  ·rw[Zc nNP,Zc (ne_of_none (S35 _ _ el neN) hq2)];exact S35 _ _ el neN
  ·rw[aE];exact app q _ hq2 nq
  ·rw[aE,sub,aV,gE hi];rfl
  ·intro p hp;rcases aK.mp hp with hp|hp
   ·exact rx p hp
   ·rw[a7]at hp;subst hp;exact hro
 ·obtain⟨bx,sm,el,⟨ps,ra,sub,rx⟩,o,rfl⟩:=q;rw[aH]at sub;have hpl:(ps.map plRow).length<=sizeLine:=Nat.le_trans (by rw[lm];have:=congrArg fD sub;rw[lm]at this;omega:(ps.map plRow).length<=1000) (by decide);refine⟨_,rfl,lP,rfl,⟨_,SqL.of ra.2.choose_spec.1⟩,?_⟩;refine XD (J:=Itl K lP) (ps.map plRow).length hpl (λi ys τ H2=>H2=H'/\ys=((ps.take i).filter λp=>p.2.isSome).map (λp=>V.str p.1)/\∃v1 v2,τ=[v1,v2]) ⟨rfl,rfl,none,none,rfl⟩ (λi ys τ H2 p=>?_) (λi ys τ H2 hi p=>?_) (λys τ H2 p=>?_) (λi ys τ H2 x H3 hi p yl=>?_) (λys τ H0 p lS hlS=>?_)
  ·obtain⟨_,rfl,_⟩:=p;rw[lm];exact Nat.le_trans (bO _ _) (by rw[aF];omega)
  ·obtain⟨rfl,_⟩:=p;exact ra.go hi
  ·obtain⟨rfl,_⟩:=p;exact ra.stop
  ·obtain⟨rfl,rfl,v1,v2,rfl⟩:=p;have hi':i<ps.length:=by simpa using hi
   have e0:ps[i]?=some ps[i]:=gE hi';obtain⟨rfl,a,rfl,na,ha⟩:=ra.item (r:=plRow ps[i]) (by rw[aW,e0];rfl) yl;refine⟨a,_,rfl,SqT.of ha,rfl,_,_,rfl,_,_,rfl,rfl,_,rfl,rfl,_,rfl,?_⟩;rw[Rg];refine XZ (λe=>?_) (λe=>?_)
   ·refine⟨_,rfl,rfl,?_,_,_,rfl⟩;rw[Yv _ _ e0,if_pos e,aE];rfl
   ·refine⟨rfl,?_,_,_,rfl⟩;rw[Yv _ _ e0,if_neg (by rw[e];exact Bool.false_ne_true),bp]
  ·obtain⟨rfl,rfl,v1,v2,rfl⟩:=p;rw[lm,aH];generalize ess:(ps.filter λp=>p.2.isSome).map (·.1)=ss;have e1:(ps.filter λp=>p.2.isSome).map (λp=>V.str p.1)=ss.map V.str:=by rw[<-ess,dI];rfl
   rw[e1];have hss:∀t∈ss,∃i,(t,some i)∈ps:=λt ht=>by rw[<-ess]at ht;obtain⟨p,hp',rfl⟩:=ai.mp ht;obtain⟨m1,m2⟩:=bP.mp hp';obtain⟨i,hi⟩:=b7.mp m2;exact⟨i,by rw[<-hi];exact m1⟩
   have lss:ss.length<=20:=by rw[<-ess,lm];have:=congrArg fD sub;rw[lm]at this;exact Nat.le_trans (bO _ _) (by omega)
   have eS:upd H0 lS (.lst (ss.map V.str)) lS=some (.lst (ss.map V.str)):=Zd;have S9:Zi b H0 (upd H0 lS (.lst (ss.map V.str))):=(Zi.refl b H0).new' hlS;have B9:Zz (upd H0 lS (.lst (ss.map V.str))) b:=bx.new hlS;generalize upd H0 lS (.lst (ss.map V.str))=H9 at eS S9 B9 ⊢;dsimp only[Zq,au];have hN9:=S9 _ _ el neN;have ra9:=ra.same S9;have S19:=sm.trans S9;have hnb:H b=none:=hb0;have SH9:Same H H9:=Xo hnb S1 S19;have hN0:∀(H':Hp)(b':Addr),Same H9 H'->H9 b'=none->NmL H' b' lN lS ts ss:=λH' b' s n'=>
    ⟨s _ _ hN9,s _ _ eS,ne_of_none hN9 n',ne_of_none eS n',nd,λt ht=>by
     obtain⟨i,hi⟩:=hss t ht;rw[<-sub];exact ai.mpr ⟨_,hi,rfl⟩,by omega,lss,λt ht=>by
     have:=(nx t ht).1;rw[ZU]at this;omega⟩;refine⟨_,rfl,a,zs,1,rfl,hS.same SH9,hzl,by decide,λc1=>⟨c1,rfl,λb1 Ha hb1 Ba Sa=>?_⟩⟩;refine⟨_,rfl,_,rfl,_,rfl,(zl),λlq hlq=>?_⟩;refine⟨_,rfl,lq,_,_,_,rfl,rfl,SqL.of Zd,MV,?_⟩;refine⟨b1,lN,lS,n,_,ts,ss,rfl,Ba.new hlq,(hN0 Ha b1 Sa hb1).same ((Zi.refl b1 Ha).new' hlq),by omega,by omega,(by cases g<;>decide),(by cases g<;>decide),λHb l2 rs Bb Sb n2 ra2 len2 nd2 rx2=>?_⟩;have S9b:Same H9 Hb:=Xo hb1 Sa (((Zi.refl b1 Ha).new' hlq).trans Sb);have n2':H9 l2=none:=by
    cases e:H9 l2 with
   |none=>rfl
   |some o=>rw[Zc (ne_of_none (Sa _ _ e) hlq),Sa _ _ e]at n2;cases n2
   have ra2':=ra2.rebox (by obtain⟨x,y,z,e⟩:=B9;exact⟨x,y,z,S9b _ _ e⟩:Zz Hb b) (by obtain⟨x,y,z,e⟩:=B9;exact(ne_of_none e n2').symm);clear n2 ra2 Sb Bb Sa Ba hlq hb1;dsimp only[Zq,au];refine⟨_,rfl,a,zs,2,rfl,hS.same (SH9.trans S9b),hzl,by decide,λc2=>⟨c2,rfl,λb2 Hc hb2 Bc Sc=>?_⟩⟩;refine⟨_,rfl,_,rfl,_,rfl,?_⟩;have hb2':H9 b2=none:=by
    cases e:H9 b2 with
   |none=>rfl
   |some o=>rw[S9b _ _ e]at hb2;cases hb2
   refine⟨b2,lN,lS,n,ts,ss,rfl,Bc,hN0 Hc b2 (S9b.trans Sc) hb2',by omega,by omega,λHd l3 ws Bd Sd n3 ra3 len3 nd3 rx3=>?_⟩;have Sbd:Same Hb Hd:=Xo hb2 Sc Sd;have S9d:=S9b.trans Sbd;have n3':Hb l3=none:=by
    cases e:Hb l3 with
   |none=>rfl
   |some o=>rw[Sc _ _ e]at n3;cases n3
   have B9d:Zz Hd b:=by obtain⟨x,y,z,e⟩:=B9;exact⟨x,y,z,S9d _ _ e⟩
   have ra3':=ra3.rebox B9d (by obtain⟨x,y,z,e⟩:=B9;exact(ne_of_none (S9b _ _ e) n3').symm);have ra2d:=ra2'.same (b:=b) (H':=Hd) λc o e _=>Sbd c o e;clear n3 ra3 Sd Bd Sc Bc hb2 hb2' ra2' Sbd;dsimp only[Zq,au];refine⟨_,rfl,a,zs,3,rfl,hS.same (SH9.trans S9d),hzl,by decide,λc3=>⟨c3,rfl,λb3 He hb3 Be Se=>?_⟩⟩;refine⟨_,rfl,_,rfl,(zl),λlq hlq=>?_⟩;refine⟨_,rfl,lq,_,_,_,rfl,rfl,SqL.of Zd,MV,?_⟩;have lNe:lN≠lq:=ne_of_none (Se _ _ (S9d _ _ hN9)) hlq;refine⟨b3,lN,n,_,ts,rfl,Be.new hlq,(Zc lNe).trans (Se _ _ (S9d _ _ hN9)),ne_of_none (S9d _ _ hN9) hb3,by omega,by omega,by omega,by omega,(by cases g<;>decide),(by cases g<;>decide),λHf l4 gs Bf Sf n4 ra4 len4 nd4 rx4=>?_⟩;have Sdf:Same Hd Hf:=Xo hb3 Se (((Zi.refl b3 He).new' hlq).trans Sf);have S9f:=S9d.trans Sdf;have n4':Hd l4=none:=by
    cases e:Hd l4 with
   |none=>rfl
   |some o=>rw[Zc (ne_of_none (Se _ _ e) hlq),Se _ _ e]at n4;cases n4
   have B9f:Zz Hf b:=by obtain⟨x,y,z,e⟩:=B9;exact⟨x,y,z,S9f _ _ e⟩
   have ra4':=ra4.rebox B9f (by obtain⟨x,y,z,e⟩:=B9;exact(ne_of_none (S9d _ _ e) n4').symm);have sdf:Zi b Hd Hf:=λc o e _=>Sdf c o e;have s9f:Zi b H9 Hf:=λc o e _=>S9f c o e;have ra2f:=ra2d.same sdf;have ra3f:=ra3'.same sdf;have ra1f:=ra9.same s9f;clear n4 ra4 Sf Bf Se Be hb3 hlq ra2d ra3';dsimp only[Zq,au];refine⟨_,rfl,_,rfl,_,rfl,_,rfl,_,rfl,(zl),λpw hpw=>?_⟩;have npw:=B9f.ne hpw;have s2:Zi b Hf (upd Hf pw (.lst [.int n,.ref lP,.ref l2,.ref l3,.ref l4])):=(Zi.refl b Hf).new' hpw;refine k _ b pw ⟨n,ps.map plRow,rs.map rdRow,ws.map wyRow,gs.map grRow⟩ lP l2 l3 l4 (λc o e=>?_) hnb (B9f.new hpw) ⟨npw,Zd,ra1f.same s2,ra2f.same s2,ra3f.same s2,ra4'.same s2⟩ ?_
   ·have:=S9f _ _ (SH9 _ _ e);rw[Zc (ne_of_none this hpw)];exact this
   ·refine TN (ss:=ss) (ts:=ts) (by omega) (by omega) sub nd nx (λp hp i e=>SY _ (rx p hp) i e) (by omega) hss len2 nd2 rx2 len3 nd3 rx3 len4 nd4 rx4
end
end WD
namespace TB
open PySem L2 PySem.Spec PyProof.Rows WD
section
variable {P:Program}{w:World}{K:ae}{mg:Str->Option Value}{base:Heap}{C Cn:Addr}
theorem Pj:FnScope ["self","thing"] ["self","thing"] (Zf T.m_Table_is_ride):=scO
theorem NZ(Z:TCl K C)(D:DfM K C "is_ride" "Table.is_ride" T.m_Table_is_ride ["self","thing"])(CK:Can P w K mg base 1 "is_known" ["thing","names"] J9):CanM P w K mg base CX0 2 C "is_ride" ["self","thing"] (Xh C "ride_by_name"):=by refine D.cn Pj λf cdv A outer s H vs Q E hr h=>?_;obtain⟨t,x,T',fs,d,kvs,rfl,⟨⟨dx,ht⟩,_⟩,hl,hd,th,k⟩:=h;refine⟨_,Ze (Zk (Ym CK hr rfl (Zg (pv 1) (Zg (Z4 (pv 0) rfl) Zj)))),?_⟩;exact⟨_,rfl,_,rfl,t,C,dx,fs,_,rfl,ht,Z.cl,Z.na _ (by simp[fields]),hl,x,T',d,kvs,rfl,th,hd,k⟩
theorem Rc:FnScope ["self","thing"] ["self","thing"] (Zf T.m_Table_is_way):=scO
theorem Qe(Z:TCl K C)(D:DfM K C "is_way" "Table.is_way" T.m_Table_is_way ["self","thing"])(CK:Can P w K mg base 1 "is_known" ["thing","names"] J9):CanM P w K mg base CX0 2 C "is_way" ["self","thing"] (Xh C "way_by_name"):=by refine D.cn Rc λf cdv A outer s H vs Q E hr h=>?_;obtain⟨t,x,T',fs,d,kvs,rfl,⟨⟨dx,ht⟩,_⟩,hl,hd,th,k⟩:=h;refine⟨_,Ze (Zk (Ym CK hr rfl (Zg (pv 1) (Zg (Z4 (pv 0) rfl) Zj)))),?_⟩;exact⟨_,rfl,_,rfl,t,C,dx,fs,_,rfl,ht,Z.cl,Z.na _ (by simp[fields]),hl,x,T',d,kvs,rfl,th,hd,k⟩
theorem Nf:FnScope ["self","thing"] ["self","thing"] (Zf T.m_Table_is_group):=scO
theorem MR(Z:TCl K C)(D:DfM K C "is_group" "Table.is_group" T.m_Table_is_group ["self","thing"])(CK:Can P w K mg base 1 "is_known" ["thing","names"] J9):CanM P w K mg base CX0 2 C "is_group" ["self","thing"] (Xh C "group_by_name"):=by refine D.cn Nf λf cdv A outer s H vs Q E hr h=>?_;obtain⟨t,x,T',fs,d,kvs,rfl,⟨⟨dx,ht⟩,_⟩,hl,hd,th,k⟩:=h;refine⟨_,Ze (Zk (Ym CK hr rfl (Zg (pv 1) (Zg (Z4 (pv 0) rfl) Zj)))),?_⟩;exact⟨_,rfl,_,rfl,t,C,dx,fs,_,rfl,ht,Z.cl,Z.na _ (by simp[fields]),hl,x,T',d,kvs,rfl,th,hd,k⟩
end
end TB
namespace SX
open PySem L2 PySem.Spec PyProof.Rows TB WD
noncomputable def sA(ys:List V)(j:Nat):Str:=match at_ ys j with|.str z=>z|_=>""
noncomputable def iA(ys:List V)(j:Nat):Int:=match at_ ys j with|.int i=>i|_=>0
structure Sx where
 key:List Key
 tail:PyData
 head:PyData
 room:V
 price:Int
noncomputable def outS(y:List V)(i:Int):Sx:=⟨[.inr "out",.inr (nameOf y),.inl i],.str (nameOf y),.tuple [.str (sA y 1),.int i],.non,0⟩
noncomputable def XQ(y:List V):Sx:=⟨[.inr "ride",.inr (nameOf y)],.tuple [.str (sA y 1),.int (iA y 2)],.tuple [.str (sA y 3),.int (iA y 4)],.int (iA y 5),iA y 4-iA y 2⟩
noncomputable def V7(y:List V)(i:Int):Sx:=⟨[.inr "walk",.inr (nameOf y),.inl i],.tuple [.str (sA y 1),.int i],.tuple [.str (sA y 2),.int (i+iA y 3)],.int (iA y 4),iA y 3⟩
noncomputable def V8(y:List V)(i:Int):Sx:=⟨[.inr "wait",.inr (nameOf y),.inl i],.tuple [.str (nameOf y),.int i],.tuple [.str (nameOf y),.int (i+1)],at_ y 1,1⟩
def Yo(T:Tb)(vs:List V)(j:Nat)(S:Sx):Prop:=(∃y∈T.t4,∃i,vs=[.str "out",.str (nameOf y),.int i]/\iA y 2<=i/\i<=T.n/\j=0/\S=outS y i) \/(∃y∈T.t2,vs=[.str "ride",.str (nameOf y)]/\j=1/\S=XQ y) \/(∃y∈T.t3,∃i,vs=[.str "walk",.str (nameOf y),.int i]/\0<=i/\i<=T.n-iA y 3/\j=2/\S=V7 y i) \/∃y∈T.t1,∃i,vs=[.str "wait",.str (nameOf y),.int i]/\at_ y 1≠.non/\0<=i/\i<=T.n-1/\j=3/\S=V8 y i
theorem Yo.key{T:Tb}{vs:List V}{j:Nat}{S:Sx}(h:Yo T vs j S):vs=S.key.map kV/\j<4:=by rcases h with⟨y,_,i,e,_,_,rfl,rfl⟩|⟨y,_,e,rfl,rfl⟩|⟨y,_,i,e,_,_,rfl,rfl⟩|⟨y,_,i,e,_,_,_,rfl,rfl⟩<;>exact⟨e,by decide⟩
theorem Y1{t:List (List V)}(h:(t.map nameOf).Nodup){y z:List V}(hy:y∈t)(hz:z∈t)(e:nameOf y=nameOf z):y=z:=by
 induction t with
|nil=>cases hy
|cons a t ih=>
  rw[ax,bo]at h;rcases ar.mp hy with rfl|hy'<;>rcases ar.mp hz with rfl|hz'
  ·rfl
  ·exact absurd (e▸ai.mpr ⟨z,hz',rfl⟩) h.1
  ·exact absurd (e▸ai.mpr ⟨y,hy',rfl⟩) h.1
  ·exact ih h.2 hy' hz'
theorem Uh{T:Tb}(o:OkTb T){j:Nat}(hj:isJ j):((T.part j).map nameOf).Nodup:=(o.part j hj).2.nd
theorem Jd:("out":Str)≠"walk"/\("out":Str)≠"wait"/\("walk":Str)≠"wait"/\("out":Str)≠"ride"/\("walk":Str)≠"ride"/\("wait":Str)≠"ride":=by decide +kernel
theorem Yo.uniq{T:Tb}(o:OkTb T){vs:List V}{j j':Nat}{S S':Sx}(h:Yo T vs j S)(h':Yo T vs j' S'):j=j'/\S=S':=by
 obtain⟨w1,w2,w3,w4,w5,w6⟩:=Jd;rcases h with⟨y,hy,i,e,_,_,rfl,rfl⟩|⟨y,hy,e,rfl,rfl⟩|⟨y,hy,i,e,_,_,rfl,rfl⟩|⟨y,hy,i,e,_,_,_,rfl,rfl⟩ <;>rcases h' with⟨z,hz,i',e',_,_,rfl,rfl⟩|⟨z,hz,e',rfl,rfl⟩|⟨z,hz,i',e',_,_,rfl,rfl⟩|⟨z,hz,i',e',_,_,_,rfl,rfl⟩<;>rw[e]at e'<;>simp only[ez,V.str.injEq,V.int.injEq,reduceCtorEq,and_true,and_false]at e'
 ·rw[Y1 (Uh o (j:=4) (.inr (.inr (.inr rfl)))) hy hz e'.2.1,e'.2.2];exact⟨rfl,rfl⟩
 ·exact absurd e'.1 w1
 ·exact absurd e'.1 w2
 ·rw[Y1 (Uh o (j:=2) (.inr (.inl rfl))) hy hz e'.2];exact⟨rfl,rfl⟩
 ·exact absurd e'.1.symm w1
 ·rw[Y1 (Uh o (j:=3) (.inr (.inr (.inl rfl)))) hy hz e'.2.1,e'.2.2];exact⟨rfl,rfl⟩
 ·exact absurd e'.1 w3
 ·exact absurd e'.1.symm w2
 ·exact absurd e'.1.symm w3
 ·rw[Y1 (Uh o (j:=1) (.inl rfl)) hy hz e'.2.1,e'.2.2];exact⟨rfl,rfl⟩
noncomputable def flds(vk vt vh vr vp:V):List (Str×V):=[("its_key",vk),("its_tail",vt),("its_head",vh),("its_room",vr),("its_price",vp)]
def Qj(H:Hp)(Cs:Nat->Addr)(x:Addr)(j:Nat)(S:Sx):Prop:=∃dx k vt vh,H x=some (.ins (Cs j) dx (flds (.ref k) vt vh S.room (.int S.price)))/\H k=some (.tup (S.key.map kV))/\Is H vt S.tail/\Is H vh S.head
noncomputable def fnames:List Str:=["its_key","its_tail","its_head","its_room","its_price"]
structure SCl(K:ae)(C:Addr):Prop where
 cl:Cls K C
 na:∀f∈fnames,Jb K C f
def Qq(K:ae):Sp:=λvs H Q _=>∃(x C dx:Addr)(vk vt vh vr vp:V),vs=[.ref x,vk,vt,vh,vr,vp]/\SCl K C/\H x=some (.ins C dx [])/\Q .non (upd H x (.ins C dx (flds vk vt vh vr vp)))
structure CanB(P:Program)(w:World)(K:ae)(mg:Str->Option Value)(base:Heap)(Cb:Addr):Prop where
 at_:∃f fd,FnOk P w K mg base CX0 1 f fd ["self","key","tail","head","room","price"] (Qq K)/\BaseM K Cb "__init__" f/\Binds K fd ["self","key","tail","head","room","price"] []
 mg:mg "Step"=some (.ref Cb)
structure SMk(P:Program)(w:World)(K:ae)(mg:Str->Option Value)(base:Heap)(x:Str)(C:Addr)(ps:List Str)(sp:Sp):Prop where
 made:∃f fd,Mk K C f/\FnOk P w K mg base CX0 2 f fd ps sp/\Binds K fd ps []
 mg:mg x=some (.ref C)
def spMk(K:ae)(Cs:Nat->Addr)(j:Nat)(rd:List V->List V->Sx->Prop):Sp:=λvs H Q _=>∃(x dx r:Addr)(y:List V)(us:List V)(S:Sx),vs=.ref x::.ref r::us/\SCl K (Cs j)/\H x=some (.ins (Cs j) dx [])/\H r=some (.tup y)/\rd y us S /\∀H',Zi x H H'->Qj H' Cs x j S->Q .non H'
def Te(y us:List V)(S:Sx):Prop:=∃a b c d i,y=[.str a,.str b,c,d]/\us=[.int i]/\S=outS y i
def Po(y us:List V)(S:Sx):Prop:=∃a b c d e f,y=[.str a,.str b,.int c,.str d,.int e,.int f]/\us=[]/\S=XQ y
def Pm(y us:List V)(S:Sx):Prop:=∃a b c d e i,y=[.str a,.str b,.str c,.int d,.int e]/\us=[.int i]/\S=V7 y i
def Pn(y us:List V)(S:Sx):Prop:=∃a b i,y=[.str a,b]/\us=[.int i]/\S=V8 y i
theorem nof{K:ae}{C:Addr}(Z:SCl K C){f:Str}(h:f∈fnames):Jb K C f:=Z.na f h
mutual
theorem MM{H:Hp}{x:Addr}{o:HO}(hx:∀xs,H x≠some (.lst xs)/\H x≠some (.tup xs)):∀{v:V}{d:PyData},Is H v d->Is (upd H x o) v d
|_,_,.non=>.non
|_,_,.bl b=>.bl b
|_,_,.int i=>.int i
|_,_,.str z=>.str z
|_,_,.lst e r=>.lst (by rw[Zc (λz=>(hx _).1 (z▸e))];exact e) (VZ hx r)
|_,_,.tup e r=>.tup (by rw[Zc (λz=>(hx _).2 (z▸e))];exact e) (VZ hx r)
theorem VZ{H:Hp}{x:Addr}{o:HO}(hx:∀xs,H x≠some (.lst xs)/\H x≠some (.tup xs)):∀{v:List V}{d:List PyData},IsAll H v d->IsAll (upd H x o) v d
|_,_,.nil=>.nil
|_,_,.cons h r=>.cons (MM hx h) (VZ hx r)
end
theorem Us{H:Hp}{Cs:Nat->Addr}{x dx k:Addr}{j:Nat}{S:Sx}{vt vh:V}{fs:List (Str×V)}(hx:H x=some (.ins (Cs j) dx fs))(hk:H k=some (.tup (S.key.map kV)))(ht:Is H vt S.tail)(hh:Is H vh S.head):Qj (upd H x (.ins (Cs j) dx (flds (.ref k) vt vh S.room (.int S.price)))) Cs x j S:=by have kp:∀{v:V}{d:PyData},Is H v d->Is (upd H x (.ins (Cs j) dx (flds (.ref k) vt vh S.room (.int S.price)))) v d:=λh=>MM (λxs=>⟨(λz=>by rw[hx]at z;cases z),(λz=>by rw[hx]at z;cases z)⟩) h;exact⟨dx,k,vt,vh,Zd,by rw[Zc (ne_of hk hx (by intro z;cases z))];exact hk,kp ht,kp hh⟩
theorem pfl{f:Str}{v:V}{fs:List (Str×V)}{n:Nat}(h:fs.length<n):(putF f v fs).length<n+1:=by have:=YJ f v fs;omega
theorem small{n:Nat}(h:n<10):n<1000:=by omega
section
variable {P:Program}{w:World}{K:ae}{mg:Str->Option Value}{base:Heap}{Cb:Addr}{Cs:Nat->Addr}
theorem VU:FnScope ["self","key","tail","head","room","price"] ["self","key","tail","head","room","price"] (Zf T.m_Step___init__):=scO
theorem TM{f:Addr}{fd:b_}(F:Fun K "__init__" "Step.__init__" T.m_Step___init__ f fd):FnOk P w K mg base CX0 1 f fd ["self","key","tail","head","room","price"] (Qq K):=by
 refine F.ok VU (λvs H Q E h=>?_) (λcdv A outer s H vs Q E hr h=>?_)
 ·obtain⟨x,C,dx,vk,vt,vh,vr,vp,rfl,_⟩:=h;rfl
 ·obtain⟨x,C,dx,vk,vt,vh,vr,vp,rfl,Z,hx,k⟩:=h;refine⟨_,(Za (YL (pv 0) (pv 1) rfl) (Za (YL (pv 0) (pv 2) rfl) (Za (YL (pv 0) (pv 3) rfl) (Za (YL (pv 0) (pv 4) rfl) (Ze (YL (pv 0) (pv 5) rfl)))))),?_⟩;refine⟨_,rfl,_,rfl,x,C,dx,_,rfl,hx,Z.cl,nof Z (by decide +kernel),by decide,?_⟩;refine⟨_,rfl,_,rfl,x,C,dx,_,rfl,Zd,Z.cl,nof Z (by decide +kernel),small (n:=_) (pfl (Nat.zero_lt_succ 8)),?_⟩;refine⟨_,rfl,_,rfl,x,C,dx,_,rfl,Zd,Z.cl,nof Z (by decide +kernel),small (n:=_) (pfl (pfl (Nat.zero_lt_succ 7))),?_⟩;refine⟨_,rfl,_,rfl,x,C,dx,_,rfl,Zd,Z.cl,nof Z (by decide +kernel),small (n:=_) (pfl (pfl (pfl (Nat.zero_lt_succ 6)))),?_⟩;refine⟨_,rfl,_,rfl,x,C,dx,_,rfl,Zd,Z.cl,nof Z (by decide +kernel),small (n:=_) (pfl (pfl (pfl (pfl (Nat.zero_lt_succ 5))))),?_⟩;simp only[WO];exact k
theorem JX:FnScope ["self","row","turn"] ["self","row","turn"] (Zf T.m_SetOut___init__):=scO
theorem LK{f:Addr}{fd:b_}(CB:CanB P w K mg base Cb)(F:Fun K "__init__" "SetOut.__init__" T.m_SetOut___init__ f fd):FnOk P w K mg base CX0 2 f fd ["self","row","turn"] (spMk K Cs 0 Te):=by
 obtain⟨f1,fd1,F1,b1,bd1⟩:=CB.at_;refine F.ok JX (λvs H Q E h=>?_) (λcdv A outer s H vs Q E hr h=>?_)
 ·obtain⟨x,dx,r,y,us,S,rfl,_,_,_,⟨a,b,c,d,i,_,rfl,_⟩,_⟩:=h;rfl
 ·obtain⟨x,dx,r,y,us,S,rfl,Z,hx,hy,⟨a,b,c,d,i,rfl,rfl,rfl⟩,k⟩:=h;refine' ⟨_,(@Ze _ _ _ ?h6),?rd⟩;case' h6=>refine' (ZX (Ux (Z7 (v:=.ref Cb) rfl CB.mg rfl) b1 F1 hr.m bd1 .nil Z1 (@Zh _ _ _ _ _ (pv 0) (@Zh _ _ _ _ _ ?h5 (@Zh _ _ _ _ _ ?h3 (@pa3 _ _ _ _ _ _ _ ?h2 ZZ Zb (by rfl)) (by rfl)) (by rfl)) (by rfl))))
  case' h5=>refine' (@ZE _ _ _ _ _ (@pa3 _ _ _ _ _ _ _ ZC ?h4 (pv 2) (by rfl)))
  case' h4=>refine' (@it _ _ _ _ _ _ K (pv 1) Zb (by rfl) (by exact λ_ _=>rfl))
  case' h3=>refine' (@it _ _ _ _ _ _ K (pv 1) Zb (by rfl) (by exact λ_ _=>rfl))
  case' h2=>refine' (@ZE _ _ _ _ _ (@pa2 _ _ _ _ _ ?h1 (pv 2) (by rfl)))
  case' h1=>refine' (@it _ _ _ _ _ _ K (pv 1) Zb (by rfl) (by exact λ_ _=>rfl))
  have at0:atI [V.str a,.str b,c,d] 0=some (.str a):=Zl (j:=0) rfl;have at1:atI [V.str a,.str b,c,d] 1=some (.str b):=Zl (j:=1) rfl;refine⟨_,rfl,_,rfl,r,_,0,_,rfl,rfl,SqT.of hy,at0,_,rfl,zl,λq1 h1=>?_⟩;dsimp only[tNil];refine nl2 h1 λH1 S1 e1=>?_;refine⟨_,rfl,r,_,0,_,rfl,rfl,SqT.of (S1 _ _ hy),at0,iaT (S1 _ _ hy) at1 ⟨_,rfl,zl,λq2 h2=>?_⟩⟩;dsimp only[tNil];refine nl2 h2 λH2 S2 e2=>?_;have S12:=S1.trans S2;refine⟨x,Cs 0,dx,_,_,_,_,_,rfl,Z,S12 _ _ hx,k _ ?_ ?_⟩
  ·exact λc o e hc=>by rw[Zc hc];exact S12 _ _ e
  ·exact Us (S:=outS [.str a,.str b,c,d] i) (S12 _ _ hx) (S2 _ _ e1) (.str _) (.tup e2 (.cons (.str _) (.cons (.int _) .nil)))
theorem YX:FnScope ["self","row","leave","come"] ["self","row"] (Zf T.m_Ride___init__):=scO
theorem Kh{f:Addr}{fd:b_}(CB:CanB P w K mg base Cb)(F:Fun K "__init__" "Ride.__init__" T.m_Ride___init__ f fd):FnOk P w K mg base CX0 2 f fd ["self","row"] (spMk K Cs 1 Po):=by
 obtain⟨f1,fd1,F1,b1,bd1⟩:=CB.at_;refine F.ok YX (λvs H Q E h=>?_) (λcdv A outer s H vs Q E hr h=>?_)
 ·obtain⟨x,dx,r,y,us,S,rfl,_,_,_,⟨_,_,_,_,_,_,_,rfl,_⟩,_⟩:=h;rfl
 ·obtain⟨x,dx,r,y,us,S,rfl,Z,hx,hy,⟨a,b,c,d,e,g,rfl,rfl,rfl⟩,k⟩:=h;refine' ⟨_,(@Za _ _ _ _ _ ?h10 (@Za _ _ _ _ _ ?h11 (@Ze _ _ _ ?h12))),?rd⟩;case' h12=>refine' (ZX (Ux (Z7 (v:=.ref Cb) rfl CB.mg rfl) b1 F1 hr.m bd1 .nil Z1 (@Zh _ _ _ _ _ (pv 0) (@Zh _ _ _ _ _ ?h9 (@Zh _ _ _ _ _ ?h7 (@pa3 _ _ _ _ _ _ _ ?h5 ?h3 (Zt Xe (pv 3) (pv 2)) (by rfl)) (by rfl)) (by rfl)) (by rfl))))
  case' h11=>refine' (@st _ _ _ _ 3 _ _ YX.nd ?h2 (by rfl) (by exact aN rfl) (by rfl) (by exact .inl rfl))
  case' h10=>refine' (@st _ _ _ _ 2 _ _ YX.nd ?h1 (by rfl) (by exact aN rfl) (by rfl) (by exact .inl rfl))
  case' h9=>refine' (@ZE _ _ _ _ _ (@pa2 _ _ _ _ _ ZC ?h8 (by rfl)))
  case' h8=>refine' (@it _ _ _ _ _ _ K (pv 1) Zb (by rfl) (by exact λ_ _=>rfl))
  case' h7=>refine' (@ZE _ _ _ _ _ (@pa2 _ _ _ _ _ ?h6 (pv 2) (by rfl)))
  case' h6=>refine' (@it _ _ _ _ _ _ K (pv 1) Zb (by rfl) (by exact λ_ _=>rfl))
  case' h5=>refine' (@ZE _ _ _ _ _ (@pa2 _ _ _ _ _ ?h4 (pv 3) (by rfl)))
  case' h4=>refine' (@it _ _ _ _ _ _ K (pv 1) Zb (by rfl) (by exact λ_ _=>rfl))
  case' h3=>refine' (@it _ _ _ _ _ _ K (pv 1) Zb (by rfl) (by exact λ_ _=>rfl))
  case' h2=>refine' (@it _ _ _ _ _ _ K (pv 1) Zb (by rfl) (by exact λ_ _=>rfl))
  case' h1=>refine' (@it _ _ _ _ _ _ K (pv 1) Zb (by rfl) (by exact λ_ _=>rfl))
  have at0:atI [V.str a,.str b,.int c,.str d,.int e,.int g] 0=some (.str a):=Zl (j:=0) rfl;have at1:atI [V.str a,.str b,.int c,.str d,.int e,.int g] 1=some (.str b):=Zl (j:=1) rfl;have at2:atI [V.str a,.str b,.int c,.str d,.int e,.int g] 2=some (.int c):=Zl (j:=2) rfl;have at3:atI [V.str a,.str b,.int c,.str d,.int e,.int g] 3=some (.str d):=Zl (j:=3) rfl;have at4:atI [V.str a,.str b,.int c,.str d,.int e,.int g] 4=some (.int e):=Zl (j:=4) rfl;have at5:atI [V.str a,.str b,.int c,.str d,.int e,.int g] 5=some (.int g):=Zl (j:=5) rfl;refine iaT hy at2 ?_;refine iaT hy at4 ?_;refine⟨_,rfl,_,rfl,r,_,0,_,rfl,rfl,SqT.of hy,at0,zl,λq1 h1=>?_⟩;dsimp only[tNil];refine nl2 h1 λH1 S1 e1=>?_;refine iaT (S1 _ _ hy) at1 ⟨_,rfl,zl,λq2 h2=>?_⟩;dsimp only[tNil];refine nl2 h2 λH2 S2 e2=>?_;have S12:=S1.trans S2;refine iaT (S12 _ _ hy) at3 ⟨_,rfl,zl,λq3 h3=>?_⟩;dsimp only[tNil];refine nl2 h3 λH3 S3 e3=>?_;have S13:=S12.trans S3;refine iaT (S13 _ _ hy) at5 ⟨_,rfl,_,rfl,_,_,rfl,rfl,?_⟩;refine⟨x,Cs 1,dx,_,_,_,_,_,rfl,Z,S13 _ _ hx,k _ ?_ ?_⟩
  ·exact λc o e hc=>by rw[Zc hc];exact S13 _ _ e
  ·exact Us (S:=XQ [.str a,.str b,.int c,.str d,.int e,.int g]) (S13 _ _ hx) (S3 _ _ (S2 _ _ e1)) (.tup (S3 _ _ e2) (.cons (.str _) (.cons (.int _) .nil))) (.tup e3 (.cons (.str _) (.cons (.int _) .nil)))
theorem XN:FnScope ["self","row","turn","long"] ["self","row","turn"] (Zf T.m_Walk___init__):=scO
theorem Kf{f:Addr}{fd:b_}(CB:CanB P w K mg base Cb)(F:Fun K "__init__" "Walk.__init__" T.m_Walk___init__ f fd):FnOk P w K mg base CX0 2 f fd ["self","row","turn"] (spMk K Cs 2 Pm):=by
 obtain⟨f1,fd1,F1,b1,bd1⟩:=CB.at_;refine F.ok XN (λvs H Q E h=>?_) (λcdv A outer s H vs Q E hr h=>?_)
 ·obtain⟨x,dx,r,y,us,S,rfl,_,_,_,⟨_,_,_,_,_,_,_,rfl,_⟩,_⟩:=h;rfl
 ·obtain⟨x,dx,r,y,us,S,rfl,Z,hx,hy,⟨a,b,c,d,e,i,rfl,rfl,rfl⟩,k⟩:=h;refine' ⟨_,(@Za _ _ _ _ _ ?h9 (@Ze _ _ _ ?h10)),?rd⟩;case' h10=>refine' (ZX (Ux (Z7 (v:=.ref Cb) rfl CB.mg rfl) b1 F1 hr.m bd1 .nil Z1 (@Zh _ _ _ _ _ (pv 0) (@Zh _ _ _ _ _ ?h8 (@Zh _ _ _ _ _ ?h6 (@pa3 _ _ _ _ _ _ _ ?h4 ?h2 (pv 3) (by rfl)) (by rfl)) (by rfl)) (by rfl))))
  case' h9=>refine' (@st _ _ _ _ 3 _ _ XN.nd ?h1 (by rfl) (by exact aN rfl) (by rfl) (by exact .inl rfl))
  case' h8=>refine' (@ZE _ _ _ _ _ (@pa3 _ _ _ _ _ _ _ ZC ?h7 (pv 2) (by rfl)))
  case' h7=>refine' (@it _ _ _ _ _ _ K (pv 1) Zb (by rfl) (by exact λ_ _=>rfl))
  case' h6=>refine' (@ZE _ _ _ _ _ (@pa2 _ _ _ _ _ ?h5 (pv 2) (by rfl)))
  case' h5=>refine' (@it _ _ _ _ _ _ K (pv 1) Zb (by rfl) (by exact λ_ _=>rfl))
  case' h4=>refine' (@ZE _ _ _ _ _ (@pa2 _ _ _ _ _ ?h3 (Zt ZQ (pv 2) (pv 3)) (by rfl)))
  case' h3=>refine' (@it _ _ _ _ _ _ K (pv 1) Zb (by rfl) (by exact λ_ _=>rfl))
  case' h2=>refine' (@it _ _ _ _ _ _ K (pv 1) Zb (by rfl) (by exact λ_ _=>rfl))
  case' h1=>refine' (@it _ _ _ _ _ _ K (pv 1) Zb (by rfl) (by exact λ_ _=>rfl))
  have at0:atI [V.str a,.str b,.str c,.int d,.int e] 0=some (.str a):=Zl (j:=0) rfl;have at1:atI [V.str a,.str b,.str c,.int d,.int e] 1=some (.str b):=Zl (j:=1) rfl;have at2:atI [V.str a,.str b,.str c,.int d,.int e] 2=some (.str c):=Zl (j:=2) rfl;have at3:atI [V.str a,.str b,.str c,.int d,.int e] 3=some (.int d):=Zl (j:=3) rfl;have at4:atI [V.str a,.str b,.str c,.int d,.int e] 4=some (.int e):=Zl (j:=4) rfl;refine iaT hy at3 ?_;refine⟨_,rfl,_,rfl,r,_,0,_,rfl,rfl,SqT.of hy,at0,_,rfl,zl,λq1 h1=>?_⟩;dsimp only[tNil];refine nl2 h1 λH1 S1 e1=>?_;refine iaT (S1 _ _ hy) at1 ⟨_,rfl,zl,λq2 h2=>?_⟩;dsimp only[tNil];refine nl2 h2 λH2 S2 e2=>?_;have S12:=S1.trans S2;refine iaT (S12 _ _ hy) at2 ⟨_,rfl,_,rfl,_,_,rfl,rfl,zl,λq3 h3=>?_⟩;dsimp only[tNil];refine nl2 h3 λH3 S3 e3=>?_;have S13:=S12.trans S3;refine iaT (S13 _ _ hy) at4 ⟨_,rfl,?_⟩;refine⟨x,Cs 2,dx,_,_,_,_,_,rfl,Z,S13 _ _ hx,k _ ?_ ?_⟩
  ·exact λc o e hc=>by rw[Zc hc];exact S13 _ _ e
  ·exact Us (S:=V7 [.str a,.str b,.str c,.int d,.int e] i) (S13 _ _ hx) (S3 _ _ (S2 _ _ e1)) (.tup (S3 _ _ e2) (.cons (.str _) (.cons (.int _) .nil))) (.tup e3 (.cons (.str _) (.cons (.int _) .nil)))
theorem VR:FnScope ["self","row","turn"] ["self","row","turn"] (Zf T.m_Wait___init__):=scO
theorem Kg{f:Addr}{fd:b_}(CB:CanB P w K mg base Cb)(F:Fun K "__init__" "Wait.__init__" T.m_Wait___init__ f fd):FnOk P w K mg base CX0 2 f fd ["self","row","turn"] (spMk K Cs 3 Pn):=by
 obtain⟨f1,fd1,F1,b1,bd1⟩:=CB.at_;refine F.ok VR (λvs H Q E h=>?_) (λcdv A outer s H vs Q E hr h=>?_)
 ·obtain⟨x,dx,r,y,us,S,rfl,_,_,_,⟨_,_,_,_,rfl,_⟩,_⟩:=h;rfl
 ·obtain⟨x,dx,r,y,us,S,rfl,Z,hx,hy,⟨a,b,i,rfl,rfl,rfl⟩,k⟩:=h;refine' ⟨_,(@Ze _ _ _ ?h8),?rd⟩;case' h8=>refine' (ZX (Ux (Z7 (v:=.ref Cb) rfl CB.mg rfl) b1 F1 hr.m bd1 .nil Z1 (@Zh _ _ _ _ _ (pv 0) (@Zh _ _ _ _ _ ?h7 (@Zh _ _ _ _ _ ?h5 (@pa3 _ _ _ _ _ _ _ ?h3 ?h1 Zb (by rfl)) (by rfl)) (by rfl)) (by rfl))))
  case' h7=>refine' (@ZE _ _ _ _ _ (@pa3 _ _ _ _ _ _ _ ZC ?h6 (pv 2) (by rfl)))
  case' h6=>refine' (@it _ _ _ _ _ _ K (pv 1) Zb (by rfl) (by exact λ_ _=>rfl))
  case' h5=>refine' (@ZE _ _ _ _ _ (@pa2 _ _ _ _ _ ?h4 (pv 2) (by rfl)))
  case' h4=>refine' (@it _ _ _ _ _ _ K (pv 1) Zb (by rfl) (by exact λ_ _=>rfl))
  case' h3=>refine' (@ZE _ _ _ _ _ (@pa2 _ _ _ _ _ ?h2 (Zt ZQ (pv 2) Zb) (by rfl)))
  case' h2=>refine' (@it _ _ _ _ _ _ K (pv 1) Zb (by rfl) (by exact λ_ _=>rfl))
  case' h1=>refine' (@it _ _ _ _ _ _ K (pv 1) Zb (by rfl) (by exact λ_ _=>rfl))
  have at0:atI [V.str a,b] 0=some (.str a):=Zl (j:=0) rfl;have at1:atI [V.str a,b] 1=some b:=Zl (j:=1) rfl;refine⟨_,rfl,_,rfl,r,_,0,_,rfl,rfl,SqT.of hy,at0,_,rfl,zl,λq1 h1=>?_⟩;dsimp only[tNil];refine nl2 h1 λH1 S1 e1=>?_;refine⟨_,rfl,r,_,0,_,rfl,rfl,SqT.of (S1 _ _ hy),at0,_,rfl,zl,λq2 h2=>?_⟩;dsimp only[tNil];refine nl2 h2 λH2 S2 e2=>?_;have S12:=S1.trans S2;refine⟨_,rfl,r,_,0,_,rfl,rfl,SqT.of (S12 _ _ hy),at0,_,rfl,_,_,rfl,rfl,zl,λq3 h3=>?_⟩;dsimp only[tNil];refine nl2 h3 λH3 S3 e3=>?_;have S13:=S12.trans S3;refine iaT (S13 _ _ hy) at1 ?_;refine⟨x,Cs 3,dx,_,_,_,_,_,rfl,Z,S13 _ _ hx,k _ ?_ ?_⟩
  ·exact λc o e hc=>by rw[Zc hc];exact S13 _ _ e
  ·exact Us (S:=V8 [.str a,b] i) (S13 _ _ hx) (S3 _ _ (S2 _ _ e1)) (.tup (S3 _ _ e2) (.cons (.str _) (.cons (.int _) .nil))) (.tup e3 (.cons (.str _) (.cons (.int _) .nil)))
end
def Qu(K:ae)(f:Str):Sp:=λvs H Q _=>∃(x C dx:Addr)(fs:List (Str×V))(v:V),vs=[.ref x]/\SCl K C/\H x=some (.ins C dx fs)/\fs.lookup f=some v/\Q v H
def X3(C:Addr)(fld:Str):Sp:=λvs H Q _=>∃t z T fs d kvs v,vs=[.ref t,.str z]/\Tab H C t fs/\fs.lookup fld=some (.ref d)/\H d=some (.dK kvs)/\Th H (.str z) T/\valV kvs (.inr z)=some v/\Q v H
theorem XY{z:Str}{kvs:List (Key×V)}{v:V}(h:valV kvs (.inr z)=some v):ZM (.str z) kvs=true:=by show(valV kvs (.inr z)).isSome=true;rw[h];rfl
section
variable {P:Program}{w:World}{K:ae}{mg:Str->Option Value}{base:Heap}{C:Addr}
theorem Mo:FnScope ["self"] ["self"] (Zf T.m_Step_tail):=scO
theorem JI(D:DfM K C "tail" "Step.tail" T.m_Step_tail ["self"]):CanM P w K mg base CX0 1 C "tail" ["self"] (Qu K "its_tail"):=by refine D.cn Mo λf cdv A outer s H vs Q E hr h=>?_;obtain⟨x,C,dx,fs,v,rfl,Z,hx,hl,k⟩:=h;refine⟨_,(Ze (Zk (Z4 (pv 0) rfl))),?_⟩;exact⟨_,rfl,x,C,dx,fs,_,rfl,hx,Z.cl,nof Z (by decide +kernel),hl,k⟩
theorem Mp:FnScope ["self"] ["self"] (Zf T.m_Step_head):=scO
theorem JJ(D:DfM K C "head" "Step.head" T.m_Step_head ["self"]):CanM P w K mg base CX0 1 C "head" ["self"] (Qu K "its_head"):=by refine D.cn Mp λf cdv A outer s H vs Q E hr h=>?_;obtain⟨x,C,dx,fs,v,rfl,Z,hx,hl,k⟩:=h;refine⟨_,(Ze (Zk (Z4 (pv 0) rfl))),?_⟩;exact⟨_,rfl,x,C,dx,fs,_,rfl,hx,Z.cl,nof Z (by decide +kernel),hl,k⟩
theorem Vb:FnScope ["self","name"] ["self","name"] (Zf T.m_Table_ride_row):=scO
theorem GC(Z:TCl K C)(CP:CanM P w K mg base CX0 2 C "is_ride" ["self","thing"] (Xh C "ride_by_name"))(D:DfM K C "ride_row" "Table.ride_row" T.m_Table_ride_row ["self","name"]):CanM P w K mg base CX0 3 C "ride_row" ["self","name"] (X3 C "ride_by_name"):=by refine D.cn Vb λf cdv A outer s H vs Q E hr h=>?_;obtain⟨t,z,T',fs,d,kvs,v,rfl,tb,hl,hd,th,hv,k⟩:=h;obtain⟨dx,ht⟩:=id tb.at_;refine⟨_,(Za (ZD (ZH (ZA (ZR CP Z.cl Z1 hr.m (pv 0) (Zh (pv 1) Zj)))) (Ze YF) Zo) (Ze (Zk (YM (ZT hr) (Z4 (pv 0) rfl) (pv 1) (λ_ _=>rfl))))),?_⟩;refine mthV ht (tb.only _ (by decide +kernel)) ⟨_,rfl,t,_,T',fs,d,kvs,rfl,tb,hl,hd,th,_,rfl,?_⟩;rw[XY hv];refine iteF ?_;exact⟨_,rfl,t,C,dx,fs,_,rfl,ht,Z.cl,Z.na _ (by simp[fields]),hl,_,rfl,d,v,rfl,(by rw[<-hv];exact DGet.k (k:=b9 z) hd),k⟩
theorem VS:FnScope ["self","name"] ["self","name"] (Zf T.m_Table_way_row):=scO
theorem MP(Z:TCl K C)(CP:CanM P w K mg base CX0 2 C "is_way" ["self","thing"] (Xh C "way_by_name"))(D:DfM K C "way_row" "Table.way_row" T.m_Table_way_row ["self","name"]):CanM P w K mg base CX0 3 C "way_row" ["self","name"] (X3 C "way_by_name"):=by refine D.cn VS λf cdv A outer s H vs Q E hr h=>?_;obtain⟨t,z,T',fs,d,kvs,v,rfl,tb,hl,hd,th,hv,k⟩:=h;obtain⟨dx,ht⟩:=id tb.at_;refine⟨_,(Za (ZD (ZH (ZA (ZR CP Z.cl Z1 hr.m (pv 0) (Zh (pv 1) Zj)))) (Ze YF) Zo) (Ze (Zk (YM (ZT hr) (Z4 (pv 0) rfl) (pv 1) (λ_ _=>rfl))))),?_⟩;refine mthV ht (tb.only _ (by decide +kernel)) ⟨_,rfl,t,_,T',fs,d,kvs,rfl,tb,hl,hd,th,_,rfl,?_⟩;rw[XY hv];refine iteF ?_;exact⟨_,rfl,t,C,dx,fs,_,rfl,ht,Z.cl,Z.na _ (by simp[fields]),hl,_,rfl,d,v,rfl,(by rw[<-hv];exact DGet.k (k:=b9 z) hd),k⟩
theorem JW:FnScope ["self","name"] ["self","name"] (Zf T.m_Table_group_row):=scO
theorem Gu(Z:TCl K C)(CP:CanM P w K mg base CX0 2 C "is_group" ["self","thing"] (Xh C "group_by_name"))(D:DfM K C "group_row" "Table.group_row" T.m_Table_group_row ["self","name"]):CanM P w K mg base CX0 3 C "group_row" ["self","name"] (X3 C "group_by_name"):=by refine D.cn JW λf cdv A outer s H vs Q E hr h=>?_;obtain⟨t,z,T',fs,d,kvs,v,rfl,tb,hl,hd,th,hv,k⟩:=h;obtain⟨dx,ht⟩:=id tb.at_;refine⟨_,(Za (ZD (ZH (ZA (ZR CP Z.cl Z1 hr.m (pv 0) (Zh (pv 1) Zj)))) (Ze YF) Zo) (Ze (Zk (YM (ZT hr) (Z4 (pv 0) rfl) (pv 1) (λ_ _=>rfl))))),?_⟩;refine mthV ht (tb.only _ (by decide +kernel)) ⟨_,rfl,t,_,T',fs,d,kvs,rfl,tb,hl,hd,th,_,rfl,?_⟩;rw[XY hv];refine iteF ?_;exact⟨_,rfl,t,C,dx,fs,_,rfl,ht,Z.cl,Z.na _ (by simp[fields]),hl,_,rfl,d,v,rfl,(by rw[<-hv];exact DGet.k (k:=b9 z) hd),k⟩
theorem VT:FnScope ["self","name"] ["self","name"] (Zf T.m_Table_room_of):=scO
theorem MQ(Z:TCl K C)(CP:CanM P w K mg base CX0 2 C "is_place" ["self","thing"] (Xh C "room_by_place"))(D:DfM K C "room_of" "Table.room_of" T.m_Table_room_of ["self","name"]):CanM P w K mg base CX0 3 C "room_of" ["self","name"] (X3 C "room_by_place"):=by refine D.cn VT λf cdv A outer s H vs Q E hr h=>?_;obtain⟨t,z,T',fs,d,kvs,v,rfl,tb,hl,hd,th,hv,k⟩:=h;obtain⟨dx,ht⟩:=id tb.at_;refine⟨_,(Za (ZD (ZH (ZA (ZR CP Z.cl Z1 hr.m (pv 0) (Zh (pv 1) Zj)))) (Ze YF) Zo) (Ze (Zk (YM (ZT hr) (Z4 (pv 0) rfl) (pv 1) (λ_ _=>rfl))))),?_⟩;refine mthV ht (tb.only _ (by decide +kernel)) ⟨_,rfl,t,_,T',fs,d,kvs,rfl,tb,hl,hd,th,_,rfl,?_⟩;rw[XY hv];refine iteF ?_;exact⟨_,rfl,t,C,dx,fs,_,rfl,ht,Z.cl,Z.na _ (by simp[fields]),hl,_,rfl,d,v,rfl,(by rw[<-hv];exact DGet.k (k:=b9 z) hd),k⟩
end
structure Ask(H:Hp)(fs:List (Str×V))(fld:Str)(t:List (List V))(d:Addr)(kvs:Kv):Prop where
 fld:fs.lookup fld=some (.ref d)
 at_:H d=some (.dK kvs)
 yes:∀y∈t,∃a,valV kvs (.inr (nameOf y))=some (.ref a)/\H a=some (.tup y)
 no:∀z,z∉t.map nameOf->valV kvs (.inr z)=none
theorem Qh{H:Hp}{fs:List (Str×V)}{f g:Str}{t:List (List V)}{xs:List V}{k:Kv}(h:Ju H fs f g (prs xs t) k)(r:YT H xs (t.map some))(D:RwDict k t xs):∃d,Ask H fs g t d k:=by
 obtain⟨l,d,ys,rs,a1,a2,a3,a4,a5⟩:=h;refine⟨d,a2,a5,λy hy=>?_,D.no⟩;obtain⟨i,hi⟩:=aZ.mp hy;have hlt:i<t.length:=(aj.mp hi).1;have hx:i<xs.length:=by rw[r.1,lm];exact hlt
 have e1:xs[i]?=some xs[i]:=gE hx;obtain⟨a,ea,ha,_⟩:=r.2 i _ _ e1 (show(t.map some)[i]?=some (some y) by rw[aW,hi];rfl);exact⟨a,by rw[<-ea];exact D.at_ i y _ hi e1,ha⟩
structure Asks(H:Hp)(C t:Addr)(T:Tb)(fs:List (Str×V)):Prop where
 tab:Tab H C t fs
 turns:fs.lookup ("turns":Str)=some (.int T.n)
 r:∃d k,Ask H fs "ride_by_name" T.t2 d k
 w:∃d k,Ask H fs "way_by_name" T.t3 d k
 g:∃d k,Ask H fs "group_by_name" T.t4 d k
 p:∃d k,fs.lookup ("room_by_place":Str)=some (.ref d)/\H d=some (.dK k)/\PlDict k T.t1
theorem XH{H:Hp}{C t:Addr}{T:Tb}(h:Tel H C t T):∃fs,Asks H C t T fs:=by
 obtain⟨fs,x1,x2,x3,x4,k,tp,d⟩:=h;refine⟨fs,tp.tab.tab,tp.tab.turns,?_,?_,?_,?_⟩
 ·obtain⟨dd,a⟩:=Qh tp.tab.r (tp.rows _ (.inr (.inl rfl)) _ _ rfl) d.r;exact⟨dd,_,a⟩
 ·obtain⟨dd,a⟩:=Qh tp.tab.w (tp.rows _ (.inr (.inr (.inl rfl))) _ _ rfl) d.w;exact⟨dd,_,a⟩
 ·obtain⟨dd,a⟩:=Qh tp.tab.g (tp.rows _ (.inr (.inr (.inr rfl))) _ _ rfl) d.g;exact⟨dd,_,a⟩
 ·obtain⟨l,dd,ys,rs,a1,a2,a3,a4,a5⟩:=tp.tab.p;exact⟨dd,_,a2,a5,d.p⟩
theorem Gx{z:Str}(h:Atm (.str z)):GS z:=by cases h with|str h=>exact h
section
variable {T:Tb}(o:OkTb T)
include o
theorem UX{y:List V}(h:y∈T.t2):∃(a b d:Str)(c e f:Int),y=[.str a,.str b,.int c,.str d,.int e,.int f]/\GS a/\GS b/\GS d/\0<=c/\c+1<=e/\e<=T.n/\0<=f/\f<=1000:=by obtain⟨k1,hk⟩:=Mw o;obtain⟨e0,gs⟩:=XU o (j:=2) (.inr (.inl rfl)) h;obtain⟨z,s,lv,g',cm,se,rfl,en,he,a1,a2,b1,b2,c1,c2⟩:=Ri o h hk.has;obtain⟨q1,q2⟩:=NO o hk he;obtain⟨k1',k2',_⟩:=Vw he;obtain⟨x,v,rfl,_⟩:=Yb k1';obtain⟨x',v',rfl,_⟩:=Yb k2';rw[en]at gs;exact⟨z,x,x',lv,cm,se,rfl,gs,Gx q1,Gx q2,a1,b1,b2,c1,c2⟩
theorem GV{y:List V}(h:y∈T.t3):∃(a b c:Str)(d e:Int),y=[.str a,.str b,.str c,.int d,.int e]/\GS a/\GS b/\GS c/\1<=d/\d<=50/\0<=e/\e<=1000:=by obtain⟨k1,hk⟩:=Mw o;obtain⟨e0,gs⟩:=XU o (j:=3) (.inr (.inr (.inl rfl))) h;have r:=UW o (j:=3) (.inr (.inr (.inl rfl))) h;have hw:=r.why k1 (λ_=>hk.has);obtain⟨a,b,c,d,e,rfl⟩:=len5 r.len;obtain⟨he,h1,h2⟩:=WL (hw 0 (λz=>by cases z):wayV k1 b c d e=.non);obtain⟨q1,q2⟩:=NO o hk he;obtain⟨k1',k2',_⟩:=Vw he;obtain⟨x,v,rfl,_⟩:=Yb k1';obtain⟨x',v',rfl,_⟩:=Yb k2';obtain⟨i,rfl,i0,i1⟩:=within_int h1;obtain⟨j,rfl,j0,j1⟩:=within_int h2;have ea:a=.str (nameOf [a,.str x,.str x',.int i,.int j]):=e0;exact⟨_,x,x',i,j,congrArg (λq=>[q,.str x,.str x',.int i,.int j]) ea,gs,Gx q1,Gx q2,i0,i1,j0,j1⟩
theorem Y5{y:List V}(h:y∈T.t4):∃(a b:Str)(c d:Int),y=[.str a,.str b,.int c,.int d]/\GS a/\GS b/\0<=c/\c<=T.n/\0<=d/\d<=300:=by obtain⟨k1,hk⟩:=Mw o;obtain⟨e0,gs⟩:=XU o (j:=4) (.inr (.inr (.inr rfl))) h;have r:=UW o (j:=4) (.inr (.inr (.inr rfl))) h;have hw:=r.why k1 (λ_=>hk.has);obtain⟨a,b,c,d,rfl⟩:=len4 r.len;obtain⟨h1,h2,i,rfl,i0,i1⟩:=Uj (hw (300-ZF [a,b,c,d]) (λ_=>by omega):Xg k1 T.n _ b c d=.non);have q1:=VX o hk h1;obtain⟨x,v,rfl,_⟩:=Yb h1;obtain⟨t,rfl,t0,t1⟩:=within_int h2;have ea:a=.str (nameOf [a,.str x,.int t,.int i]):=e0;exact⟨_,x,t,i,congrArg (λq=>[q,.str x,.int t,.int i]) ea,gs,Gx q1,t0,t1,i0,i1⟩
end
theorem Nr{T:Tb}{x v:V}{j:Nat}{S:Sx}(h:Yo T [.str "out",x,v] j S):∃y∈T.t4,∃i,x=.str (nameOf y)/\v=.int i/\iA y 2<=i/\i<=T.n:=by
 obtain⟨w1,w2,w3,w4,w5,w6⟩:=Jd;rcases h with⟨y,hy,i,e,h1,h2,_⟩|⟨y,hy,e,_⟩|⟨y,hy,i,e,_⟩|⟨y,hy,i,e,_⟩<;>simp only[ez,V.str.injEq,reduceCtorEq,and_true,and_false]at e
 ·exact⟨y,hy,i,e.2.1,e.2.2,h1,h2⟩
 ·exact absurd e.1 w1
 ·exact absurd e.1 w2
theorem GJ{T:Tb}{x v:V}{j:Nat}{S:Sx}(h:Yo T [.str "walk",x,v] j S):∃y∈T.t3,∃i,x=.str (nameOf y)/\v=.int i/\0<=i/\i<=T.n-iA y 3:=by
 obtain⟨w1,w2,w3,w4,w5,w6⟩:=Jd;rcases h with⟨y,hy,i,e,h1,h2,_⟩|⟨y,hy,e,_⟩|⟨y,hy,i,e,h1,h2,_⟩|⟨y,hy,i,e,_⟩<;>simp only[ez,V.str.injEq,reduceCtorEq,and_true,and_false]at e
 ·exact absurd e.1.symm w1
 ·exact⟨y,hy,i,e.2.1,e.2.2,h1,h2⟩
 ·exact absurd e.1 w3
theorem VN{T:Tb}{x v:V}{j:Nat}{S:Sx}(h:Yo T [.str "wait",x,v] j S):∃y∈T.t1,∃i,x=.str (nameOf y)/\v=.int i/\at_ y 1≠.non/\0<=i/\i<=T.n-1:=by
 obtain⟨w1,w2,w3,w4,w5,w6⟩:=Jd;rcases h with⟨y,hy,i,e,h1,h2,_⟩|⟨y,hy,e,_⟩|⟨y,hy,i,e,h1,h2,_⟩|⟨y,hy,i,e,h0,h1,h2,_⟩<;>simp only[ez,V.str.injEq,reduceCtorEq,and_true,and_false]at e
 ·exact absurd e.1.symm w2
 ·exact absurd e.1.symm w3
 ·exact⟨y,hy,i,e.2.1,e.2.2,h0,h1,h2⟩
def Found(T:Tb)(vs:List V)(Cs:Nat->Addr)(H:Hp)(Q:VK):Prop:=(∀j S,Yo T vs j S->∀H' q,Same H H'->Qj H' Cs q j S->Q (.ref q) H')/\((∀j S,¬Yo T vs j S)->∀H',Same H H'->Q .non H')
def spOf(C:Addr)(Cs:Nat->Addr)(z:Str):Sp:=λvs H Q _=>∃(t:Addr)(x v:V)(T:Tb)(T1 T2:String),vs=[.ref t,x,v]/\Tel H C t T/\OkTb T/\Th H x T1/\Th H v T2/\Found T [.str z,x,v] Cs H Q
theorem Jx{H H':Hp}{x dx C:Addr}(hx:H x=none)(hd:H dx=none)(s:Zi x (upd (upd H dx (.own x)) x (.ins C dx [])) H'):Same H H':=λc o e=>by have n1:c≠x:=ne_of_none e hx;have n2:c≠dx:=ne_of_none e hd;exact s c o (by rw[Zc n1,Zc n2];exact e) n1
theorem J7{H:Hp}{x dx C a:Addr}{ys:List V}(hx:H x=none)(hd:H dx=none)(e:H a=some (.tup ys)):upd (upd H dx (.own x)) x (.ins C dx []) a=some (.tup ys):=by rw[Zc (ne_of_none e hx),Zc (ne_of_none e hd)];exact e
theorem Mx{kvs:Kv}{t:List (List V)}{x:V}(hk:∀y∈t,∃a,valV kvs (.inr (nameOf y))=some a)(e:ZM x kvs=false):∀y∈t,x≠.str (nameOf y):=λy hy z=>by obtain⟨a,ha⟩:=hk y hy;rw[z,XY ha]at e;cases e
theorem in_of{kvs:Kv}{t:List (List V)}(no:∀z,z∉t.map nameOf->valV kvs (.inr z)=none){z:Str}{v:V}(h:valV kvs (.inr z)=some v):∃y∈t,nameOf y=z:=by
 by_cases hz:z∈t.map nameOf
 ·obtain⟨y,hy,e⟩:=ai.mp hz;exact⟨y,hy,e⟩
 ·rw[no z hz]at h;cases h
section
variable {P:Program}{w:World}{K:ae}{mg:Str->Option Value}{base:Heap}{C:Addr}{Cs:Nat->Addr}
theorem JP:FnScope ["table","name","turn","row"] ["table","name","turn"] (Zf T.f_set_out_of):=scO
theorem P8(Z:TCl K C)(ZS:∀j,j<4->SCl K (Cs j))(M:SMk P w K mg base "SetOut" (Cs 0) ["self","row","turn"] (spMk K Cs 0 Te))(CG:CanM P w K mg base CX0 2 C "is_group" ["self","thing"] (Xh C "group_by_name"))(CR:CanM P w K mg base CX0 3 C "group_row" ["self","name"] (X3 C "group_by_name"))(CI:Can P w K mg base 2 "is_within" ["thing","low","high"] K1.YD)(D:Df K mg "set_out_of" T.f_set_out_of ["table","name","turn"]):Can P w K mg base 4 "set_out_of" ["table","name","turn"] (spOf C Cs "out"):=by
 obtain⟨fm,fdm,hM,FM,bM⟩:=M.made;refine D.cn JP λf cdv A outer s H vs Q E hr h=>?_;obtain⟨t,x,v,T,T1,T2,rfl,tel,ok,th1,th2,k1,k2⟩:=h;obtain⟨fs,ak⟩:=XH tel;obtain⟨d,kvs,ag⟩:=ak.g;obtain⟨dx,ht⟩:=ak.tab.at_;refine⟨_,(Za (ZD (ZH (ZA (ZR CG Z.cl Z1 hr.m (pv 0) (Zh (pv 1) Zj)))) (Ze (Zk ZZ)) Zo) (Za (st 3 JP.nd (ZR CR Z.cl Z1 hr.m (pv 0) (Zh (pv 1) Zj))) (Ze (Zk (Vi (ZA (cn CI hr (Zh (pv 2) (Zh (it K (pv 3) Zb) (Zh (Z4 (pv 0) rfl) Zj))))) (Vh hM FM hr.m rfl M.mg bM .nil Z1 (Zh (pv 3) (Zh (pv 2) Zj))) ZZ))))),?_⟩;refine mthV ht (ak.tab.only _ (by decide +kernel)) ⟨_,rfl,t,x,T1,fs,d,kvs,rfl,ak.tab,ag.fld,ag.at_,th1,_,rfl,?_⟩;cases e:ZM x kvs with
|false=>refine iteT ?_;refine k2 (λj S h=>?_) H (Same.refl H);obtain⟨y,hy,i,hx,_⟩:=Nr h;exact Mx (λy hy=>let ⟨a,h,_⟩:=ag.yes y hy;⟨_,h⟩) e y hy hx
|true=>
  refine iteF ?_;obtain⟨z,v0,rfl,hv⟩:=Yb e;obtain⟨y,hy,rfl⟩:=in_of ag.no hv;obtain⟨a,ha,hy'⟩:=ag.yes y hy;refine mthV ht (ak.tab.only _ (by decide +kernel)) ⟨_,rfl,t,_,T1,fs,d,kvs,_,rfl,ak.tab,ag.fld,ag.at_,th1,ha,?_⟩;obtain⟨a1,b1,c1,d1,rfl,_⟩:=Y5 ok hy;refine⟨_,rfl,ixT 2 hy' rfl ⟨_,rfl,t,C,dx,fs,_,rfl,ht,Z.cl,Z.na _ (by simp[fields]),ak.turns,v,T2,c1,T.n,rfl,th2,_,rfl,?_⟩⟩;refine XZ (λe2=>?_) (λe2=>?_)
  ·obtain⟨i,rfl,i0,i1⟩:=within_int e2;refine⟨_,rfl,_,rfl,λx' dx' hx' hdx' _=>⟨x',dx',a,_,_,outS _ i,rfl,ZS 0 (by decide),Zd,J7 hx' hdx' hy',⟨a1,b1,_,_,i,rfl,rfl,rfl⟩,λH' s st=>⟨rfl,?_⟩⟩⟩;exact k1 0 _ (.inl ⟨_,hy,i,rfl,i0,i1,rfl,rfl⟩) H' x' (Jx hx' hdx' s) st
  ·refine k2 (λj S h=>?_) H (Same.refl H);obtain⟨y',hy2,i,hx,rfl,i0,i1⟩:=Nr h;injection hx with hx;obtain rfl:=Y1 (Uh ok (j:=4) (.inr (.inr (.inr rfl)))) hy hy2 hx;have:K1.Zu (.int i) c1 T.n=true:=by show(decide (c1<=i)&&decide (i<=T.n))=true;rw[decide_eq_true (show c1<=i from i0),decide_eq_true i1];rfl
   rw[this]at e2;cases e2
theorem VM{i lo hi:Int}(h0:lo<=i)(h1:i<=hi):K1.Zu (.int i) lo hi=true:=by show(decide (lo<=i)&&decide (i<=hi))=true;rw[decide_eq_true h0,decide_eq_true h1];rfl
theorem UQ:FnScope ["table","name","turn","row"] ["table","name","turn"] (Zf T.f_walk_of):=scO
theorem Wq(Z:TCl K C)(ZS:∀j,j<4->SCl K (Cs j))(M:SMk P w K mg base "Walk" (Cs 2) ["self","row","turn"] (spMk K Cs 2 Pm))(CG:CanM P w K mg base CX0 2 C "is_way" ["self","thing"] (Xh C "way_by_name"))(CR:CanM P w K mg base CX0 3 C "way_row" ["self","name"] (X3 C "way_by_name"))(CI:Can P w K mg base 2 "is_within" ["thing","low","high"] K1.YD)(D:Df K mg "walk_of" T.f_walk_of ["table","name","turn"]):Can P w K mg base 4 "walk_of" ["table","name","turn"] (spOf C Cs "walk"):=by
 obtain⟨fm,fdm,hM,FM,bM⟩:=M.made;refine D.cn UQ λf cdv A outer s H vs Q E hr h=>?_;obtain⟨t,x,v,T,T1,T2,rfl,tel,ok,th1,th2,k1,k2⟩:=h;obtain⟨fs,ak⟩:=XH tel;obtain⟨d,kvs,ag⟩:=ak.w;obtain⟨dx,ht⟩:=ak.tab.at_;refine⟨_,(Za (ZD (ZH (ZA (ZR CG Z.cl Z1 hr.m (pv 0) (Zh (pv 1) Zj)))) (Ze (Zk ZZ)) Zo) (Za (st 3 UQ.nd (ZR CR Z.cl Z1 hr.m (pv 0) (Zh (pv 1) Zj))) (Ze (Zk (Vi (ZA (cn CI hr (Zh (pv 2) (Zh Zb (Zh (Zt Xe (Z4 (pv 0) rfl) (it K (pv 3) Zb)) Zj))))) (Vh hM FM hr.m rfl M.mg bM .nil Z1 (Zh (pv 3) (Zh (pv 2) Zj))) ZZ))))),?_⟩;refine mthV ht (ak.tab.only _ (by decide +kernel)) ⟨_,rfl,t,x,T1,fs,d,kvs,rfl,ak.tab,ag.fld,ag.at_,th1,_,rfl,?_⟩;cases e:ZM x kvs with
|false=>refine iteT ?_;refine k2 (λj S h=>?_) H (Same.refl H);obtain⟨y,hy,i,hx,_⟩:=GJ h;exact Mx (λy hy=>let ⟨a,h,_⟩:=ag.yes y hy;⟨_,h⟩) e y hy hx
|true=>
  refine iteF ?_;obtain⟨z,v0,rfl,hv⟩:=Yb e;obtain⟨y,hy,rfl⟩:=in_of ag.no hv;obtain⟨a,ha,hy'⟩:=ag.yes y hy;refine mthV ht (ak.tab.only _ (by decide +kernel)) ⟨_,rfl,t,_,T1,fs,d,kvs,_,rfl,ak.tab,ag.fld,ag.at_,th1,ha,?_⟩;obtain⟨a1,b1,c1,d1,e1,rfl,_⟩:=GV ok hy;refine⟨_,rfl,_,rfl,t,C,dx,fs,_,rfl,ht,Z.cl,Z.na _ (by simp[fields]),ak.turns,ixT 3 hy' rfl ⟨_,_,rfl,rfl,v,T2,0,T.n-d1,rfl,th2,_,rfl,?_⟩⟩;refine XZ (λe2=>?_) (λe2=>?_)
  ·obtain⟨i,rfl,i0,i1⟩:=within_int e2;refine⟨_,rfl,_,rfl,λx' dx' hx' hdx' _=>⟨x',dx',a,_,_,V7 _ i,rfl,ZS 2 (by decide),Zd,J7 hx' hdx' hy',⟨a1,b1,c1,d1,e1,i,rfl,rfl,rfl⟩,λH' s st=>⟨rfl,?_⟩⟩⟩;exact k1 2 _ (.inr (.inr (.inl ⟨_,hy,i,rfl,i0,i1,rfl,rfl⟩))) H' x' (Jx hx' hdx' s) st
  ·refine k2 (λj S h=>?_) H (Same.refl H);obtain⟨y',hy2,i,hx,rfl,i0,i1⟩:=GJ h;injection hx with hx;obtain rfl:=Y1 (Uh ok (j:=3) (.inr (.inr (.inl rfl)))) hy hy2 hx;rw[VM i0 (show i<=T.n-d1 from i1)]at e2;cases e2
theorem UR:FnScope ["table","name","turn","row"] ["table","name","turn"] (Zf T.f_wait_of):=scO
theorem Wr(Z:TCl K C)(ZS:∀j,j<4->SCl K (Cs j))(M:SMk P w K mg base "Wait" (Cs 3) ["self","row","turn"] (spMk K Cs 3 Pn))(CP:CanM P w K mg base CX0 2 C "is_place" ["self","thing"] (Xh C "room_by_place"))(CH:CanM P w K mg base CX0 3 C "is_home" ["self","thing"] (Va C))(CR:CanM P w K mg base CX0 3 C "room_of" ["self","name"] (X3 C "room_by_place"))(CI:Can P w K mg base 2 "is_within" ["thing","low","high"] K1.YD)(D:Df K mg "wait_of" T.f_wait_of ["table","name","turn"]):Can P w K mg base 4 "wait_of" ["table","name","turn"] (spOf C Cs "wait"):=by
 obtain⟨fm,fdm,hM,FM,bM⟩:=M.made;refine D.cn UR λf cdv A outer s H vs Q E hr h=>?_;obtain⟨t,x,v,T,T1,T2,rfl,tel,ok,th1,th2,k1,k2⟩:=h;obtain⟨fs,ak⟩:=XH tel;obtain⟨d,kvs,hl,hd,pd⟩:=ak.p;obtain⟨dx,ht⟩:=ak.tab.at_;refine⟨_,(Za (ZD (PW.pt (Y8 (ZH (ZA (ZR CP Z.cl Z1 hr.m (pv 0) (Zh (pv 1) Zj)))) (Yz (ZA (ZR CH Z.cl Z1 hr.m (pv 0) (Zh (pv 1) Zj)))))) (Ze (Zk ZZ)) Zo) (Za (st 3 UR.nd (ZE (Zh (pv 1) (Zh (ZR CR Z.cl Z1 hr.m (pv 0) (Zh (pv 1) Zj)) Zj)))) (Ze (Zk (Vi (ZA (cn CI hr (Zh (pv 2) (Zh Zb (Zh (Zt Xe (Z4 (pv 0) rfl) Zb) Zj))))) (Vh hM FM hr.m rfl M.mg bM .nil Z1 (Zh (pv 3) (Zh (pv 2) Zj))) ZZ))))),?_⟩;refine mthV ht (ak.tab.only _ (by decide +kernel)) ⟨_,rfl,t,x,T1,fs,d,kvs,rfl,ak.tab,hl,hd,th1,_,rfl,?_⟩;cases e:ZM x kvs with
|false=>refine iteT ?_;refine iteT ?_;refine k2 (λj S h=>?_) H (Same.refl H);obtain⟨y,hy,i,hx,_⟩:=VN h;exact Mx (λy hy=>⟨_,pd.has y hy⟩) e y hy hx
|true=>
  refine iteF ?_;obtain⟨z,v0,rfl,hv⟩:=Yb e;obtain⟨y,hy,rfl⟩:=in_of pd.no hv;have ha:=pd.has y hy;refine mthV ht (ak.tab.only _ (by decide +kernel)) ⟨_,rfl,t,_,T1,fs,d,kvs,rfl,ak.tab,hl,hd,th1,_,rfl,?_⟩;have eh:JQ (.str (nameOf y)) kvs=decide (at_ y 1=.non):=by show decide (valV kvs (.inr (nameOf y))=some .non)=_;rw[ha];simp
  rw[eh];refine XZ (λe3=>?_) (λe3=>?_)
  ·refine k2 (λj S h=>?_) H (Same.refl H);obtain⟨y',hy2,i,hx,rfl,h0,_⟩:=VN h;injection hx with hx;obtain rfl:=Y1 (Uh ok (j:=1) (.inl rfl)) hy hy2 hx;exact h0 (of_decide_eq_true e3)
  ·have h0:at_ y 1≠.non:=of_decide_eq_false e3;refine⟨_,rfl,mthV ht (ak.tab.only _ (by decide +kernel)) ⟨_,rfl,t,_,T1,fs,d,kvs,_,rfl,ak.tab,hl,hd,th1,ha,zl,λa hna=>?_⟩⟩;dsimp only[tNil];refine nl2 hna λH1 S1 e1=>?_;obtain⟨p,rfl,gs,rm⟩:=X6 ok hy;refine⟨_,rfl,_,rfl,t,C,dx,fs,_,rfl,S1 _ _ ht,Z.cl,Z.na _ (by simp[fields]),ak.turns,_,_,rfl,rfl,v,T2,0,T.n-1,rfl,th2.same S1,_,rfl,?_⟩;refine XZ (λe2=>?_) (λe2=>?_)
   ·obtain⟨i,rfl,i0,i1⟩:=within_int e2;refine⟨_,rfl,_,rfl,λx' dx' hx' hdx' _=>⟨x',dx',a,_,_,V8 (plRow p) i,rfl,ZS 3 (by decide),Zd,J7 hx' hdx' e1,⟨_,_,i,rfl,rfl,rfl⟩,λH' s st=>⟨rfl,?_⟩⟩⟩;exact k1 3 _ (.inr (.inr (.inr ⟨_,hy,i,rfl,h0,i0,i1,rfl,rfl⟩))) H' x' (S1.trans (Jx hx' hdx' s)) st
   ·refine k2 (λj S h=>?_) H1 S1;obtain⟨y',hy2,i,hx,rfl,_,i0,i1⟩:=VN h;rw[VM i0 i1]at e2;cases e2
theorem Kz{d:PyData}{b:Str}(h:PyData.eqv d (.str b)=true):d=.str b:=by cases d<;>simp_all[PyData.eqv]
theorem MN(b:Str):PyData.eqv (.str b) (.str b)=true:=by simp[PyData.eqv]
def Itm(H:Hp)(v:V):Prop:=(∃T,Th H v T)/\∃d,Is H v d/\bJ d=true
theorem Du{H:Hp}{u:V}{z:Str}(h:Is H u (.str z)):u=.str z:=by cases h;rfl
theorem Jv{H:Hp}{u:V}{d:PyData}(h:Is H u d)(z:Str):PyData.eqv d (.str z)=decide (u=.str z):=by
 by_cases e:u=.str z
 ·subst e;cases h;rw[MN,decide_eq_true rfl]
 ·rw[decide_eq_false e];cases q:PyData.eqv d (.str z)with
 |false=>rfl
 |true=>exact absurd (Du (Kz q▸h)) e
theorem UJ{T:Tb}{xs:List V}{j:Nat}{S:Sx}(h:Yo T xs j S):xs.length=2/\xs.getD 0 .non=.str "ride"\/xs.length=3/\(xs.getD 0 .non=.str "out"\/xs.getD 0 .non=.str "walk"\/xs.getD 0 .non=.str "wait"):=by
 rcases h with⟨y,_,i,rfl,_⟩|⟨y,_,rfl,_⟩|⟨y,_,i,rfl,_⟩|⟨y,_,i,rfl,_⟩
 ·exact .inr ⟨rfl,.inl rfl⟩
 ·exact .inl ⟨rfl,rfl⟩
 ·exact .inr ⟨rfl,.inr (.inl rfl)⟩
 ·exact .inr ⟨rfl,.inr (.inr rfl)⟩
theorem Rh{T:Tb}{u v:V}{j:Nat}{S:Sx}(h:Yo T [u,v] j S):∃y∈T.t2,v=.str (nameOf y):=by rcases h with⟨y,_,i,e,_⟩|⟨y,hy,e,_⟩|⟨y,_,i,e,_⟩|⟨y,_,i,e,_⟩<;>simp only[ez,reduceCtorEq,and_true,and_false]at e;exact⟨y,hy,e.2⟩
def DR(K:ae)(H:Hp)(x:V):Prop:=∃ty,TyOf K H x ty/\ay K ty (.type "tuple")=some false
def spSN(K:ae)(C:Addr)(Cs:Nat->Addr):Sp:=λvs H Q _=>∃(t:Addr)(x:V)(T:Tb),vs=[.ref t,x]/\Tel H C t T/\OkTb T /\((DR K H x/\∀H',Same H H'->Q .non H')\/∃a xs,x=.ref a/\H a=some (.tup xs)/\xs.length<=1000/\(∀v∈xs,Itm H v)/\Found T xs Cs H Q)
theorem LV{K:ae}:ay K (.type "tuple") (.type "tuple")=some true:=by kernel_rfl
theorem Up:FnScope ["table","key"] ["table","key"] (Zf T.f_step_or_none):=scO
theorem RT(B:∀x∈Blts,mg x=none)(Z:TCl K C)(ZS:∀j,j<4->SCl K (Cs j))(M:SMk P w K mg base "Ride" (Cs 1) ["self","row"] (spMk K Cs 1 Po))(CG:CanM P w K mg base CX0 2 C "is_ride" ["self","thing"] (Xh C "ride_by_name"))(CR:CanM P w K mg base CX0 3 C "ride_row" ["self","name"] (X3 C "ride_by_name"))(C1:Can P w K mg base 4 "set_out_of" ["table","name","turn"] (spOf C Cs "out"))(C2:Can P w K mg base 4 "walk_of" ["table","name","turn"] (spOf C Cs "walk"))(C3:Can P w K mg base 4 "wait_of" ["table","name","turn"] (spOf C Cs "wait"))(D:Df K mg "step_or_none" T.f_step_or_none ["table","key"]):Can P w K mg base 5 "step_or_none" ["table","key"] (spSN K C Cs):=by
 obtain⟨fm,fdm,hM,FM,bM⟩:=M.made;refine D.cn Up λf cdv A outer s H vs Q E hr h=>?_;obtain⟨t,x,T,rfl,tel,ok,h⟩:=h;obtain⟨fs,ak⟩:=XH tel;obtain⟨d,kvs,ag⟩:=ak.r;obtain⟨dx,ht⟩:=ak.tab.at_;refine' ⟨_,(@Za _ _ _ _ _ ?h19 (@Za _ _ _ _ _ ?h20 (@Za _ _ _ _ _ ?h21 (@Za _ _ _ _ _ ?h22 (@Za _ _ _ _ _ ?h23 (@Za _ _ _ _ _ ?h24 (@Ze _ _ _ ?h25))))))),?rd⟩;case' h25=>refine' (Zk ZZ)
 case' h24=>refine' (@ZD _ _ _ _ _ _ _ _ (@Zr _ _ _ _ _ _ _ _ (Mv hr.units) ?h15 ZC (Zw _)) (@Ze _ _ _ ?h18) Zo)
 case' h23=>refine' (@ZD _ _ _ _ _ _ _ _ (@Zr _ _ _ _ _ _ _ _ (Mv hr.units) ?h11 ZC (Zw _)) (@Ze _ _ _ ?h14) Zo)
 case' h22=>refine' (@ZD _ _ _ _ _ _ _ _ (@Zr _ _ _ _ _ _ _ _ (Mv hr.units) ?h7 ZC (Zw _)) (@Ze _ _ _ ?h10) Zo)
 case' h21=>refine' (@ZD _ _ _ _ _ _ _ _ (@Zr _ _ _ _ _ _ _ _ U2 (Zy (r:=rLen K) ZI rfl (bm B) aT (@pa1 _ _ _ (pv 1) (by rfl))) Zb (Zw _)) (@Ze _ _ _ ?h6) Zo)
 case' h20=>refine' (Tp (@ZD _ _ _ _ _ _ _ _ (PW.pt (VV (@Zr _ _ _ _ _ _ _ _ Ug (Zy (r:=rLen K) ZI rfl (bm B) aT (@pa1 _ _ _ (pv 1) (by rfl))) Zb (Zw _)) (VV (@Zr _ _ _ _ _ _ _ _ (Mv hr.units) ?h3 ZC (Zw _)) (Ve (ZA (ZR CG Z.cl Z1 hr.m (pv 0) (@pa1 _ _ _ ?h2 (by rfl)))))))) (@Ze _ _ _ ?h5) Zo))
 case' h19=>refine' (@ZD _ _ _ _ _ _ _ _ (ZH (ZA (YZ (c:="tuple") (pv 1) rfl (bm B) rfl (bm B) YR))) (@Ze _ _ _ ?h1) Zo)
 case' h18=>refine' (Zk (cn C3 hr (@pa3 _ _ _ _ _ _ _ (pv 0) ?h17 ?h16 (by rfl))))
 case' h17=>refine' (@it _ _ _ _ _ _ K (pv 1) Zb (by rfl) (by exact λ_ _=>rfl))
 case' h16=>refine' (@it _ _ _ _ _ _ K (pv 1) Zb (by rfl) (by exact λ_ _=>rfl))
 case' h15=>refine' (@it _ _ _ _ _ _ K (pv 1) Zb (by rfl) (by exact λ_ _=>rfl))
 case' h14=>refine' (Zk (cn C2 hr (@pa3 _ _ _ _ _ _ _ (pv 0) ?h13 ?h12 (by rfl))))
 case' h13=>refine' (@it _ _ _ _ _ _ K (pv 1) Zb (by rfl) (by exact λ_ _=>rfl))
 case' h12=>refine' (@it _ _ _ _ _ _ K (pv 1) Zb (by rfl) (by exact λ_ _=>rfl))
 case' h11=>refine' (@it _ _ _ _ _ _ K (pv 1) Zb (by rfl) (by exact λ_ _=>rfl))
 case' h10=>refine' (Zk (cn C1 hr (@pa3 _ _ _ _ _ _ _ (pv 0) ?h9 ?h8 (by rfl))))
 case' h9=>refine' (@it _ _ _ _ _ _ K (pv 1) Zb (by rfl) (by exact λ_ _=>rfl))
 case' h8=>refine' (@it _ _ _ _ _ _ K (pv 1) Zb (by rfl) (by exact λ_ _=>rfl))
 case' h7=>refine' (@it _ _ _ _ _ _ K (pv 1) Zb (by rfl) (by exact λ_ _=>rfl))
 case' h6=>refine' (Zk ZZ)
 case' h5=>refine' (Zk (Vh hM FM hr.m rfl M.mg bM .nil Z1 (@pa1 _ _ _ (ZR CR Z.cl Z1 hr.m (pv 0) (@pa1 _ _ _ ?h4 (by rfl))) (by rfl))))
 case' h4=>refine' (@it _ _ _ _ _ _ K (pv 1) Zb (by rfl) (by exact λ_ _=>rfl))
 case' h3=>refine' (@it _ _ _ _ _ _ K (pv 1) Zb (by rfl) (by exact λ_ _=>rfl))
 case' h2=>refine' (@it _ _ _ _ _ _ K (pv 1) Zb (by rfl) (by exact λ_ _=>rfl))
 case' h1=>refine' (Zk ZZ)
 rcases h with⟨⟨ty,hty,kt⟩,k⟩|⟨a,xs,rfl,ha,hlen,hit,k1,k2⟩
 ·refine⟨_,rfl,_,_,_,_,rfl,hty,kt,_,rfl,?_⟩;refine iteT ?_;exact k H (Same.refl H)
 refine⟨_,rfl,_,_,_,_,rfl,.tup ha,LV,_,rfl,?_⟩;refine iteF ?_;refine⟨λσ' H'=>σ'=[some (.ref t),some (.ref a)]/\H'=H/\(xs.length≠3->∀j S,¬Yo T xs j S),?_,?_⟩
 ·refine⟨_,rfl,a,_,rfl,.inr (SqT.of ha),rfl,_,rfl,?_⟩;refine XZ (λe=>?_) (λe=>?_)
  ·have h2:xs.length=2:=by have:=of_decide_eq_true e;injection this with this;omega
   obtain⟨u,v,rfl⟩:=len2 h2;obtain⟨⟨T0,th0⟩,d0,is0,sh0⟩:=hit u (by simp);obtain⟨⟨T1,th1⟩,d1,is1,sh1⟩:=hit v (by simp);refine ixT 0 ha rfl ⟨d0,.str "ride",is0,.str _,sh0,by decide +kernel,_,rfl,?_⟩;rw[Jv is0];refine XZ (λe1=>?_) (λe1=>?_)
   ·obtain rfl:=of_decide_eq_true e1;refine mthV ht (ak.tab.only _ (by decide +kernel)) (ixT 1 ha rfl ⟨t,v,T1,fs,d,kvs,rfl,ak.tab,ag.fld,ag.at_,th1,_,rfl,?_⟩);cases e2:ZM v kvs with
   |false=>refine iteF ?_;refine⟨rfl,rfl,λ_ j S h=>?_⟩;obtain⟨y,hy,hx⟩:=Rh h;exact Mx (λy hy=>let ⟨a,h,_⟩:=ag.yes y hy;⟨_,h⟩) e2 y hy hx
   |true=>refine iteT ?_;obtain⟨z,v0,rfl,hv⟩:=Yb e2;obtain⟨y,hy,rfl⟩:=in_of ag.no hv;obtain⟨r,hr',hy'⟩:=ag.yes y hy;obtain⟨a1,b1,c1,d1,e1,f1,rfl,_⟩:=UX ok hy;refine mthV ht (ak.tab.only _ (by decide +kernel)) (ixT 1 ha rfl ⟨t,_,T1,fs,d,kvs,_,rfl,ak.tab,ag.fld,ag.at_,th1,hr',λx' dx' hx' hdx' _=>⟨x',dx',r,_,_,XQ _,rfl,ZS 1 (by decide),Zd,J7 hx' hdx' hy',⟨_,_,_,_,_,_,rfl,rfl,rfl⟩,λH' s st=>⟨rfl,?_⟩⟩⟩);exact k1 1 _ (.inr (.inl ⟨_,hy,rfl,rfl,rfl⟩)) H' x' (Jx hx' hdx' s) st
   ·refine iteF ?_;refine⟨rfl,rfl,λ_ j S h=>?_⟩;rcases UJ h with⟨_,q⟩|⟨q,_⟩
    ·exact of_decide_eq_false e1 q
    ·cases q
  ·refine iteF ?_;refine⟨rfl,rfl,λn j S h=>?_⟩;rcases UJ h with⟨q,_⟩|⟨q,_⟩
   ·rw[q]at e;cases e
   ·exact n q
 rintro σ' H' ⟨rfl,rfl,hn⟩;refine⟨_,rfl,a,_,rfl,.inr (SqT.of ha),rfl,_,rfl,?_⟩;refine XZ (λe=>?_) (λe=>?_)
 ·exact k2 (hn λq=>by rw[q]at e;cases e) H' (Same.refl _)
 have h3:xs.length=3:=by have:=of_decide_eq_true (by simpa using e:decide (V.int (xs.length:Int)=V.int 3)=true);injection this with this;omega
 obtain⟨u,v,r,rfl⟩:=len3 h3;obtain⟨⟨T0,th0⟩,d0,is0,sh0⟩:=hit u (by simp);obtain⟨⟨T1,th1⟩,d1,is1,sh1⟩:=hit v (by simp);obtain⟨⟨T2,th2⟩,d2,is2,sh2⟩:=hit r (by simp);refine ixT 0 ha rfl ⟨d0,.str "out",is0,.str _,sh0,by decide +kernel,_,rfl,?_⟩;rw[Jv is0];refine XZ (λe1=>?_) (λe1=>?_)
 ·obtain rfl:=of_decide_eq_true e1;exact⟨_,rfl,ixT 1 ha rfl (ixT 2 ha rfl ⟨t,v,r,T,T1,T2,rfl,tel,ok,th1,th2,k1,k2⟩)⟩
 refine ixT 0 ha rfl ⟨d0,.str "walk",is0,.str _,sh0,by decide +kernel,_,rfl,?_⟩;rw[Jv is0];refine XZ (λe2=>?_) (λe2=>?_)
 ·obtain rfl:=of_decide_eq_true e2;exact⟨_,rfl,ixT 1 ha rfl (ixT 2 ha rfl ⟨t,v,r,T,T1,T2,rfl,tel,ok,th1,th2,k1,k2⟩)⟩
 refine ixT 0 ha rfl ⟨d0,.str "wait",is0,.str _,sh0,by decide +kernel,_,rfl,?_⟩;rw[Jv is0];refine XZ (λe3=>?_) (λe3=>?_)
 ·obtain rfl:=of_decide_eq_true e3;exact⟨_,rfl,ixT 1 ha rfl (ixT 2 ha rfl ⟨t,v,r,T,T1,T2,rfl,tel,ok,th1,th2,k1,k2⟩)⟩
 refine k2 (λj S h=>?_) H' (Same.refl _);rcases UJ h with⟨q,_⟩|⟨_,q|q|q⟩
 ·cases q
 ·exact of_decide_eq_false e1 q
 ·exact of_decide_eq_false e2 q
 ·exact of_decide_eq_false e3 q
end
noncomputable def Yn(T:Tb)(y:List V):List Sx:=(bh (T.n+1-iA y 2).toNat).map λ(m:Nat)=>outS y (iA y 2+m)
noncomputable def Yg(T:Tb)(y:List V):List Sx:=(bh (T.n+1-iA y 3).toNat).map λ(m:Nat)=>V7 y (0+m)
noncomputable def Yh(T:Tb)(y:List V):List Sx:=if at_ y 1=.non then[]else(bh T.n.toNat).map λ(m:Nat)=>V8 y (0+m)
noncomputable def allS(T:Tb):List Sx:=T.t4.flatMap (Yn T)++T.t2.map XQ++T.t3.flatMap (Yg T)++T.t1.flatMap (Yh T)
noncomputable def XG(S:Sx):PyData:=.tuple [S.tail,S.head,dF S.room,.int S.price]
noncomputable def puts(l:List (Sx×V))(acc:List (List Key×V)):List (List Key×V):=l.foldl (λkvs p=>putK kvs p.1.key p.2) acc
def Dc(H:Hp)(p:Addr)(L:List Sx):Prop:=∃kvs:List (List Key×V),H p=some (.dT kvs)/\kvs.length<=L.length/\(∃vs,bS (λv S=>Is H v (XG S)) vs L/\kvs=puts (L.zip vs) [])/\True
theorem Dc.same{H H':Hp}{p:Addr}{L:List Sx}(s:Same H H')(h:Dc H p L):Dc H' p L:=by obtain⟨kvs,e,l,⟨vs,a,b⟩,_⟩:=h;exact⟨kvs,s _ _ e,l,⟨vs,Paired.mapP a λ_ _ i=>i.same s,b⟩,trivial⟩
theorem Dc.put{H:Hp}{p a:Addr}{kvs:List (List Key×V)}{L:List Sx}{S:Sx}(e:H p=some (.dT kvs))(l:kvs.length<=L.length)(h1:∃vs,bS (λv S=>Is H v (XG S)) vs L/\kvs=puts (L.zip vs) [])(h2:True)(hv:Is H (.ref a) (XG S)):Dc (upd H p (.dT (putK kvs S.key (.ref a)))) p (L++[S]):=by
 have hn:∀xs,H p≠some (.lst xs)/\H p≠some (.tup xs):=λxs=>⟨(λz=>by rw[e]at z;cases z),(λz=>by rw[e]at z;cases z)⟩;obtain⟨vs,r,ek⟩:=h1;refine⟨_,Zd,?_,⟨vs++[.ref a],c7 (Paired.mapP r λ_ _ i=>MM hn i) (MM hn hv),?_⟩,trivial⟩
 ·have:=Xa kvs S.key (.ref a);rw[av];show _<=L.length+1;omega
 ·rw[List.zip_append (by rw[aR r])];unfold puts;rw[List.foldl_append,ek];rfl
theorem _root_.WD.RowsAt.keepB{b:Addr}{H H':Hp}{l p:Addr}{rows:List (List V)}(h:RowsAt b H l rows)(hp:H p=none)(s:Zi p H H'):RowsAt b H' l rows:=by obtain⟨n,as,e,hl,r⟩:=h;exact⟨n,as,s _ _ e (ne_of_none e hp),hl,λi a q h1 h2=>⟨(r i a q h1 h2).1,s _ _ (r i a q h1 h2).2 (ne_of_none (r i a q h1 h2).2 hp)⟩⟩
theorem V2{f:List V->List Sx}{t:List (List V)}{i:Nat}(hi:i<t.length):(t.take (i+1)).flatMap f=(t.take i).flatMap f++f t[i]:=by rw[aV,gE hi,dQ];simp
theorem map_take{f:List V->Sx}{t:List (List V)}{i:Nat}(hi:i<t.length):(t.take (i+1)).map f=(t.take i).map f++[f t[i]]:=by rw[aV,gE hi,aE];rfl
theorem JY{f:Nat->Sx}{n i:Nat}(hi:i<n):(((bh n).map f).take (i+1))=((bh n).map f).take i++[f i]:=by rw[aV,aW,List.getElem?_range hi];rfl
theorem Vv{f:List V->List Sx}{m:Nat}:∀{t:List (List V)},(∀y∈t,(f y).length<=m)->(t.flatMap f).length<=t.length*m
|[],_=>by simp
|y::t,h=>by
  rw[List.flatMap_cons,av,aU];have h1:=h y (by simp);have h2:=Vv (f:=f) (m:=m) (t:=t) λz hz=>h z (by simp[hz]);have:(t.length+1)*m=t.length*m+m:=by rw[Nat.add_mul,Nat.one_mul]
  omega
theorem YS{T:Tb}(o:OkTb T){S:Sx}(h:S∈allS T):∃j,Yo T (S.key.map kV) j S:=by
 unfold allS at h;simp only[aK,cy,ai]at h;rcases h with((⟨y,hy,h⟩|⟨y,hy,rfl⟩)|⟨y,hy,h⟩)|⟨y,hy,h⟩
 ·unfold Yn at h;obtain⟨m,hm,rfl⟩:=ai.mp h;rw[cj]at hm;exact⟨0,.inl ⟨y,hy,_,rfl,by omega,by omega,rfl,rfl⟩⟩
 ·exact⟨1,.inr (.inl ⟨y,hy,rfl,rfl,rfl⟩)⟩
 ·unfold Yg at h;obtain⟨m,hm,rfl⟩:=ai.mp h;rw[cj]at hm;exact⟨2,.inr (.inr (.inl ⟨y,hy,_,rfl,by omega,by omega,rfl,rfl⟩))⟩
 ·unfold Yh at h;split at h
  ·cases h
  rename_i hne;obtain⟨m,hm,rfl⟩:=ai.mp h;rw[cj]at hm;exact⟨3,.inr (.inr (.inr ⟨y,hy,_,rfl,hne,by omega,by omega,rfl,rfl⟩))⟩
theorem Nq{T:Tb}(o:OkTb T){y:List V}(h:y∈T.t4):(Yn T y).length<=51:=by obtain⟨a,b,c,d,rfl,_,_,h0,_⟩:=Y5 o h;have:=o.n1;unfold Yn;rw[lm,dB];show(T.n+1-c).toNat<=51;omega
theorem GI{T:Tb}(o:OkTb T){y:List V}(h:y∈T.t3):(Yg T y).length<=51:=by obtain⟨a,b,c,d,e,rfl,_,_,_,h0,_⟩:=GV o h;have:=o.n1;unfold Yg;rw[lm,dB];show(T.n+1-d).toNat<=51;omega
theorem GK{T:Tb}(o:OkTb T){y:List V}:(Yh T y).length<=51:=by
 have:=o.n1;unfold Yh;split
 ·exact Nat.zero_le _
 rw[lm,dB];omega
theorem Jf{T:Tb}(o:OkTb T):T.t1.length<=14/\T.t2.length<=80/\T.t3.length<=40/\T.t4.length<=300:=⟨(o.part 1 (.inl rfl)).1,(o.part 2 (.inr (.inl rfl))).1,(o.part 3 (.inr (.inr (.inl rfl)))).1,(o.part 4 (.inr (.inr (.inr rfl)))).1⟩
theorem QC{T:Tb}(o:OkTb T):(T.t4.flatMap (Yn T)).length<=15300/\(T.t2.map XQ).length<=80/\(T.t3.flatMap (Yg T)).length<=2040/\(T.t1.flatMap (Yh T)).length<=714:=by obtain⟨h1,h2,h3,h4⟩:=Jf o;have a:=Vv (f:=Yn T) (m:=51) (t:=T.t4) λy hy=>Nq o hy;have b:=Vv (f:=Yg T) (m:=51) (t:=T.t3) λy hy=>GI o hy;have c:=Vv (f:=Yh T) (m:=51) (t:=T.t1) λy hy=>GK o;refine⟨by omega,by rw[lm];exact h2,by omega,by omega⟩
theorem UI{f:List V->List Sx}{t:List (List V)}(i:Nat):((t.take i).flatMap f).length<=(t.flatMap f).length:=by
 conv=>rhs;rw[<-eI i t,dQ,av]
 exact Nat.le_add_right _ _
def NL(d:PyData):Prop:=(∃a,d=.str a)\/∃a i,d=.tuple [.str a,.int i]
theorem Ny{T:Tb}{ks:List V}{j:Nat}{S:Sx}(h:Yo T ks j S):NL S.tail/\NL S.head:=by
 rcases h with⟨y,_,i,e,_,_,rfl,rfl⟩|⟨y,_,e,rfl,rfl⟩|⟨y,_,i,e,_,_,rfl,rfl⟩|⟨y,_,i,e,_,_,_,rfl,rfl⟩
 ·exact⟨.inl ⟨_,rfl⟩,.inr ⟨_,_,rfl⟩⟩
 ·exact⟨.inr ⟨_,_,rfl⟩,.inr ⟨_,_,rfl⟩⟩
 ·exact⟨.inr ⟨_,_,rfl⟩,.inr ⟨_,_,rfl⟩⟩
 ·exact⟨.inr ⟨_,_,rfl⟩,.inr ⟨_,_,rfl⟩⟩
theorem NK{H H':Hp}{v:V}{d:PyData}(n:NL d)(ht:∀c xs,H c=some (.tup xs)->H' c=some (.tup xs))(h:Is H v d):Is H' v d:=by
 rcases n with⟨a,rfl⟩|⟨a,i,rfl⟩
 ·cases h with
 |str=>exact .str _
 ·cases h with
 |tup e r=>
   cases r with
  |cons h1 r=>
   cases r with
  |cons h2 r=>
   cases r;cases h1;cases h2;exact .tup (ht _ _ e) (.cons (.str _) (.cons (.int _) .nil))
theorem Wg:GS "out"/\GS "ride"/\GS "walk"/\GS "wait"/\GS "step":=by decide +kernel
theorem Ys{i:Int}(h0:-1000<=i)(h1:i<=1000):Atm (.int i):=.int (by omega)
structure Small(S:Sx):Prop where
 key:RowG (S.key.map kV)
 tell:Sm (XG S) 2 200000
theorem JU{a b:V}(ha:Atm a)(hb:Atm b):Sm (.tuple [dF a,dF b]) 1 100:=by
 refine(SmAll.tup (ds:=[dF a,dF b]) (n:=2) (SmAll.of (k:=0) (m:=12) λd hd=>?_) (Nat.le_refl 2)).mono (by decide) (by decide);simp only[ar,aP,or_false]at hd;rcases hd with rfl|rfl
 ·exact ha.sm
 ·exact hb.sm
theorem UA{a b c d:PyData}(ha:Sm a 1 100)(hb:Sm b 1 100)(hc:Sm c 0 12)(hd:Sm d 0 12):Sm (.tuple [a,b,c,d]) 2 200000:=by
 refine(SmAll.tup (ds:=[a,b,c,d]) (n:=4) (SmAll.of (k:=1) (m:=100) λe he=>?_) (Nat.le_refl 4)).mono (by decide) (by decide);simp only[ar,aP,or_false]at he;rcases he with rfl|rfl|rfl|rfl
 ·exact ha
 ·exact hb
 ·exact hc.mono (by decide) (by decide)
 ·exact hd.mono (by decide) (by decide)
theorem T8{ks:List Key}(hl:ks.length<=6)(h:∀k∈ks,Atm (kV k)):RowG (ks.map kV):=⟨by rw[lm];exact hl,λy hy=>by obtain⟨k,hk,rfl⟩:=ai.mp hy;exact h k hk⟩
theorem VP{a b:Str}{i:Int}(ha:GS a)(hb:GS b)(hi:Atm (.int i)):RowG ([b9 a,.inr b,.inl i].map kV):=T8 (Nat.le_of_ble_eq_true rfl) λk hk=>by
 simp only[ar,aP,or_false]at hk;rcases hk with rfl|rfl|rfl
 ·exact .str ha
 ·exact .str hb
 ·exact hi
theorem Yo.small{T:Tb}(o:OkTb T){vs:List V}{j:Nat}{S:Sx}(h:Yo T vs j S):Small S:=by
 obtain⟨g1,g2,g3,g4,_⟩:=Wg;have n0:=o.n0;have n1:=o.n1;rcases h with⟨y,hy,i,e,h1,h2,_,rfl⟩|⟨y,hy,e,_,rfl⟩|⟨y,hy,i,e,h1,h2,_,rfl⟩|⟨y,hy,i,e,h0,h1,h2,_,rfl⟩
 ·obtain⟨a,b,c,d,rfl,ga,gb,c0,c1,_⟩:=Y5 o hy;have hi:Atm (.int i):=Ys (by have:c<=i:=h1;omega) (by omega);exact⟨VP g1 ga hi,UA ((Atm.str ga).sm.mono (by decide) (by decide)) (JU (.str gb) hi) Atm.non.sm (Ys (i:=0) (by decide) (by decide)).sm⟩
 ·obtain⟨a,b,d,c,e',f,rfl,ga,gb,gd,c0,c1,c2,f0,f1⟩:=UX o hy;refine⟨T8 (Nat.le_of_ble_eq_true rfl) λk hk=>?_,UA (JU (.str gb) (Ys (i:=c) (by omega) (by omega))) (JU (.str gd) (Ys (i:=e') (by omega) (by omega))) (Ys (i:=f) (by omega) (by omega)).sm (Ys (i:=e'-c) (by omega) (by omega)).sm⟩;have hk:k∈[(b9 "ride":Key),.inr a]:=hk;simp only[ar,aP,or_false]at hk;rcases hk with rfl|rfl
  ·exact .str g2
  ·exact .str ga
 ·obtain⟨a,b,c,d,e',rfl,ga,gb,gc,d0,d1,e0,e1⟩:=GV o hy;have h2':i<=T.n-d:=h2;have hi:Atm (.int i):=Ys (by omega) (by omega);exact⟨VP g3 ga hi,UA (JU (.str gb) hi) (JU (.str gc) (Ys (i:=i+d) (by omega) (by omega))) (Ys (i:=e') (by omega) (by omega)).sm (Ys (i:=d) (by omega) (by omega)).sm⟩
 ·obtain⟨⟨z,r⟩,rfl,gz,hr⟩:=X6 o hy;have hi:Atm (.int i):=Ys (by omega) (by omega);refine⟨VP g4 gz hi,UA (JU (.str gz) hi) (JU (.str gz) (Ys (i:=i+1) (by omega) (by omega))) ?_ (Ys (i:=1) (by decide) (by decide)).sm⟩;cases r with
 |none=>exact Atm.non.sm
 |some r=>have:=hr r rfl;exact(Ys (i:=r) (by omega) (by omega)).sm
theorem Atm.lay{v:V}(h:Atm v):(dF v).canLay0=true:=by
 cases h with
|non=>rfl
|int h=>rfl
|str h=>show(Array.all _ _)=true;rw[Array.all_eq_true'];intro c hc;simpa using h.2 c (by simpa using hc)
theorem KP{H:Hp}{v:V}(h:Atm v):Itm H v:=by
 refine⟨?_,dF v,h.is,?_⟩
 ·cases h with
 |non=>exact⟨_,.non⟩
 |int h=>exact⟨_,.int _⟩
 |str h=>exact⟨_,.str _ (Nat.le_trans h.1 (by decide))⟩
 ·unfold bJ;rw[Atm.lay h,decide_eq_true (Nat.le_trans h.sm.dp (by decide))];rfl
end SX
namespace L2
open PySem PySem.Spec PyProof.Rows
noncomputable abbrev MK:=Key ⊕ List Key
section
variable (P:Program)(w:World)
noncomputable def mIs(h:Heap):MK->Value->Prop
|.inl k,v=>(Zv P w).is k v=true
|.inr ks,v=>∃a,v=.ref a/\(bG (Zv P w)).is h ks a
noncomputable def mH:MK->Int
|.inl k=>(Zv P w).hash k
|.inr ks=>(bG (Zv P w)).hash ks
noncomputable def mD:MK->Nat
|.inl _=>1
|.inr ks=>(bG (Zv P w)).draws ks
noncomputable def mE(x:MK×Value×Value):DictEntry:=⟨mH P w x.1,x.2.1,x.2.2⟩
end
section
variable {P:Program}{w:World}{A:br}{E:Value->ah->Prop}{s:ah}
theorem Kp{h:Heap}{k:MK}{v:Value}(x:mIs P w h k v):(∃i t,v=.int i t)\/(∃i t,v=.str i t)\/∃a,v=.ref a:=by
 rcases k with k|ks
 ·rcases ZO x with⟨i,t,_,e⟩|⟨y,t,_,e⟩
  ·exact .inl ⟨_,_,e⟩
  ·exact .inr (.inl ⟨_,_,e⟩)
 ·obtain⟨a,e,_⟩:=x;exact .inr (.inr ⟨a,e⟩)
theorem K9{h:Heap}{v:Value}{a b:MK}(x:mIs P w h a v)(y:mIs P w h b v):a=b:=by
 rcases a with a|a<;>rcases b with b|b
 ·rw[(Zv P w).inj v a b x y]
 ·obtain⟨c,rfl,_⟩:=y;rcases ZO x with⟨_,_,_,e⟩|⟨_,_,_,e⟩<;>cases e
 ·obtain⟨c,rfl,_⟩:=x;rcases ZO y with⟨_,_,_,e⟩|⟨_,_,_,e⟩<;>cases e
 ·obtain⟨c,rfl,p⟩:=x;obtain⟨c',e,q⟩:=y;cases e;rw[(bG (Zv P w)).inj p q]
theorem Pz{k:MK}{v:Value}{Q:Int->ah->Prop}(hu:A.units<cLine)(x:mIs P w s.heap k v)(h:Q (mH P w k) {s with toks:=s.toks+mD P w k}):wpAny (model P w) A (pyHash v) Q E s:=by
 rcases k with k|ks
 ·exact(Zv P w).pyHash x h
 ·obtain⟨a,rfl,p⟩:=x;exact(bG (Zv P w)).pyHash hu p h
theorem K7{h:Heap}{ks:List Key}{a:Addr}(p:(bG (Zv P w)).is h ks a):∃items,h.IsTuple a items:=by obtain⟨o,items,n,h1,h2,h3,_⟩:=p;exact⟨items,o,h1,h2,n,h3⟩
theorem m_eq{x y:MK}{u v:Value}{Q:Bool->ah->Prop}(hu:A.units<cLine)(hx:mIs P w s.heap x u)(hy:mIs P w s.heap y v)(h:Q (decide (x=y)) s):wpAny (model P w) A (eqBool u v) Q E s:=by
 rcases x with a|a<;>rcases y with b|b
 ·refine(Zv P w).eqBool hx hy ?_;rwa [show decide (a=b)=decide ((gx a:MK)=.inl b)from by by_cases e:a=b<;>simp[e]]
 ·obtain⟨c,rfl,p⟩:=hy;obtain⟨its,it⟩:=K7 p;rw[decide_eq_false (λq=>nomatch q)]at h;rcases ZO hx with⟨i,t,_,rfl⟩|⟨i,t,_,rfl⟩
  ·exact SeqAt.EqAt.int_tuple i t it hu _ _ _ _ h
  ·exact SeqAt.EqAt.str_tuple i t it hu _ _ _ _ h
 ·obtain⟨c,rfl,p⟩:=hx;obtain⟨its,it⟩:=K7 p;rw[decide_eq_false (λq=>nomatch q)]at h;rcases ZO hy with⟨i,t,_,rfl⟩|⟨i,t,_,rfl⟩
  ·exact SeqAt.EqAt.tuple_int i t it hu _ _ _ _ h
  ·exact SeqAt.EqAt.tuple_str i t it hu _ _ _ _ h
 ·obtain⟨c,rfl,p⟩:=hx;obtain⟨d,rfl,q⟩:=hy;refine(bG (Zv P w)).eqBool hu p q ?_;rwa [show decide (a=b)=decide ((b9 a:MK)=.inr b)from by by_cases e:a=b<;>simp[e]]
theorem QO{k:MK}{v:Value}{Q:Bool->ah->Prop}(x:mIs P w s.heap k v)(h:Q true s):wpAny (model P w) A (eqIsQuiet 8 v) Q E s:=by
 rcases k with k|ks
 ·rw[eqIsQuiet_byValue _ ((Zv P w).byValue k v x)];exact af h
 ·obtain⟨a,rfl,p⟩:=x;exact(bG (Zv P w)).quiet p h
theorem Ko{key:Value}{k:MK}{stored:List Value}{Q:Bool->ah->Prop}(hkey:mIs P w s.heap k key)(hst:∀v∈stored,∃k',mIs P w s.heap k' v)(h:Q false s):wpAny (model P w) A (tableMayTell key stored) Q E s:=by
 unfold tableMayTell;split
 ·exact af h
 ·refine aa (QO hkey ?_);simp only[Bool.not_true,Bool.false_eq_true,if_false];refine aa ?_;refine f9 _ (λrest r s'=>s'=s/\r=(none,())/\∀v∈rest,∃k',mIs P w s.heap k' v) _ ?_ ?_ _ _ ⟨rfl,rfl,hst⟩
  ·rintro x rest r s' ⟨rfl,rfl,hr⟩;obtain⟨k',hb⟩:=hr x aA;refine aa (QO hb ?_);simp only[Bool.not_true,Bool.false_eq_true,if_false];exact af ⟨rfl,rfl,λv hv=>hr v (aq _ hv)⟩
  ·rintro r s' ⟨rfl,rfl,_⟩;exact af h
theorem K8{h:Heap}{k:MK}{x:Str}{t:Tok}{v:Value}(p:mIs P w h k (.str x t)):(v.isStr x=true)↔mIs P w h k v:=by
 rcases k with k|ks
 ·show _↔(Zv P w).is k v=true;rw[(Zv P w).strs k x t v p]
 ·obtain⟨a,e,_⟩:=p;cases e
theorem NG{es:Array DictEntry}{xs:List (MK×Value×Value)}(he:es.toList=xs.map (mE P w))(j:Nat):es[j]?=(xs[j]?).map (mE P w):=by rw[<-d_,he,aW]
theorem MB{es:Array DictEntry}{xs:List (MK×Value×Value)}(he:es.toList=xs.map (mE P w)):es.size=xs.length:=by rw[<-bz,he,lm]
theorem LP{xs:List (MK×Value×Value)}(hn:(xs.map (·.1)).Nodup):∀{i j:Nat}{k:MK}{p q:Value×Value},xs[i]?=some (k,p)->xs[j]?=some (k,q)->i=j:=by
 intro i j k p q hi hj;have hi':(xs.map (·.1))[i]?=some k:=by rw[aW,hi];rfl
 have hj':(xs.map (·.1))[j]?=some k:=by rw[aW,hj];rfl
 exact(List.getElem?_inj (aj.mp hi').1 hn).mp (hi'.trans hj'.symm)
theorem QT{α:Type}{M:Model}{c:Prop}[Decidable c]{a b:Sem α}{Q:α->ah->Prop}(h1:wpAny M A a Q E s)(h2:wpAny M A b Q E s):wpAny M A (if c then a else b) Q E s:=by split<;>assumption
theorem U9{α:Type}{M:Model}{c:Prop}[Decidable c]{t:Sem Bool}{f:Bool->Sem α}{Q:α->ah->Prop}(h1:wpAny M A (f false) Q E s)(h2:∀Q':Bool->ah->Prop,Q' false s->wpAny M A t Q' E s):wpAny M A (if c then(pure false >>= f)else(t >>= f)) Q E s:=QT (aa (af h1)) (aa (h2 _ h1))
theorem share{α:Type}{M:Model}{C:Value->Prop}{F:Value->Sem α}{Q:α->ah->Prop}{g:Prop}(G:(∀kk,C kk->wpAny M A (F kk) Q E s)->g)(H:∀kk,C kk->wpAny M A (F kk) Q E s):g:=G H
theorem LR{xs:List (MK×Value×Value)}{k:MK}{f:Nat->Bool}{i x:Nat}{hit:Option Nat}(haskey:∀(j:Nat)(p:Value×Value),xs[j]?=some (k,p)->f j=true)(hskip:∀j,i<=j->j<x->f j=false)(hH:(hit=none/\∀j p,j<i->xs[j]?≠some (k,p))\/∃j p,hit=some j/\j<i/\xs[j]?=some (k,p))(hix:i<=x:=by assumption):(hit=none/\∀j p,j<x->xs[j]?≠some (k,p))\/∃j p,hit=some j/\j<x/\xs[j]?=some (k,p):=by
 rcases hH with⟨h0,hno⟩|⟨j,p,h1,hji,hj⟩
 ·refine .inl ⟨h0,λj p hjx hj=>?_⟩;rcases Nat.lt_or_ge j i with h|h
  ·exact hno j p h hj
  ·have:=hskip j h hjx;rw[haskey j p hj]at this;exact absurd this (by decide)
 ·exact .inr ⟨j,p,h1,by omega,hj⟩
theorem LQ{xs:List (MK×Value×Value)}{k k':MK}{x:Nat}{hit:Option Nat}{b v':Value}(hkv:xs[x]?=some (k',b,v'))(hne:¬k'=k)(hHx:(hit=none/\∀j p,j<x->xs[j]?≠some (k,p))\/∃j p,hit=some j/\j<x/\xs[j]?=some (k,p)):(hit=none/\∀j p,j<x+1->xs[j]?≠some (k,p))\/∃j p,hit=some j/\j<x+1/\xs[j]?=some (k,p):=by
 rcases hHx with⟨h0,hno⟩|⟨j,p,h1,hjx,hj⟩
 ·refine .inl ⟨h0,λj p hjx hj=>?_⟩;rcases Nat.lt_or_ge j x with h|h
  ·exact hno j p h hj
  ·have hjx':j=x:=by omega
   subst hjx';rw[hkv]at hj;injection hj with hj;injection hj with hj;exact hne hj
 ·exact .inr ⟨j,p,h1,by omega,hj⟩
theorem m_find{d:Addr}{key:Value}{o:Obj}{es ep}{xs:List (MK×Value×Value)}{k:MK}{Q:Option Nat->ah->Prop}(hu:A.units<cLine)(hkey:mIs P w s.heap k key)(ho:s.heap.get? d=some o)(hd:o.data=.dict es ep)(he:es.toList=xs.map (mE P w))(his:∀x∈xs,mIs P w s.heap x.1 x.2.1)(hn:(xs.map (·.1)).Nodup)(hnone:(∀(j:Nat)(p:Value×Value),xs[j]?≠some (k,p))->Q none s)(hsome:∀(j:Nat)(p:Value×Value),xs[j]?=some (k,p)->Q (some j) s):wpAny (model P w) A (dictFind d key (mH P w k)) Q E s:=by
 have hsz:es.size=xs.length:=MB he;have haskey:∀(j:Nat)(p:Value×Value),xs[j]?=some (k,p)->((es[j]?.map (·.hash))==some (mH P w k))=true:=by intro j p hj;rw[NG he j,hj];simp[mE]
 have hmem:∀e∈es,∃x∈xs,e=mE P w x:=by intro e hin;have:e∈xs.map (mE P w):=he▸eT.mpr hin;obtain⟨x,hx,rfl⟩:=ai.mp this;exact⟨x,hx,rfl⟩
 have hat:∀x,x<es.size->∃k' b v',xs[x]?=some (k',b,v')/\mIs P w s.heap k' b/\es[x]?=some ⟨mH P w k',b,v'⟩:=by intro x hlt;obtain⟨⟨k',b,v'⟩,hkv⟩:∃y,xs[x]?=some y:=⟨xs[x]'(by rw[<-hsz];exact hlt),gE _⟩;exact⟨k',b,v',hkv,his _ (a_ hkv),by rw[NG he x,hkv];rfl⟩
 have hany:¬(es.any λe=>e.key==key&&e.hash != mH P w k)=true:=by rw[<-Array.any_toList,fM];rintro ⟨e,hin,hc⟩;obtain⟨x,hx,rfl⟩:=hmem e (eT.mp hin);simp only[mE,Bool.and_eq_true,beq_iff_eq,bne_iff_ne,ne_eq]at hc;obtain⟨hxa,hne⟩:=hc;have:=his x hx;rw[hxa]at this;exact hne (by rw[K9 this hkey])
 have hst:∀v∈(gY es.size (λi=>es[i]?.map (·.hash)) (mH P w k)).filterMap (λi=>es[i]?.map (·.key)),∃k',mIs P w s.heap k' v:=by
  intro v hv;obtain⟨i,_,hi⟩:=gS.mp hv;cases hei:es[i]? with
 |none=>rw[hei]at hi;cases hi
 |some e=>
   rw[hei]at hi;obtain rfl:e.key=v:=by simpa using hi
   obtain⟨x,hx,rfl⟩:=hmem e (Array.mem_of_getElem? hei);exact⟨x.1,his x hx⟩
 have nolate:∀i,(∀j p,j<i->xs[j]?≠some (k,p))->(∀j,i<=j->j<es.size->((es[j]?.map (·.hash))==some (mH P w k))=false)->Q none s:=by
  intro i hno hall;refine hnone λj p hj=>?_;rcases Nat.lt_or_ge j i with h|h
  ·exact hno j p h hj
  ·have hjl:j<es.size:=by
    rw[hsz];rcases Nat.lt_or_ge j xs.length with h'|h'
    ·exact h'
    ·rw[dr h']at hj;exact nomatch hj
   have:=hall j h hjl;rw[haskey j p hj]at this;exact absurd this (by decide)
 have plain:wpAny (model P w) A (dictWalkPlain d key (mH P w k) es (gY es.size (λi=>es[i]?.map (·.hash)) (mH P w k))) Q E s:=by
  refine aa ?_;refine f9 _ (λrest b s'=>s'=s/\b=(none,())/\∃i,rest=(gi i (es.size-i)).filter (λi=>(es[i]?.map (·.hash))==some (mH P w k))/\i<=es.size /\∀j p,j<i->xs[j]?≠some (k,p)) _ ?_ ?_ _ _ ⟨rfl,rfl,0,by rw[gY,List.range_eq_range',Nat.sub_zero],Nat.zero_le _,λ_ _ h=>absurd h (Nat.not_lt_zero _)⟩
  ·rintro x rest b s' ⟨rfl,rfl,i,hr,hi,hno⟩;obtain⟨hix,hxn,hpx,hskip,hrest⟩:=filter_range'_cons _ _ _ _ _ hr.symm;have hlt:x<es.size:=by omega
   obtain⟨k',b,v',hkv,hib,hex⟩:=hat x hlt;have hnext:¬k'=k->∃i,rest=(gi i (es.size-i)).filter (λi=>(es[i]?.map (·.hash))==some (mH P w k))/\i<=es.size /\∀j p,j<i->xs[j]?≠some (k,p):=λhne=>
    ⟨x+1,by rw[hrest];congr 2;omega,hlt,λj p hji hj=>by
     rcases Nat.lt_or_ge j i with h|h
     ·exact hno j p h hj
     ·rcases Nat.lt_or_ge j x with h'|h'
      ·have:=hskip j h h';rw[haskey j p hj]at this;exact absurd this (by decide)
      ·have:j=x:=by omega
       subst this;rw[hkv]at hj;injection hj with hj;injection hj with hj;exact hne hj⟩
   rw[hex];dsimp only;by_cases hh:(mH P w k'==mH P w k)=true
   ·rw[if_pos hh];refine aa (bg ho hd (aa (m_eq (x:=k') (y:=k) hu hib hkey (aa (bg ho hd ?_)))));show wpAny _ _ (if(ep != ep)=true then _ else _) _ E _;rw[if_neg (by simp)];by_cases hkk:k'=k
    ·rw[decide_eq_true hkk];subst hkk;exact aa (dS (af (af (hsome x _ hkv))))
    ·rw[decide_eq_false hkk];exact aa (dS (af ⟨rfl,rfl,hnext hkk⟩))
   ·rw[if_neg hh];refine af ⟨rfl,rfl,hnext ?_⟩;intro hkk;rw[hkk]at hh;simp at hh
  ·rintro b s' ⟨rfl,rfl,i,hr,hi,hno⟩;refine af (nolate i hno λj h1 h2=>?_);have:=fU.mp hr.symm j (List.mem_range'_1.mpr ⟨h1,by omega⟩);simpa using this
 have byS:∀x t,key=.str x t->wpAny (model P w) A (foundByValue d key es x) Q E s:=by
  intro x t ek;subst ek;unfold foundByValue;cases hf:es.findIdx? (λe=>e.key.isStr x)with
 |none=>
   refine af (hnone λj p hj=>?_);have q:=Array.findIdx?_eq_none_iff.mp hf (mE P w (k,p)) (by
    have z:es[j]?=some (mE P w (k,p)):=by rw[NG he j,hj];rfl
    exact Array.mem_of_getElem? z);rw[(K8 hkey (v:=(mE P w (k,p)).key)).mpr (his _ (a_ hj))]at q;cases q
 |some i=>
   obtain⟨hlt,hi,_⟩:=Array.findIdx?_eq_some_iff_getElem.mp hf;obtain⟨k',b,v',hkv,hib,hex⟩:=hat i hlt;have ee:es[i]=⟨mH P w k',b,v'⟩:=by rw[Array.getElem?_eq_getElem hlt]at hex;exact aB hex
   rw[ee]at hi;have hkk:k'=k:=K9 hib ((K8 hkey).mp hi);simp only[hex];refine aa (bg ho hd (aa (m_eq (x:=k') (y:=k) hu hib hkey (aa (bg ho hd ?_)))));show wpAny _ _ (if(ep != ep)=true then _ else _) _ E _;rw[if_neg (by simp),decide_eq_true hkk];subst hkk;exact aa (dS (af (hsome i _ hkv)))
 unfold dictFind;try with_reducible refine aX ?_
 refine aa (aY ho hd ?_);refine share (C:=mIs P w s.heap k) (Q:=Q) (E:=E) (A:=A) (M:=model P w) (s:=s) (λHH=>by
  rcases Kp hkey with⟨i,t,ek⟩|⟨x,t,ek⟩|⟨a,ek⟩<;>rw[ek]<;>dsimp only<;>rw[<-ek];case' inr.inl=>refine QT (byS x t ek) ?_
  case' inr.inr=>rw[if_neg (by rw[ek];simp[carriedByValue]),if_neg hany]
  case' inl=>refine QT plain ?_
  case' inr.inl=>refine QT plain ?_
  all_goals
   refine U9 ?_ (λQ' h=>Ko hkey hst h);have hk2:=hkey;revert hk2;generalize key=kk;intro hk2;exact HH kk hk2) ?_
 clear plain byS hany hkey key;intro key hkey;rw[if_neg (by simp)];refine aa ?_;refine f9 _ (λrest b s'=>s'=s/\∃i hit,b=(none,hit)/\rest=(gi i (es.size-i)).filter (λi=>(es[i]?.map (·.hash))==some (mH P w k))/\i<=es.size /\((hit=none/\∀j p,j<i->xs[j]?≠some (k,p))\/∃j p,hit=some j/\j<i/\xs[j]?=some (k,p))) _ ?_ ?_ _ _ ⟨rfl,0,none,rfl,by rw[gY,List.range_eq_range',Nat.sub_zero],Nat.zero_le _,.inl ⟨rfl,λ_ _ h=>absurd h (Nat.not_lt_zero _)⟩⟩
 ·rintro x rest b s' ⟨rfl,i,hit,rfl,hr,hi,hH⟩;obtain⟨hix,hxn,hpx,hskip,hrest⟩:=filter_range'_cons _ _ _ _ _ hr.symm;have hlt:x<es.size:=by omega
  have hrest':rest=(gi (x+1) (es.size-(x+1))).filter (λi=>(es[i]?.map (·.hash))==some (mH P w k)):=by rw[hrest];congr 2;omega
  obtain⟨k',b,v',hkv,hib,hex⟩:=hat x hlt;have hHx:=LR haskey hskip hH;have hstay:¬k'=k->_:=λhne=>LQ hkv hne hHx;rw[hex];dsimp only;by_cases hh:(mH P w k'==mH P w k)=true
  ·rw[if_pos hh];refine aa (bg ho hd (aa (m_eq (x:=k') (y:=k) hu hib hkey (aa (bg ho hd ?_)))));show wpAny _ _ (if(ep != ep)=true then _ else _) _ E _;rw[if_neg (by simp)];by_cases hkk:k'=k
   ·rw[decide_eq_true hkk];subst hkk;rcases hHx with⟨rfl,_⟩|⟨j,p,_,hjx,hj⟩
    ·first|rw[if_pos rfl]|skip
     simp only[Option.isSome_none,Bool.false_eq_true,if_false];first|refine aa (af ?_)|skip
     refine aa (dS ?_);split
     ·exact af (af (hsome x _ hkv))
     ·exact af ⟨rfl,x+1,some x,rfl,hrest',hlt,.inr ⟨x,_,rfl,Nat.lt_succ_self x,hkv⟩⟩
    ·exact absurd (LP hn hj hkv) (by omega)
   ·rw[decide_eq_false hkk];simp only[Bool.false_eq_true,if_false];refine aa (dS ?_);first|rw[if_neg (by simp)]|skip
    first
    |exact af ⟨rfl,x+1,hit,rfl,hrest',hlt,hstay hkk⟩
    |exact aa (af (af ⟨rfl,x+1,hit,rfl,hrest',hlt,hstay hkk⟩))
  ·rw[if_neg hh];refine af ⟨rfl,x+1,hit,rfl,hrest',hlt,hstay ?_⟩;intro hkk;rw[hkk]at hh;simp at hh
 ·rintro b s' ⟨rfl,i,hit,rfl,hr,hi,hH⟩;rcases hH with⟨rfl,hno⟩|⟨j,p,rfl,_,hj⟩
  ·refine af (nolate i hno λj h1 h2=>?_);have:=fU.mp hr.symm j (List.mem_range'_1.mpr ⟨h1,by omega⟩);simpa using this
  ·exact af (hsome j p hj)
end
noncomputable def mAt(xs:List (MK×Value×Value))(k:MK):Option (Value×Value):=(xs.find? λx=>decide (x.1=k)).map (·.2)
noncomputable def mPut(k:MK)(v:Value)(x:MK×Value×Value):MK×Value×Value:=if x.1=k then(x.1,x.2.1,v)else x
noncomputable def mSto(xs:List (MK×Value×Value))(k:MK)(a v:Value):List (MK×Value×Value):=if(mAt xs k).isSome then xs.map (mPut k v)else xs++[(k,a,v)]
theorem MC{xs:List (MK×Value×Value)}(hn:(xs.map (·.1)).Nodup){i:Nat}{k:MK}{p:Value×Value}(hx:xs[i]?=some (k,p)):mAt xs k=some p:=by
 induction xs generalizing i with
|nil=>simp at hx
|cons x rest ih=>
  rw[ax,bo]at hn;cases i with
 |zero=>simp only[List.getElem?_cons_zero,Option.some.injEq]at hx;subst hx;simp[mAt]
 |succ j=>simp only[List.getElem?_cons_succ]at hx;have hmem:k∈rest.map (·.1):=ai.mpr ⟨(k,p),a_ hx,rfl⟩;have hne:¬x.1=k:=λe=>hn.1 (e▸hmem);have:=ih hn.2 hx;simpa[mAt,cq,hne]using this
theorem U4{xs:List (MK×Value×Value)}{k:MK}(h:∀(j:Nat)(p:Value×Value),xs[j]?≠some (k,p)):mAt xs k=none:=by
 have:(xs.find? λx=>decide (x.1=k))=none:=by rw[List.find?_eq_none];intro x hx hk;obtain⟨j,hj⟩:=aZ.mp hx;have hk':x.1=k:=of_decide_eq_true hk;exact h j x.2 (by rw[hj,<-hk'])
 simp[mAt,this]
theorem LU{xs:List (MK×Value×Value)}{k:MK}(h:∀(j:Nat)(p:Value×Value),xs[j]?≠some (k,p)):k∉xs.map (·.1):=by intro hm;obtain⟨x,hx,rfl⟩:=ai.mp hm;obtain⟨j,hj⟩:=aZ.mp hx;exact h j x.2 hj
theorem Kr(xs:List (MK×Value×Value))(k:MK)(v:Value)(hn:k∉xs.map (·.1)):xs.map (mPut k v)=xs:=by
 induction xs with
|nil=>rfl
|cons x xs ih=>simp only[ax,ar,not_or]at hn ⊢;rw[mPut,if_neg (λe=>hn.1 e.symm),ih hn.2]
theorem Ry(xs:List (MK×Value×Value))(k:MK)(v:Value):(xs.map (mPut k v)).map (·.1)=xs.map (·.1):=by rw[dI];refine gD λx _=>?_;show(mPut k v x).1=x.1;unfold mPut;split<;>rfl
theorem NF{P:Program}{w:World}{k:MK}{v:Value}:∀{xs:List (MK×Value×Value)}{j:Nat}{p:Value×Value},(xs.map (·.1)).Nodup->xs[j]?=some (k,p) ->(xs.map (mE P w)).modify j (λe=>{e with val:=v})=(xs.map (mPut k v)).map (mE P w)
|[],j,p,_,hj=>by simp at hj
|x::rest,0,p,hn,hj=>by rw[ax,bo]at hn;simp only[List.getElem?_cons_zero,Option.some.injEq]at hj;subst hj;rw[ax,ax,Kr rest k v hn.1,mPut,if_pos rfl,ax];rfl
|x::rest,j+1,p,hn,hj=>by rw[ax,bo]at hn;simp only[List.getElem?_cons_succ]at hj;have hmem:k∈rest.map (·.1):=ai.mpr ⟨(k,p),a_ hj,rfl⟩;have hne:¬x.1=k:=λe=>hn.1 (e▸hmem);rw[ax,ax,mPut,if_neg hne,ax];show mE P w x::(rest.map (mE P w)).modify j _=mE P w x::(rest.map (mPut k v)).map (mE P w);rw[NF hn.2 hj]
def MD(P:Program)(w:World)(h:Heap)(d:Addr)(xs:List (MK×Value×Value)):Prop:=∃o es ep,h.get? d=some o/\o.ExactDict/\o.data=.dict es ep/\es.toList=xs.map (mE P w)/\(xs.map (·.1)).Nodup
section
variable {P:Program}{w:World}{A:br}{E:Value->ah->Prop}{s:ah}{d:Addr}{xs:List (MK×Value×Value)}{k:MK}{key v:Value}
theorem MD.typeIs(hm:MD P w s.heap d xs):s.TypeIs (.ref d) "dict":=by obtain⟨o,_,_,ho,hc,_⟩:=hm;exact⟨o,ho,hc.1⟩
theorem La{Q:Option Value->ah->Prop}(hu:A.units<cLine)(hkey:mIs P w s.heap k key)(hm:MD P w s.heap d xs)(his:∀x∈xs,mIs P w s.heap x.1 x.2.1)(h:Q ((mAt xs k).map (·.2)) {s with toks:=s.toks+mD P w k}):wpAny (model P w) A (dictGet d key) Q E s:=by
 obtain⟨o,es,ep,ho,_,hd,he,hn⟩:=hm;unfold dictGet;try with_reducible refine aX ?_
 refine aa (Pz hu hkey (aa (m_find (s:={s with toks:=s.toks+mD P w k}) hu hkey ho hd he his hn ?_ ?_)))
 ·intro hno;rw[U4 hno]at h;exact af h
 ·intro j p hj;rw[MC hn hj]at h;refine aa (aY (s:={s with toks:=s.toks+mD P w k}) ho hd ?_);rw[NG he j,hj];exact af h
theorem MD.push{o:Obj}{es:Array DictEntry}{ep:Nat}{h:Heap}(ho:h.get? d=some o)(hc:o.ExactDict)(hd:o.data=.dict es ep)(he:es.toList=xs.map (mE P w))(hn:(xs.map (·.1)).Nodup)(hno:∀(j:Nat)(p:Value×Value),xs[j]?≠some (k,p)):MD P w (h.update d (·.mapDictKeys λes=>es.push ⟨mH P w k,key,v⟩)) d (xs++[(k,key,v)]):=by
 refine⟨_,_,ep+1,Heap.get?_update_self _ ho (Obj.isFreed_of_dict (Obj.data_mapDictKeys hd _)),hc.mapDictKeys _,Obj.data_mapDictKeys hd _,?_,?_⟩
 ·simp[he,mE]
 ·rw[aE,List.nodup_append];refine⟨hn,by simp,?_⟩;intro x hx y hy;simp only[ax,fS,a7]at hy;subst hy;exact λe=>LU hno (e▸hx)
theorem Em{Q:Unit->ah->Prop}(hu:A.units<cLine)(hkey:mIs P w s.heap k key)(hm:MD P w s.heap d xs)(his:∀x∈xs,mIs P w s.heap x.1 x.2.1)(hQ:∀h',MD P w h' d (mSto xs k key v)->Heap.SameBut d s.heap h'->Q () {s with heap:=h',toks:=s.toks+mD P w k})(hsz:xs.length<=sizeLine):wpAny (model P w) A (dictSet d key v) Q E s:=by
 obtain⟨o,es,ep,ho,hc,hd,he,hn⟩:=hm;unfold dictSet;try with_reducible refine aX ?_
 refine aa (Pz hu hkey ?_);unfold dictSetHashed;try with_reducible refine aX ?_
 refine aa (m_find (s:={s with toks:=s.toks+mD P w k}) hu hkey ho hd he his hn ?_ ?_)
 ·intro hno;have e:mSto xs k key v=xs++[(k,key,v)]:=by simp[mSto,U4 hno]
  rw[e]at hQ;exact aa (dS (gZ (hz:=by have e:=MB he;omega) (s:={s with toks:=s.toks+mD P w k}) ho hd (hQ _ (MD.push ho hc hd he hn hno) (Heap.SameBut.update ..))))
 ·intro j p hj;have e:mSto xs k key v=xs.map (mPut k v):=by simp[mSto,MC hn hj]
  rw[e]at hQ;refine aa (dS (aa (wpAny_updateDict (s:={s with toks:=s.toks+mD P w k}) ho hd (wpAny_point (hQ _ ⟨_,_,ep,Heap.get?_update_self _ ho (Obj.isFreed_of_dict (Obj.data_mapDict hd _)),hc.mapDict _,Obj.data_mapDict hd _,?_,?_⟩ (Heap.SameBut.update ..))))))
  ·have:=NF (P:=P) (w:=w) (v:=v) hn hj;rw[<-he]at this;obtain⟨l⟩:=es;simpa using this
  ·rw[Ry];exact hn
theorem LS{Q:Value->ah->Prop}(hu:A.units<cLine)(hkey:mIs P w s.heap k key)(hm:MD P w s.heap d xs)(his:∀x∈xs,mIs P w s.heap x.1 x.2.1)(h1:∀p,mAt xs k=some p->Q p.2 {s with toks:=s.toks+mD P w k})(h2:mAt xs k=none->∀h',MD P w h' d (xs++[(k,key,v)])->Heap.SameBut d s.heap h'->Q v {s with heap:=h',toks:=s.toks+mD P w k})(hsz:xs.length<=sizeLine):wpAny (model P w) A (dictSetDefault d key v) Q E s:=by
 obtain⟨o,es,ep,ho,hc,hd,he,hn⟩:=hm;unfold dictSetDefault;try with_reducible refine aX ?_
 refine aa (Pz hu hkey ?_);refine aa (m_find (s:={s with toks:=s.toks+mD P w k}) hu hkey ho hd he his hn ?_ ?_)
 ·intro hno;exact aa (dS (aa (gZ (hz:=by have e:=MB he;omega) (s:={s with toks:=s.toks+mD P w k}) ho hd (af (h2 (U4 hno) _ (MD.push ho hc hd he hn hno) (Heap.SameBut.update ..))))))
 ·intro j p hj;refine aa (aY (s:={s with toks:=s.toks+mD P w k}) ho hd ?_);rw[NG he j,hj];exact aa (dS (af (h1 p (MC hn hj))))
theorem m_contains{Q:Bool->ah->Prop}(hu:A.in1.units<cLine)(hkey:mIs P w s.heap k key)(hd:(d==bu)=false)(hm:MD P w s.heap d xs)(his:∀x∈xs,mIs P w s.heap x.1 x.2.1)(h:Q (mAt xs k).isSome {s with toks:=s.toks+mD P w k}):wpAny (model P w) A (contains (.ref d) key) Q E s:=by
 unfold contains;try with_reducible refine aX ?_
 refine aa (fw hm.typeIs ig.lookup ?_);show wpAny _ _ (if(some (Value.builtin "dict.__contains__")==some Value.none)=true then _ else _) _ E s;rw[if_neg (by rw[beq_builtin_none];exact Bool.false_ne_true)];refine aa (wpAny_callSpecialUnlessNone?_slot (name:=Str.ofString "__contains__") hm.typeIs ig (a9 ig hm.typeIs entry_dict_contains ?_ (args_dict_contains _ _)));show wpAny _ _ (dictGet d key >>= _) _ _ s;refine aa (La hu hkey hm his ?_);cases hf:mAt xs k with
|some p=>rw[hf]at h;show wpAny _ _ (ret (.bool true)) _ _ _;exact af ⟨_,rfl,bC h⟩
|none=>rw[hf]at h;show wpAny _ _ (Builtin.Dict.pendingKey? d key >>= _) _ _ _;exact aa (wpAny_pendingKey_other hd (af ⟨_,rfl,bC h⟩))
theorem Rx{p:Value×Value}{Q:Value->ah->Prop}(hu:A.in1.units<cLine)(hkey:mIs P w s.heap k key)(hm:MD P w s.heap d xs)(his:∀x∈xs,mIs P w s.heap x.1 x.2.1)(hp:mAt xs k=some p)(h:Q p.2 {s with toks:=s.toks+mD P w k}):wpAny (model P w) A (fR (.ref d) key) Q E s:=by
 unfold fR;try with_reducible refine aX ?_
 refine aa (wpAny_sequenceKey hm.typeIs (by decide) ?_);refine aa (bf (name:=Str.ofString "__getitem__") hm.typeIs slot_dict_getitem (a9 slot_dict_getitem hm.typeIs entry_dict_getitem ?_ (args_dict_getitem _ _)));show wpAny _ _ (dictGet d key >>= _) _ _ s;refine aa (La hu hkey hm his ?_);rw[hp];exact af ⟨p.2,rfl,af h⟩
theorem Rw{Q:Unit->ah->Prop}(hu:A.in1.units<cLine)(hkey:mIs P w s.heap k key)(hm:MD P w s.heap d xs)(his:∀x∈xs,mIs P w s.heap x.1 x.2.1)(hQ:∀h',MD P w h' d (mSto xs k key v)->Heap.SameBut d s.heap h'->Q () {s with heap:=h',toks:=s.toks+mD P w k})(hsz:xs.length<=sizeLine):wpAny (model P w) A (setItem (.ref d) key v) Q E s:=by
 unfold setItem;try with_reducible refine aX ?_
 refine aa (wpAny_sequenceKey hm.typeIs (by decide) ?_);refine aa (bf (name:=Str.ofString "__setitem__") hm.typeIs slot_dict_setitem (a9 slot_dict_setitem hm.typeIs entry_dict_setitem ?_ (args_dict_setitem _ _ _)));show wpAny _ _ (hZ "__setitem__" ⟨[.ref d,key,v],[]⟩ >>= _) _ _ s;refine aa (cM hm.typeIs ?_);show wpAny _ _ (dictSet d key v >>= _) _ _ s;exact aa (Em hu hkey hm his (λh' hm' hs'=>af ⟨.none,rfl,af (hQ h' hm' hs')⟩) hsz)
theorem Kn(hd:(d==bu)=false)(dflt:Value):MeetsIn P w (bL.«dict.setdefault» ⟨[.ref d,key,dflt],[]⟩) (λA R s=>A.in1.units<cLine/\mIs P w s.heap k key/\MD P w s.heap d xs/\(∀x∈xs,mIs P w s.heap x.1 x.2.1)/\xs.length<=sizeLine /\(∀p,mAt xs k=some p->R (.ok (.ret p.2)) {s with toks:=s.toks+mD P w k}) /\(mAt xs k=none->∀h',MD P w h' d (xs++[(k,key,dflt)])->Heap.SameBut d s.heap h'->R (.ok (.ret dflt)) {s with heap:=h',toks:=s.toks+mD P w k})):=.of_wp λA R s hZ=>by obtain⟨hu,hkey,hm,his,hz,h1,h2⟩:=hZ;unfold bL.«dict.setdefault»;refine aa ?_;unfold Builtin.Dict.keyAndDefault;refine aa (cM hm.typeIs ?_);show wpAny _ _ (pure (d,key,some dflt)) _ _ s;refine af ?_;show wpAny _ _ (if(d==bu)=true then _ else(dictSetDefault d key dflt >>= _)) _ _ s;rw[if_neg (by rw[hd];exact Bool.false_ne_true)];exact aa (LS hu hkey hm his (λp hp=>af ⟨p.2,rfl,h1 p hp⟩) (λe h' hm' hs'=>af ⟨dflt,rfl,h2 e h' hm' hs'⟩) hz)
end
noncomputable def mdO(P:Program)(w:World)(a:Addr)(xs:List (MK×Value×Value)):HO:=.ext λh=>MD P w h a xs
noncomputable def KyV(H:Hp):MK->Value->Prop
|.inl k,v=>U7 k v=true
|.inr ks,v=>∃b,v=.ref b/\H b=some (.tup (ks.map kV))
noncomputable def KyM(H:Hp):MK->V->Prop
|.inl k,y=>y=kV k
|.inr ks,y=>∃b,y=.ref b/\H b=some (.tup (ks.map kV))
noncomputable def KM(H:Hp):List (MK×V)->List (MK×Value×Value)->Prop:=bS λp q=>p.1=q.1/\KyV H p.1 q.2.1/\RelV p.2 q.2.2
def DM(P:Program)(w:World)(H:Hp)(a:Addr)(kvs:List (MK×V)):Prop:=∃xs,Rd H a (mdO P w a xs)/\KM H kvs xs/\kvs.length<=sizeLine/\(a==bu)=false
def DMw(P:Program)(w:World)(H:Hp)(a:Addr)(kvs:List (MK×V)):Prop:=∃xs,H a=some (mdO P w a xs)/\KM H kvs xs/\kvs.length<=sizeLine/\(a==bu)=false
section
variable {P:Program}{w:World}{H H':Hp}{h:Heap}{a:Addr}{kvs:List (MK×V)}{xs:List (MK×Value×Value)}{k:MK}{y:V}{u:Value}
theorem DMw.rd(d:DMw P w H a kvs):DM P w H a kvs:=by obtain⟨xs,e,r⟩:=d;exact⟨xs,.inl e,r⟩
theorem TY(x:MD P w h a xs):ZY P w H h a (mdO P w a xs):=by have y:=x;obtain⟨o,_,_,ho,_⟩:=y;refine⟨x,⟨o,ho⟩,λh1 h2 p k=>?_⟩;obtain⟨o,es,ep,ho,r⟩:=p;exact⟨o,es,ep,k _ ho,r⟩
theorem KyV.is(ok:HOk P w H h):∀{k:MK}{v:Value},KyV H k v->mIs P w h k v
|.inl k,v,x=>x
|.inr ks,v,⟨b,e,hb⟩=>⟨b,e,J2 ok hb⟩
theorem KyM.val(P:Program)(w:World):∀{k:MK}{y:V}{u:Value},KyM H k y->RelV y u->KyV H k u
|.inl k,y,u,x,r=>by cases(show y=kV k from x);exact U8 (P:=P) (w:=w) r
|.inr ks,y,u,⟨b,e,hb⟩,r=>by subst e;exact⟨b,r,hb⟩
theorem KyV.keeps(ht:∀b ys,H b=some (.tup ys)->H' b=some (.tup ys)):∀{k:MK}{v:Value},KyV H k v->KyV H' k v
|.inl k,v,x=>x
|.inr ks,v,⟨b,e,hb⟩=>⟨b,e,ht _ _ hb⟩
theorem KM.keeps(ht:∀b ys,H b=some (.tup ys)->H' b=some (.tup ys))(r:KM H kvs xs):KM H' kvs xs:=Paired.mapP r λ_ _ z=>⟨z.1,z.2.1.keeps ht,z.2.2⟩
theorem KM.is(ok:HOk P w H h)(r:KM H kvs xs):∀x∈xs,mIs P w h x.1 x.2.1:=by
 induction r with
|nil=>intro x hx;exact nomatch hx
|@cons p q ps qs hq t ih=>
  intro x hx;rcases ar.mp hx with e|hx
  ·subst e;exact(show KyV H x.1 x.2.1 from by rw[<-hq.1];exact hq.2.1).is ok
  ·exact ih x hx
theorem KM.val(r:KM H kvs xs)(k:MK):RelO (valV kvs k) ((mAt xs k).map (·.2)):=by
 induction r with
|nil=>exact bB
|@cons p q ps qs h t ih=>
  obtain⟨h1,_,h2⟩:=h;by_cases e:p.1=k
  ·have e':q.1=k:=h1.symm.trans e;have b:mAt (q::qs) k=some q.2:=by simp[mAt,cq,e']
   rw[Yk e,b];exact h2
  ·have e':¬q.1=k:=λz=>e (h1.trans z);have b:mAt (q::qs) k=mAt qs k:=by simp[mAt,cq,e']
   rw[Yl e,b];exact ih
theorem KM.repl(r:KM H kvs xs)(k:MK){y:V}{u:Value}(ry:RelV y u):KM H (kvs.map λkv=>if kv.1=k then(kv.1,y)else kv) (xs.map (mPut k u)):=by
 induction r with
|nil=>exact .nil
|@cons p q ps qs h t ih=>
  rw[ax,ax];refine .cons ?_ ih;obtain⟨h1,h2,h3⟩:=h;unfold mPut;by_cases e:p.1=k
  ·rw[if_pos e,if_pos (h1.symm.trans e)];exact⟨h1,h2,ry⟩
  ·rw[if_neg e,if_neg (λz=>e (h1.trans z))];exact⟨h1,h2,h3⟩
theorem KM.any(r:KM H kvs xs)(k:MK):(kvs.any λkv=>decide (kv.1=k))=(mAt xs k).isSome:=by rw[YC,(r.val k).isSome_eq,dZ]
theorem KM.put(r:KM H kvs xs)(k:MK){b:Value}{y:V}{u:Value}(hb:KyV H k b)(ry:RelV y u):KM H (putK kvs k y) (mSto xs k b u):=by
 unfold putK mSto;rw[r.any k];by_cases q:(mAt xs k).isSome=true
 ·rw[if_pos q,if_pos q];exact r.repl k ry
 ·rw[if_neg q,if_neg q];exact c7 r ⟨rfl,hb,ry⟩
theorem DM.at(ok:HOk P w H h)(d:DM P w H a kvs):(a==bu)=false/\∃xs,KM H kvs xs/\MD P w h a xs/\xs.length<=sizeLine/\∀x∈xs,mIs P w h x.1 x.2.1:=by obtain⟨xs,e,r,z,hs⟩:=d;exact⟨hs,xs,r,(show ZY P w H h a (mdO P w a xs)from e.ok ok).1,by rw[<-aR r];exact z,r.is ok⟩
theorem DMw.keeps(d:DMw P w H a kvs)(hk:H' a=H a)(ht:∀b ys,H b=some (.tup ys)->H' b=some (.tup ys)):DMw P w H' a kvs:=by obtain⟨xs,e,r,z⟩:=d;exact⟨xs,hk.trans e,r.keeps ht,z⟩
end
section
variable {X:Cx}{pins:List (Addr×Obj)}{σ:St}{H:Hp}{s:ah}{a:Addr}{kvs:List (MK×V)}{k:MK}{y v:V}{u r:Value}{A:br}{E:Value->ah->Prop}
theorem DMw.write{h':Heap}{t':Nat}{xs:List (MK×Value×Value)}{kvs2:List (MK×V)}(I:Inv X pins σ H s)(d:DMw X.prog X.w H a kvs)(hs:Heap.SameBut a s.heap h')(m:MD X.prog X.w h' a xs)(r:KM H kvs2 xs)(z:kvs2.length<=sizeLine):Inv X pins σ (upd H a (mdO X.prog X.w a xs)) {s with heap:=h',toks:=t'}/\DMw X.prog X.w (upd H a (mdO X.prog X.w a xs)) a kvs2:=by obtain⟨x0,e,_,_,hm⟩:=d;have m':=m;obtain⟨q,_,_,hq,_⟩:=m';refine⟨MO I (by rw[e];exact bB) hs ⟨q,hq⟩ (TY m),xs,Zd,r.keeps λc ys ec=>?_,z,hm⟩;rw[Zc (ne_of ec e (λz=>nomatch z))];exact ec
def rInM(P:Program)(w:World):R2:=λx y H Q=>∃a kvs k,y=.ref a/\DM P w H a kvs/\KyM H k x/\Q (.bl (valV kvs k).isSome) H
theorem Pu(hu:X.A.units+1<cLine):OpR X (bA .In) (rInM X.prog X.w):=by intro pins s σ H x y v u Q I rx ry h;obtain⟨a,kvs,k,rfl,d,hk,q⟩:=h;cases ry;obtain⟨hs,xs,rel,m,z,his⟩:=d.at I.hok;show wpAny _ _ (contains (.ref a) v >>= λb=>pure (Value.bool b)) _ _ s;refine aa (m_contains hu ((hk.val X.prog X.w rx).is I.hok) hs m his (af ⟨_,H,I.tok _,?_,q⟩));rw[(rel.val k).isSome_eq,dZ];rfl
noncomputable def Lw(P:Program)(w:World):V->List V->Hp->VK->Prop:=λx vs H Q=>∃a kvs k y dv,x=.ref a/\vs=[y,dv]/\DMw P w H a kvs/\KyM H k y/\kvs.length<sizeLine/\(∀u,valV kvs k=some u->Q u H) /\(valV kvs k=none->∀o,DMw P w (upd H a o) a (kvs++[(k,dv)])->Q dv (upd H a o))
theorem TV(hu:X.A.units+1<cLine):MtM X "dict.setdefault" (Lw X.prog X.w):=by
 intro pins s σ H x vs v us Q I rx rv h;obtain⟨a,kvs,k,y,dv,rfl,rfl,d,hk,hl,q1,q2⟩:=h;cases rx;cases rv with
|@cons _ u _ us ru rv=>
 obtain⟨u2,rfl,ru2⟩:=Vals.one (show Vals [dv] us from rv);obtain⟨hs,xs,rel,m,z,his⟩:=d.rd.at I.hok;refine fC hW m.typeIs PySem.F.entry_dict_setdefault (PySem.F.args_dict_setdefault_3 _ _ _) (Kn (k:=k) (xs:=xs) hs u2) ⟨hu,(hk.val X.prog X.w ru).is I.hok,m,his,z,λp hp=>?_,λhp h' m' sb=>?_⟩
 ·have e:=rel.val k;rw[hp]at e;cases f:valV kvs k with
 |none=>rw[f]at e;exact e.elim
 |some x=>rw[f]at e;exact⟨x,H,I.tok _,e,q1 x f⟩
 ·have e:=rel.val k;rw[hp]at e;cases f:valV kvs k with
 |some x=>rw[f]at e;exact e.elim
 |none=>obtain⟨I',d'⟩:=d.write (t':=s.toks+mD X.prog X.w k) I sb m' (kvs2:=kvs++[(k,dv)]) (c7 rel ⟨rfl,hk.val X.prog X.w ru,ru2⟩) (by rw[av,f6];omega);exact⟨dv,_,I',ru2,q2 f _ d'⟩
end
def DY(P:Program)(w:World)(td ty:TE):TE:=λσ H Q=>td σ H λx H1=>ty σ H1 λy H2=>∃a kvs k v,x=.ref a/\DM P w H2 a kvs/\KyM H2 k y/\valV kvs k=some v/\Q v H2
def K2(P:Program)(w:World)(td ty tv:TE):TS:=λD σ H=>tv σ H λv H1=>td σ H1 λx H2=>ty σ H2 λy H3=>∃a kvs k,x=.ref a/\DMw P w H3 a kvs/\KyM H3 k y/\kvs.length<sizeLine /\∀o,DMw P w (upd H3 a o) a (putK kvs k v)->D.nx σ (upd H3 a o)
def DX(P:Program)(w:World):TE:=λ_ H Q=>∀p o,H p=none->DMw P w (upd H p o) p []->Q (.ref p) (upd H p o)
def tMBM(P:Program)(w:World)(r:V->List V->Hp->VK->Prop)(to:TE)(t:TA):TE:=λσ H Q=>to σ H λx H1=>(∃a kvs,x=.ref a/\DM P w H1 a kvs)/\t σ H1 λxs H2=>r x xs H2 Q
section
variable {X:Cx}{o i e value:Expr}{es:List Expr}{pos pos' apos cpos:Pos}{td ty tv to:TE}{t:TA}{name:Str}{id:String}{r:V->List V->Hp->VK->Prop}
theorem Ka(hu:X.A.units+1<cLine)(ho:PE X o td)(hi:PE X i ty)(hs:NoSl i):PE X (.Subscript o i pos) (DY X.prog X.w td ty):=by intro pins s σ H Q I h;refine Mf ft.lookup hs (thn (ho pins s σ H _ I h) λu s1⟨x,H1,I1,rx,q1⟩=>thn (hi pins s1 σ H1 _ I1 q1) λiv s2 hZ=>?_);obtain⟨y,H2,I2,ry,a,kvs,k,v,ex,d,hk,hv,q2⟩:=hZ;subst ex;obtain rfl:u=Value.ref a:=rx;obtain⟨hs,xs,rel,m,z,his⟩:=d.at I2.hok;obtain⟨w',hw,rw'⟩:=RelO.some_of (v:=v) (o:=(mAt xs k).map (·.2)) (by rw[<-hv];exact rel.val k);obtain⟨p,hp,hp2⟩:=cu.mp hw;refine⟨m.typeIs,Rx hu ((hk.val X.prog X.w ry).is I2.hok) m his hp ⟨v,H2,I2.tok _,?_,q2⟩⟩;rw[hp2];exact rw'
theorem QB(hu:X.A.units+1<cLine)(ho:PE X o td)(hi:PE X i ty)(hv:PE X value tv)(hs:f7 value (some (.Subscript o i pos')) pos.line X.env=pure false):PS X (.Assign [.Subscript o i pos'] value pos) (K2 X.prog X.w td ty tv):=by intro pins s σ H D I h;refine wpAny_Assign_Subscript (thn (hv pins s σ H _ I h) λr s1⟨v,H1,I1,rv,q1⟩=>thn (ho pins s1 σ H1 _ I1 q1) λu s2⟨x,H2,I2,rx,q2⟩=>thn (hi pins s2 σ H2 _ I2 q2) λiv s3 hZ=>?_) hs;obtain⟨y,H3,I3,ry,a,kvs,k,ex,d,hk,hl,q3⟩:=hZ;subst ex;obtain rfl:u=Value.ref a:=rx;obtain⟨hs,xs,rel,m,z,his⟩:=d.rd.at I3.hok;refine Rw hu ((hk.val X.prog X.w ry).is I3.hok) m his (λh' m' sb=>?_) z;obtain⟨I',d'⟩:=d.write (t':=s3.toks+mD X.prog X.w k) I3 sb m' (rel.put k (hk.val X.prog X.w ry) rv) (by have:=Xa kvs k v;omega);exact⟨σ,_,I',q3 _ d'⟩
theorem QG:PE X (.Dict [] [] pos) (DX X.prog X.w):=λpins s σ H Q I h=>by have hb:(s.heap.objs.size==bu)=false:=beq_eq_false_iff_ne.mpr (bR (Nat.ne_of_lt I.big));have m:MD X.prog X.w (s.heap.push {cls:=.type "dict",data:=.dict #[]}) s.heap.objs.size []:=⟨_,#[],0,Heap.get?_push_size _ rfl,⟨rfl,rfl,rfl⟩,rfl,rfl,cW⟩;exact wpAny_Dict_empty ⟨.ref s.heap.objs.size,_,I.laid (a:=s.heap.objs.size) (o:=mdO X.prog X.w s.heap.objs.size []) (t':=s.toks) (λ_ _ q=>Heap.get?_push_of_some _ q) (Nat.le_refl _) (TY m),rfl,h _ _ (I.hok.fresh (Nat.le_refl _)) ⟨[],Zd,.nil,Nat.zero_le _,hb⟩⟩
theorem LD(slot:Slot "dict" name id)(hty:typeOf (.builtin id)=pure (.type "method_descriptor"))(hm:MtR X id r)(ho:PE X o to)(ha:PA X (e::es) t)(hbase:c8 o name X.env (eval o X.env)=eval o X.env:=by rfl)(hfew:((b8 cpos (az (e::es) X.env)).all (λx=>!x.1)&&(eO cpos (cV [] X.env)).all (λx=>x.1.isSome)&&decide ((e::es).length+([]:List g9).length+(if([]:List g9).isEmpty then 0 else 1)<30))=true:=by rfl)(hline:(apos.endLine==cpos.line)=true:=by rfl)(hs:az (e::es) X.env=(false,eval e X.env)::az es X.env:=by rfl)(hplain:(b8 cpos (az es X.env)).any (·.1)=false:=by rfl):PE X (.Call (.Attribute o name apos) (e::es) [] cpos) (tMBM X.prog X.w r to t):=by
 intro pins s σ H Q I h;refine wpAny_Call_method_late hbase hfew hline rfl (thn (ho pins s σ H _ I h) λv s1 hZ=>?_);obtain⟨x,H1,I1,r1,⟨a,kvs,ex,d⟩,q1⟩:=hZ;subst ex;obtain rfl:v=Value.ref a:=r1;obtain⟨_,xs,rel,m,z,his⟩:=d.at I1.hok;have h2:∀b,Value.ref a=.ref b->∃ob,s1.heap.get? b=some ob/\ob.dict=none:=λb e=>by cases e;obtain⟨ob,_,_,g1,g2,_⟩:=m;exact⟨ob,g1,g2.2.1⟩
 refine⟨"dict",id,cS,slot,hty,m.typeIs,h2,?_⟩;have hA:=ha cpos pins s1 σ H1 _ I1 q1;rw[hs]at hA ⊢;refine cv (by show(false||(b8 cpos (az es X.env)).any (·.1))=false;rw[hplain]<;>rfl) (gg ?_)
 exact thn hA λus s2⟨vs,H2,I2,r2,q2⟩=>hm pins s2 σ H2 (.ref a) vs (.ref a) us Q I2 rfl r2 q2
end
section
variable {prog:Program}{w:World}{A:br}{E:Value->ah->Prop}{s:ah}
theorem PJ{it d:Addr}{o:Obj}{es:Array DictEntry}{i ep:Nat}{e:DictEntry}{Q:Fin->ah->Prop}(st:s.heap.IsKeyIter it d i es.size ep)(hd:s.heap.get? d=some o)(hdd:o.data=.dict es ep)(he:es[i]?=some e)(hQ:∀h',h'.IsKeyIter it d (i+1) es.size ep->Heap.SameBut it s.heap h'->Q (.done (.ret e.key)) {s with heap:=h'}):wpAny (model prog w) A (bL.«dict_keyiterator.__next__» ⟨[.ref it],[]⟩) Q E s:=by
 obtain⟨ob,h1,h2,h3⟩:=st;have hT:s.TypeIs (.ref it) "dict_keyiterator":=⟨ob,h1,h2⟩;unfold bL.«dict_keyiterator.__next__»;refine aa ?_;refine af ?_;refine aa ?_;refine aa ?_;refine aa (dw hT ?_);refine af ?_;refine aa (eQ h1 h3 ?_);show wpAny _ _ (if(Value.ref d==Value.none)=true then _ else _) _ _ _;rw[if_neg (show ¬(Value.ref d==Value.none)=true from λz=>nomatch z)];refine aa ?_;refine af ?_;refine aa (aY hd hdd ?_);rw[if_neg (by simp)];refine aa ?_;refine af ?_;refine aa (bg hd hdd ?_);rw[if_neg (by simp)];refine af ?_;have ei:(if(i:Int)<0 then none else es[((i:Int)).toNat]?)=some e:=by rw[if_neg (by omega),Int.toNat_natCast];exact he
 show wpAny _ _ (match (if(i:Int)<0 then none else es[((i:Int)).toNat]?)with|some e=>_|none=>_) _ _ _
 rw[ei];refine aa ?_;refine aa (dw hT ?_);refine af ?_;refine aa (wpAny_isOneOf_keyiter hT ?_);refine aa (bT h1 h3 (show 0+1<4 by decide) ?_);have g:=Heap.get?_update_self (Obj.mapFields λx=>x.setIfInBounds 1 (bX ((i:Int)+1))) h1 (Obj.isFreed_of_fields (Obj.data_mapFields h3 _));have sb:Heap.SameBut it s.heap (s.heap.update it (Obj.mapFields λx=>x.setIfInBounds 1 (bX ((i:Int)+1)))):=Heap.SameBut.update ..;have hI:(s.heap.update it (Obj.mapFields λx=>x.setIfInBounds 1 (bX ((i:Int)+1)))).IsKeyIter it d (i+1) es.size ep:=by exact⟨_,g,(Obj.cls_mapFields ..).trans h2,by rw[Obj.data_mapFields h3];simp[bX]⟩
 have hT':gu {s with heap:=s.heap.update it (Obj.mapFields λx=>x.setIfInBounds 1 (bX ((i:Int)+1)))} (.ref it) "dict_keyiterator":=by obtain⟨ob',q1,q2,_⟩:=hI;exact⟨ob',q1,q2⟩
 refine aa (aX ?_);refine aa (wpAny_isOneOf_keyiter hT' ?_);exact af (af (hQ _ hI sb))
theorem RB{it d:Addr}{o:Obj}{es:Array DictEntry}{i ep:Nat}{Q:Fin->ah->Prop}(hh:A.handled=none)(st:s.heap.IsKeyIter it d i es.size ep)(hd:s.heap.get? d=some o)(hdd:o.data=.dict es ep)(he:es[i]?=none)(hE:∀h' e,(∀c q,c≠it->s.heap.get? c=some q->h'.get? c=some q)->(∃o,h'.get? e=some o/\o.cls=.type "StopIteration")->E (.ref e) {s with heap:=h'}):wpAny (model prog w) A (bL.«dict_keyiterator.__next__» ⟨[.ref it],[]⟩) Q E s:=by
 obtain⟨ob,h1,h2,h3⟩:=st;have hT:s.TypeIs (.ref it) "dict_keyiterator":=⟨ob,h1,h2⟩;unfold bL.«dict_keyiterator.__next__»;refine aa ?_;refine af ?_;refine aa ?_;refine aa ?_;refine aa (dw hT ?_);refine af ?_;refine aa (eQ h1 h3 ?_);show wpAny _ _ (if(Value.ref d==Value.none)=true then _ else _) _ _ _;rw[if_neg (show ¬(Value.ref d==Value.none)=true from λz=>nomatch z)];refine aa ?_;refine af ?_;refine aa (aY hd hdd ?_);rw[if_neg (by simp)];refine aa ?_;refine af ?_;refine aa (bg hd hdd ?_);rw[if_neg (by simp)];refine af ?_;have ei:(if(i:Int)<0 then none else es[((i:Int)).toNat]?)=none:=by rw[if_neg (by omega),Int.toNat_natCast];exact he
 show wpAny _ _ (match (if(i:Int)<0 then none else es[((i:Int)).toNat]?)with|some e=>_|none=>_) _ _ _
 rw[ei];refine aa ?_;refine aa (dw hT ?_);refine af ?_;refine aa (bT h1 h3 (show 0<4 by decide) ?_);show wpAny (model prog w) _ (newExc (.type "StopIteration") [] >>= _) _ _ _;refine aa ?_;simp only[newTuple,newExc];refine aa (aO (aa (m:=di _ _) (wpAny_of_eq (a:=Value.none) (by first|rfl|(simp only[di];rfl)) (aO ?_ (by size_fits)))) (by size_fits))
 simp only[raiseNew];refine aa (ia ?_);rw[hh];refine aa (af (wpAny_throw ?_));exact hE _ _ (((Heap.SameBut.update ..).extBut.push _).push _) ⟨_,Heap.get?_push_size _ rfl,rfl⟩
def RawD(h:Heap)(d:Addr)(es:Array DictEntry)(ep:Nat):Prop:=∃o,h.get? d=some o/\o.ExactDict/\o.data=.dict es ep
theorem Wa{d:Addr}{es:Array DictEntry}{ep:Nat}{Q:Value->ah->Prop}(hs:(d==bu)=false)(h:RawD s.heap d es ep)(hQ:Q (.ref s.heap.objs.size) {s with heap:=s.heap.push {cls:=.type "dict_keyiterator",data:=.fields #[.ref d,.int 0 0,.int es.size 0,.int ep 0]}}):wpAny (model prog w) A (pyIter (.ref d)) Q E s:=by obtain⟨o,ho,ex,hd⟩:=h;have hT:s.TypeIs (.ref d) "dict":=⟨o,ho,ex.1⟩;refine wpAny_pyIter_slot hT F.slot_dict_iter (a9 F.slot_dict_iter hT F.entry_dict_iter ?_ (F.args_dict_iter_1 _));unfold bL.«dict.__iter__»;refine aa ?_;unfold Builtin.Dict.dictSlotNone;refine aa (cM hT ?_);refine af ?_;refine aa ?_;refine af ?_;refine aa ?_;unfold dX;rw[if_neg (by rw[hs];exact Bool.false_ne_true)];refine af ?_;refine aa (aY ho hd ?_);refine aa (bg ho hd ?_);unfold newFields;refine aa (aO ?_ (by size_fits));refine af ⟨_,rfl,"dict_keyiterator",_,⟨_,Heap.get?_push_size _ rfl,rfl⟩,F.slot_dict_keyiterator_next.lookup,?_⟩;exact hQ
theorem ZK{α β:Type}{R:α->β->Prop}:∀{a:List α}{c:List β},bS R a c->∀{i:Nat}{x:α}{y:β},a[i]?=some x->c[i]?=some y->R x y
|_,_,.nil,_,_,_,h,_=>by cases h
|_,_,.cons h t,0,_,_,e1,e2=>by cases e1;cases e2;exact h
|_,_,.cons h t,i+1,_,_,e1,e2=>ZK t (by simpa using e1) (by simpa using e2)
noncomputable def itF(a b c d e f g k:Value):Obj:={cls:=.type "dict_itemiterator",data:=.fields #[a,b,c,d,e,f,g,k]}
theorem NJ{it d:Addr}{o:Obj}{es:Array DictEntry}{i ep:Nat}{e:DictEntry}{ok ov:Value}{Q:Fin->ah->Prop}(st:IsItemIter s.heap it d i es.size ep ok ov)(hd:s.heap.get? d=some o)(hdd:o.data=.dict es ep)(he:es[i]?=some e)(hQ:∀h',IsItemIterOut h' it d (i+1) es.size ep e.key e.val s.heap.objs.size->h'.get? s.heap.objs.size=some {cls:=.type "tuple",data:=.seq #[e.key,e.val]}->(∀b q,b≠it->s.heap.get? b=some q->h'.get? b=some q) ->Q (.done (.ret (.ref s.heap.objs.size))) {s with heap:=h'}):wpAny (model prog w) A (bL.«dict_itemiterator.__next__» ⟨[.ref it],[]⟩) Q E s:=by
 have h1:s.heap.get? it=some (itF .none (.bool false) (.ref d) (.int i 0) (.int es.size 0) (.int ep 0) ok ov):=st;have hT:s.TypeIs (.ref it) "dict_itemiterator":=⟨_,h1,rfl⟩;have set_at:∀{h:Heap}{a b c d e f g k:Value}{j:Nat}{x:Value},h.get? it=some (itF a b c d e f g k)->(h.update it (Obj.mapFields λy=>y.setIfInBounds j x)).get? it=some {cls:=.type "dict_itemiterator",data:=.fields (#[a,b,c,d,e,f,g,k].setIfInBounds j x)}:=λh=>Heap.get?_update_self _ h (by rfl);unfold bL.«dict_itemiterator.__next__»;refine aa ?_;refine af ?_;refine aa ?_;refine aa ?_;refine aa (dj hT ?_);refine af ?_;refine aa (eQ h1 rfl ?_);show wpAny _ _ (if(Value.ref d==Value.none)=true then _ else _) _ _ _;rw[if_neg (show ¬(Value.ref d==Value.none)=true from λz=>nomatch z)];refine aa ?_;refine af ?_;refine aa (aY hd hdd ?_);rw[if_neg (by simp)];refine aa ?_;refine af ?_;refine aa (bg hd hdd ?_);rw[if_neg (by simp)];refine af ?_;have ei:(if(i:Int)<0 then none else es[((i:Int)).toNat]?)=some e:=by rw[if_neg (by omega),Int.toNat_natCast];exact he
 show wpAny _ _ (match (if(i:Int)<0 then none else es[((i:Int)).toNat]?)with|some e=>_|none=>_) _ _ _
 rw[ei];refine aa ?_;refine aa (dj hT ?_);refine af ?_;refine aa (gv hT ?_);refine aa (bT h1 rfl (show 2+1<8 by decide) ?_);have g1:(s.heap.update it (Obj.mapFields λx=>x.setIfInBounds 3 (bX ((i:Int)+1)))).get? it=some (itF .none (.bool false) (.ref d) (bX ((i:Int)+1)) (.int es.size 0) (.int ep 0) ok ov):=set_at h1;have sb1:Heap.SameBut it s.heap (s.heap.update it (Obj.mapFields λx=>x.setIfInBounds 3 (bX ((i:Int)+1)))):=Heap.SameBut.update ..;have z1:(s.heap.update it (Obj.mapFields λx=>x.setIfInBounds 3 (bX ((i:Int)+1)))).objs.size=s.heap.objs.size:=sb1.1;show wpAny _ _ (fB _ _ >>= _) _ _ {s with heap:=s.heap.update it (Obj.mapFields λx=>x.setIfInBounds 3 (bX ((i:Int)+1)))};generalize s.heap.update it (Obj.mapFields λx=>x.setIfInBounds 3 (bX ((i:Int)+1)))=H1 at g1 sb1 z1 ⊢;have hT1:gu {s with heap:=H1} (.ref it) "dict_itemiterator":=⟨_,g1,rfl⟩;refine aa (aX ?_);refine aa (gv hT1 ?_);refine aa (gv hT1 ?_);show wpAny _ _ (fH (.ref it) 6 e.key e.val) _ _ _;unfold fH;unfold newTuple;refine aa (aO ?_ (by size_fits));have np:it≠H1.objs.size:=Nat.ne_of_lt (Heap.lt_size g1);have g2:(H1.push {cls:=.type "tuple",data:=.seq #[e.key,e.val]}).get? it=some (itF .none (.bool false) (.ref d) (bX ((i:Int)+1)) (.int es.size 0) (.int ep 0) ok ov):=Heap.get?_push_of_some _ g1;have t2:(H1.push {cls:=.type "tuple",data:=.seq #[e.key,e.val]}).get? H1.objs.size=some {cls:=.type "tuple",data:=.seq #[e.key,e.val]}:=Heap.get?_push_size _ rfl;have k2:∀b q,b≠it->s.heap.get? b=some q->(H1.push {cls:=.type "tuple",data:=.seq #[e.key,e.val]}).get? b=some q:=λb q hb z=>Heap.get?_push_of_some _ ((sb1.2 b hb).trans z);rw[z1]at t2 np;show wpAny _ _ (_ >>= _) _ _ {s with heap:=H1.push {cls:=.type "tuple",data:=.seq #[e.key,e.val]}};generalize hz:H1.push {cls:=.type "tuple",data:=.seq #[e.key,e.val]}=H2 at g2 t2 k2 ⊢;refine aa (m:=Builtin.Dict_items.ownedTupleIsFree (.ref it)) (aa (cA g2 rfl rfl (af ?_)));simp only[if_true];show wpAny _ _ (field (.ref it) 6 >>= _) _ _ _;refine aa (cA g2 rfl rfl (aa (cA g2 rfl rfl ?_)));have step:∀{h:Heap}{j:Nat}{x:Value},h.get? s.heap.objs.size=some {cls:=.type "tuple",data:=.seq #[e.key,e.val]}->(∀b q,b≠it->s.heap.get? b=some q->h.get? b=some q) ->(h.update it (Obj.mapFields λy=>y.setIfInBounds j x)).get? s.heap.objs.size=some {cls:=.type "tuple",data:=.seq #[e.key,e.val]}/\∀b q,b≠it->s.heap.get? b=some q->(h.update it (Obj.mapFields λy=>y.setIfInBounds j x)).get? b=some q:=λht hk=>by have sb:=λ(h:Heap)(g:Obj->Obj)=>(Heap.SameBut.update (h:=h) (a:=it) (f:=g));exact⟨((sb _ _).2 _ (bR np)).trans ht,λb q hb z=>((sb _ _).2 b hb).trans (hk b q hb z)⟩
 refine aa (bT g2 rfl (show 6<8 by decide) ?_);have g3:(H2.update it (Obj.mapFields λx=>x.setIfInBounds 6 e.key)).get? it=some (itF .none (.bool false) (.ref d) (bX ((i:Int)+1)) (.int es.size 0) (.int ep 0) e.key ov):=set_at g2;obtain⟨t3,k3⟩:=step (j:=6) (x:=e.key) t2 k2;show wpAny _ _ (_ >>= _) _ _ {s with heap:=H2.update it (Obj.mapFields λx=>x.setIfInBounds 6 e.key)};generalize H2.update it (Obj.mapFields λx=>x.setIfInBounds 6 e.key)=H3 at g3 t3 k3 ⊢;refine aa (bT g3 rfl (show 7<8 by decide) ?_);have g4:(H3.update it (Obj.mapFields λx=>x.setIfInBounds 7 e.val)).get? it=some (itF .none (.bool false) (.ref d) (bX ((i:Int)+1)) (.int es.size 0) (.int ep 0) e.key e.val):=set_at g3;obtain⟨t4,k4⟩:=step (j:=7) (x:=e.val) t3 k3;show wpAny _ _ (_ >>= _) _ _ {s with heap:=H3.update it (Obj.mapFields λx=>x.setIfInBounds 7 e.val)};generalize H3.update it (Obj.mapFields λx=>x.setIfInBounds 7 e.val)=H4 at g4 t4 k4 ⊢;rw[z1];refine aa (bT g4 rfl (show 0<8 by decide) ?_);have g5:(H4.update it (Obj.mapFields λx=>x.setIfInBounds 0 (bX (s.heap.objs.size:Nat)))).get? it=some (itF (bX (s.heap.objs.size:Nat)) (.bool false) (.ref d) (bX ((i:Int)+1)) (.int es.size 0) (.int ep 0) e.key e.val):=set_at g4;obtain⟨t5,k5⟩:=step (j:=0) (x:=bX (s.heap.objs.size:Nat)) t4 k4;show wpAny _ _ (_ >>= _) _ _ {s with heap:=H4.update it (Obj.mapFields λx=>x.setIfInBounds 0 (bX (s.heap.objs.size:Nat)))};generalize H4.update it (Obj.mapFields λx=>x.setIfInBounds 0 (bX (s.heap.objs.size:Nat)))=H5 at g5 t5 k5 ⊢;refine aa (bT g5 rfl (show 1<8 by decide) ?_);have g6:(H5.update it (Obj.mapFields λx=>x.setIfInBounds 1 (.bool false))).get? it=some (itF (bX (s.heap.objs.size:Nat)) (.bool false) (.ref d) (bX ((i:Int)+1)) (.int es.size 0) (.int ep 0) e.key e.val):=set_at g5;obtain⟨t6,k6⟩:=step (j:=1) (x:=.bool false) t5 k5;show wpAny _ _ (_ >>= _) _ _ {s with heap:=H5.update it (Obj.mapFields λx=>x.setIfInBounds 1 (.bool false))};generalize H5.update it (Obj.mapFields λx=>x.setIfInBounds 1 (.bool false))=H6 at g6 t6 k6 ⊢;refine aa (wpAny_letGo ?_);exact af (af (hQ H6 g6 t6 k6))
theorem PK{it d:Addr}{o:Obj}{es:Array DictEntry}{i ep:Nat}{ok ov:Value}{Q:Fin->ah->Prop}(hh:A.handled=none)(st:IsItemIter s.heap it d i es.size ep ok ov)(hd:s.heap.get? d=some o)(hdd:o.data=.dict es ep)(he:es[i]?=none)(hE:∀h' e,(∀c q,c≠it->s.heap.get? c=some q->h'.get? c=some q)->(∃o,h'.get? e=some o/\o.cls=.type "StopIteration")->E (.ref e) {s with heap:=h'}):wpAny (model prog w) A (bL.«dict_itemiterator.__next__» ⟨[.ref it],[]⟩) Q E s:=by
 have h1:s.heap.get? it=some (itF .none (.bool false) (.ref d) (.int i 0) (.int es.size 0) (.int ep 0) ok ov):=st;have hT:s.TypeIs (.ref it) "dict_itemiterator":=⟨_,h1,rfl⟩;unfold bL.«dict_itemiterator.__next__»;refine aa ?_;refine af ?_;refine aa ?_;refine aa ?_;refine aa (dj hT ?_);refine af ?_;refine aa (eQ h1 rfl ?_);show wpAny _ _ (if(Value.ref d==Value.none)=true then _ else _) _ _ _;rw[if_neg (show ¬(Value.ref d==Value.none)=true from λz=>nomatch z)];refine aa ?_;refine af ?_;refine aa (aY hd hdd ?_);rw[if_neg (by simp)];refine aa ?_;refine af ?_;refine aa (bg hd hdd ?_);rw[if_neg (by simp)];refine af ?_;have ei:(if(i:Int)<0 then none else es[((i:Int)).toNat]?)=none:=by rw[if_neg (by omega),Int.toNat_natCast];exact he
 show wpAny _ _ (match (if(i:Int)<0 then none else es[((i:Int)).toNat]?)with|some e=>_|none=>_) _ _ _
 rw[ei];refine aa ?_;refine aa (dj hT ?_);refine af ?_;refine aa (bT h1 rfl (show 2<8 by decide) ?_);show wpAny (model prog w) _ (newExc (.type "StopIteration") [] >>= _) _ _ _;refine aa ?_;simp only[newTuple,newExc];refine aa (aO (aa (m:=di _ _) (wpAny_of_eq (a:=Value.none) (by first|rfl|(simp only[di];rfl)) (aO ?_ (by size_fits)))) (by size_fits))
 simp only[raiseNew];refine aa (ia ?_);rw[hh];refine aa (af (wpAny_throw ?_));exact hE _ _ (((Heap.SameBut.update ..).extBut.push _).push _) ⟨_,Heap.get?_push_size _ rfl,rfl⟩
theorem PN{P:Program}{w:World}{es:Array DictEntry}{xs:List (List Key×Addr×Value)}(h:es.toList=xs.map (ie (bG (Zv P w)))){i:Nat}{x:List Key×Addr×Value}(hx:xs[i]?=some x):∃e,es[i]?=some e/\e.key=.ref x.2.1/\e.val=x.2.2:=by refine⟨ie (bG (Zv P w)) x,?_,rfl,rfl⟩;rw[<-d_,h,aW,hx];rfl
noncomputable def Iti(a:Addr)(o:Obj)(kvs:List (List Key×V)):It:=⟨λi H=>i<kvs.length/\H a=some (.frz o (.dT kvs)),λi H x H'=>∃(T b:Addr)(kv:List Key×V),H T=none/\kvs[i]?=some kv/\H b=some (.tup (kv.1.map kV))/\x=.ref T/\H'=upd H T (.tup [.ref b,kv.2]),λi H=>i=kvs.length/\H a=some (.frz o (.dT kvs))⟩
theorem N7{P:Program}{w:World}{K:ae}{es':List Expr}{k:Nat}{pt:Pos}{a it:Addr}{o:Obj}{kvs:List (List Key×V)}{es:Array DictEntry}{ep:Nat}(hdd:o.data=.dict es ep)(hsz:es.size=kvs.length):
  Turn P w K (.Tuple es' k pt) (Iti a o kvs) [it] it (λi h=>∃ok ov,IsItemIter h it a i es.size ep ok ov) where
 mem:=by simp
 obj:=λi h st b hb=>by
  have e:b=it:=by simpa using hb
  subst e
  obtain⟨ok,ov,e⟩:=st
  exact⟨_,e,λv z=>by cases z⟩
 keep:=λi h h' st k=>by
  obtain⟨ok,ov,e⟩:=st
  exact⟨ok,ov,k it (by simp) _ e⟩
 item:=by
  intro X hP hw hK hc i pins s σ H E I hf st hg
  subst hP hw hK
  obtain⟨hi,hq⟩:=hg
  obtain⟨ok,ov,st⟩:=st
  obtain⟨ho,z,hd,xs,rel,o',es2,ep2,h1,h2,h3,h4,h5⟩:=I.hok a _ hq
  rw[ho]at h1
  cases h1
  rw[hdd]at h3
  cases h3
  have hl:=aR rel
  have hi':i<xs.length:=by omega
  obtain⟨e,he,ek,ev⟩:=PN h4 (gE hi')
  have hkv:=gE hi
  obtain⟨r1,r2,r3⟩:=ZK rel hkv (gE hi')
  have hT:s.TypeIs (.ref it) "dict_itemiterator":=⟨_,st,rfl⟩
  unfold gU
  refine aa (fo (bf (name:=Str.ofString "__next__") hT F.slot_dict_itemiterator_next (a9 F.slot_dict_itemiterator_next hT F.entry_dict_itemiterator_next ?_ (F.args_dict_itemiterator_next_1 _))))
  refine NJ st ho hdd he λh' st' t' kk=>⟨_,rfl,af ?_⟩
  generalize hTT:s.heap.objs.size=T at st' t'
  have hTs:s.heap.objs.size<=T:=Nat.le_of_eq hTT
  refine⟨_,rfl,?_⟩
  refine wpAny_letOwnedTupleGo_items (s:={s with heap:=h'}) st' λh2 st2 s2=>?_
  have hTn:H T=none:=I.hok.fresh hTs
  have hap:T≠it:=by rw[<-hTT];exact Nat.ne_of_gt (Heap.lt_size st)
  have hb2:∀c,c≠it->∀o,s.heap.get? c=some o->h2.get? c=some o:=λc hcn o q=>(s2.2 c hcn).trans (kk c o hcn q)
  have nb:∀c u,H c=some u->c≠it:=λc u q hcn=>by rw[hcn,(hf it (by simp)).1]at q;cases q
  have I1:Inv X pins σ (upd H T (.tup [.ref xs[i].2.1,kvs[i].2])) {s with heap:=h2,toks:=s.toks}:=by
   refine I.step (g':=s.gens) (d':=s.drawn) (ch:=[it]) (λc hcn=>?_) (λc o _ _ hcn q _=>hb2 c (by simpa using hcn) o q) (λc o _ _ hcn q _=>⟨o.slots,hb2 c (by simpa using hcn) o q⟩)
    (λc o hcn q n=>?_) (λc o hcn q=>⟨o,hb2 c (by simpa using hcn) o q⟩) (λc xs q=>?_) (λc o u q=>?_) (λc ps q=>?_) (λm hm=>?_) ?_ I.bare
   ·obtain⟨g0,g1,g2,g3,g4,g5⟩:=hf c hcn
    exact⟨g3,g1,g4,g5⟩
   ·rw[Zc (Nat.ne_of_lt (Nat.lt_of_lt_of_le (Heap.lt_size q) hTs))];exact n
   ·rw[Zc (ne_of_none q hTn)];exact q
   ·rw[Zc (ne_of_none q hTn)];exact q
   ·exact⟨#[],by rw[Zc (ne_of_none q hTn),q];simp⟩
   ·obtain⟨o,es',ep,ho,r⟩:=hm
    refine⟨o,es',ep,hb2 _ ?_ o ho,r⟩
    intro hcn
    obtain⟨g0,g1,_⟩:=hf it (by simp)
    exact g1 hcn.symm
   ·intro c ob q
    by_cases hcT:c=T
    ·subst hcT
     rw[Zd]at q
     cases q
     refine⟨zl,[e.key,e.val],.cons (by rw[ek];rfl) (.cons (by rw[ev];exact r3) .nil),⟨_,(s2.2 _ hap).trans t',rfl,_,rfl⟩⟩
    ·rw[Zc hcT]at q
     refine(I.hok c ob q).stay (λc' v hc' q'=>hb2 c' ?_ v q') (λc' q'=>by rw[Zc (ne_of_none q' hTn)];exact q') λc' xs q'=>by rw[Zc (ne_of_none q' hTn)];exact q'
     rcases hc' with rfl|hc'
     ·exact nb _ _ q
     ·exact nb _ _ hc'
  refine⟨.ref T,_,I1,rfl,⟨T,xs[i].2.1,kvs[i],hTn,hkv,r2,rfl,rfl⟩,⟨_,_,st2⟩,λc hcn=>?_⟩
  have e':c=it:=by simpa using hcn
  rw[e',Zc hap.symm]
  exact(hf it (by simp)).1
 done:=by
  intro X hP hw hK hc i pins s σ H E I hf st hg
  subst hP hw hK
  obtain⟨hi,hq⟩:=hg
  obtain⟨ok,ov,st⟩:=st
  have ho:=(I.hok a _ hq).1
  obtain⟨f0,f1,f2,f3,f4,f5⟩:=hf it (by simp)
  have hT:s.TypeIs (.ref it) "dict_itemiterator":=⟨_,st,rfl⟩
  unfold gU
  refine aa (fo (bf (name:=Str.ofString "__next__") hT F.slot_dict_itemiterator_next (a9 F.slot_dict_itemiterator_next hT F.entry_dict_itemiterator_next ?_ (F.args_dict_itemiterator_next_1 _))))
  refine PK (I.ok.hd hc) st ho hdd (by simp;omega) λh' e hk he=>?_
  obtain⟨o',ho',hc'⟩:=he
  refine aa (fe (T:="StopIteration") (b:=true) ⟨o',ho',hc'⟩ isSubtype_stop ?_)
  exact af ⟨rfl,I.turned (t':=s.toks) hk f0 f1 f3 f4 f5⟩
 self:=λ_ _ _ _ _ st h=>by
  obtain⟨ok,ov,st⟩:=st
  exact PySem.W.kcp_self st h
noncomputable def Ua(d:Addr):Obj:={cls:=.type "dict_items",data:=.fields #[.ref d]}
theorem TX{d:Addr}(hs:(d==bu)=false):MeetsIn prog w (bL.«dict.items» ⟨[.ref d],[]⟩) (λA R s=>(∃es ep,RawD s.heap d es ep)/\R (.ok (.ret (.ref s.heap.objs.size))) {s with heap:=s.heap.push (Ua d)}):=.of_wp λA R s hZ=>by obtain⟨⟨es,ep,o,ho,ex,hd⟩,h⟩:=hZ;have hT:s.TypeIs (.ref d) "dict":=⟨o,ho,ex.1⟩;unfold bL.«dict.items»;refine aa ?_;unfold fN;refine aa (cM hT ?_);refine aa ?_;refine af ?_;refine aa ?_;refine af ?_;refine af ?_;refine aa ?_;unfold dX;rw[if_neg (by rw[hs];exact Bool.false_ne_true)];refine af ?_;unfold newFields;refine aa (aO ?_ (by size_fits));exact af ⟨_,rfl,h⟩
theorem RE{v d:Addr}{es:Array DictEntry}{ep:Nat}{Q:Value->ah->Prop}(hv:s.heap.get? v=some (Ua d))(h:RawD s.heap d es ep)(hQ:Q (.ref s.heap.objs.size) {s with heap:=s.heap.push (itF .none (.bool false) (.ref d) (.int 0 0) (.int es.size 0) (.int ep 0) .none .none)}):wpAny (model prog w) A (pyIter (.ref v)) Q E s:=by obtain⟨o,ho,ex,hd⟩:=h;have hT:s.TypeIs (.ref v) "dict_items":=⟨_,hv,rfl⟩;refine wpAny_pyIter_slot hT F.slot_dict_items_iter (a9 F.slot_dict_items_iter hT F.entry_dict_items_iter ?_ (F.args_dict_items_iter_1 _));unfold bL.«dict_items.__iter__»;refine aa ?_;refine af ?_;refine aa ?_;unfold gh;refine aa (cA hv rfl rfl ?_);refine af ?_;refine aa ?_;unfold fO;refine aa (aY ho hd ?_);refine aa (bg ho hd ?_);unfold newFields;refine aO ?_ (by show 8<=_;decide);refine af ⟨_,rfl,"dict_itemiterator",_,⟨_,Heap.get?_push_size _ rfl,rfl⟩,F.slot_dict_itemiterator_next.lookup,?_⟩;exact hQ
end
section
variable {X:Cx}{pins:List (Addr×Obj)}{σ:St}{H:Hp}{s:ah}{a:Addr}{o:Obj}{u:HO}
theorem Inv.thaw(I:Inv X pins σ H s)(e:H a=some (.frz o u))(h0:∀o' u',X.H₀ a≠some (.frz o' u')):Inv X pins σ (upd H a u) s:=by
 have ne:∀{c:Addr},H c=none->c≠a:=λh z=>by rw[z,e]at h;cases h
 have nt:∀{c:Addr}{xs:List V},H c=some (.tup xs)->c≠a:=λh z=>by rw[z,e]at h;cases h
 have nw:∀{c y:Addr},H c=some (.own y)->c≠a:=λh z=>by rw[z,e]at h;cases h
 refine⟨I.ok,I.os,I.bare,⟨I.base.keep,I.base.slot,λb ob q n hx=>?_,I.base.there,λb xs q=>?_,λb ob v q=>?_,λb ps q=>?_⟩,I.loc,I.cell,?_,λx c q=>?_,λp hp=>?_,λb v q=>?_,I.len⟩
 ·have:=I.base.free b ob q n hx;rw[Zc (ne this)];exact this
 ·have z:=I.base.tups b xs q;rw[Zc (nt z)];exact z
 ·rw[Zc (λz=>h0 _ _ (z▸q))];exact I.base.frzs b ob v q
 ·obtain⟨m,hm⟩:=I.base.tbls b ps q;exact⟨m,by rw[Zc (λz=>by rw[z,e]at hm;cases hm)];exact hm⟩
 ·rw[Zc (ne I.free)];exact I.free
 ·rw[Zc (ne (I.freeC x c q))];exact I.freeC x c q
 ·obtain⟨p1,p2,p3⟩:=I.pin p hp;exact⟨p1,by rw[Zc (ne p2)];exact p2,p3⟩
 ·by_cases hb:b=a
  ·subst hb;rw[Zd]at q;cases q;exact(I.hok b _ e).2.stay (λ_ _ _ z=>z) (λc z=>by rw[Zc (nw z)];exact z) λc xs z=>by rw[Zc (nt z)];exact z
  ·rw[Zc hb]at q;exact(I.hok b v q).stay (λ_ _ _ z=>z) (λc z=>by rw[Zc (nw z)];exact z) λc xs z=>by rw[Zc (nt z)];exact z
def Ef(H0:Hp)(t:TS):TS:=λD σ H=>t {D with nx:=λσ' H'=>∃a o u,H' a=some (.frz o u)/\(∀o' u',H0 a≠some (.frz o' u'))/\D.nx σ' (upd H' a u)} σ H
theorem Uw{st:Stmt}{t:TS}(h:PS X st t):PS X st (Ef X.H₀ t):=by
 intro pins s σ H D I q;refine dz (h pins s σ H _ I q) (λr s1 hq=>?_) λ_ _ e=>e;cases r with
|next=>obtain⟨σ',H',I',a,o,u,e1,e0,q'⟩:=hq;exact⟨σ',_,I'.thaw e1 e0,q'⟩
|_=>exact hq
noncomputable def Dz(tl:TE):TI:=λσ H R=>tl σ H λx H1=>∃a kvs,x=.ref a/\H1 a=some (.dT kvs)/\∀o,R (Iti a o kvs) (upd H1 a (.frz o (.dT kvs)))
theorem Ts{o:Expr}{to:TE}{es':List Expr}{k:Nat}{pt apos cpos:Pos}(ho:PE X o to)(hbase:c8 o "items" X.env (eval o X.env)=eval o X.env:=by rfl)(hline:(apos.endLine==cpos.line)=true:=by rfl):PI X (.Tuple es' k pt) (.Call (.Attribute o "items" apos) [] [] cpos) (Dz to):=by
 intro pins s σ H R I h;refine f_ hbase hline (thn (ho pins s σ H _ I h) λv s1 hZ=>?_);obtain⟨x,H1,I1,r1,a,kvs,ex,hq,q⟩:=hZ;subst ex;cases r1;obtain⟨z,hd,xs,rel,ob,es,ep,h1,h2,h3,h4,h5,h6⟩:=Gh I1.hok hq;have hT:s1.TypeIs (.ref a) "dict":=⟨ob,h1,h2.1⟩;refine⟨"dict",_,cS,PySem.F.slot_dict_items,PySem.F.type_dict_items,hT,λb e=>by cases e;exact⟨ob,h1,h2.2.1⟩,cv rfl (gw ?_)⟩;refine fC PySem.F.slot_dict_items hT PySem.F.entry_dict_items (PySem.F.args_dict_items_1 _) (TX hd) ⟨⟨es,ep,ob,h1,h2,h3⟩,?_⟩;have hlen:=aR rel;have hsz:es.size=kvs.length:=by rw[<-bz,h4,lm,hlen]
 have I2:Inv X pins σ (upd H1 a (.frz ob (.dT kvs))) s1:=I1.write (x:=a) (e:=a) (h':=s1.heap) (t':=s1.toks) (o:=.frz ob (.dT kvs)) (by rw[hq];exact bB) (.inl rfl) (λb u _ z=>z) ⟨ob,h1⟩ ⟨h1,?_⟩
 ·refine RE (s:={s1 with heap:=s1.heap.push (Ua a)}) (v:=s1.heap.objs.size) (d:=a) (es:=es) (ep:=ep) (Heap.get?_push_size _ rfl) ⟨ob,Heap.get?_push_of_some _ h1,h2,h3⟩ ?_;have n1:(s1.heap.push (Ua a)).objs.size=s1.heap.objs.size+1:=Heap.size_push ..;have hle:s1.heap.objs.size<=(s1.heap.push (Ua a)).objs.size:=by rw[n1];exact Nat.le_succ _
  refine⟨(s1.heap.push (Ua a)).objs.size,[(s1.heap.push (Ua a)).objs.size],_,_,_,rfl,I2.kept (t':=s1.toks) λb o e=>Heap.get?_push_of_some _ (Heap.get?_push_of_some _ e),N7 h3 hsz,⟨_,_,Heap.get?_push_size _ rfl⟩,λb hb=>?_,q ob⟩;have e:b=(s1.heap.push (Ua a)).objs.size:=by simpa using hb
  subst e;exact I2.fpOk hle (I2.hok.fresh hle)
 ·have h0:ZY X.prog X.w H1 s1.heap a (.dT kvs):=I1.hok a _ hq;exact h0.stay (λ_ _ _ z=>z) (λc z=>by rw[Zc (ne_of z hq (λq=>nomatch q))];exact z) λc xs z=>by rw[Zc (ne_of z hq (λq=>nomatch q))];exact z
end
end L2
namespace SX
open PySem L2 PySem.Spec PyProof.Rows TB WD
noncomputable def Zx:PyData->MK
|.str a=>.inl (.inr a)
|.tuple [.str a,.int i]=>.inr [.inr a,.inl i]
|_=>.inl (.inr "")
theorem Vr{H:Hp}{v:V}{d:PyData}(n:NL d)(h:Is H v d):KyM H (Zx d) v:=by
 rcases n with⟨a,rfl⟩|⟨a,i,rfl⟩
 ·cases h with
 |str=>exact(rfl:V.str a=kV (.inr a))
 ·cases h with
 |tup e r=>
   cases r with
  |cons h1 r=>
   cases r with
  |cons h2 r=>
   cases r;cases h1;cases h2;exact⟨_,rfl,e⟩
def Nb:Sp:=λvs H Q _=>∃(b pw l1 l2 l3 l4:Addr)(T:Tb),vs=[.ref pw]/\TbAt b H pw T l1 l2 l3 l4/\OkTb T/\∀H' p,Same H H'->H p=none->Dc H' p (allS T)->Q (.ref p) H'
theorem W7{H H1:Hp}{p a k:Addr}{L:List Sx}{S:Sx}{R:Hp->Prop}(hno:H p=none)(s:Zi p H H1)(dc:Dc H1 p L)(hl:L.length<=20000)(hv:Is H1 (.ref a) (XG S))(hk:H1 k=some (.tup (S.key.map kV)))(r:∀H2,Zi p H H2->Dc H2 p (L++[S])->R H2):∃d H2,V.ref p=.ref d/\DPut H1 d (.ref k) (.ref a) H2/\R H2:=by obtain⟨kvs,e,l,h1,h2⟩:=dc;refine⟨p,_,rfl,DPut.t e hk (Nat.lt_of_le_of_lt (Nat.le_trans l hl) (by decide)),r _ ?_ (Dc.put e l h1 h2 hv)⟩;intro c o ec hc;rw[Zc hc];exact s c o ec hc
theorem Uu{H H1:Hp}{p a k:Addr}{ks:List V}(hk:H1 k=none){L:List Sx}{S:Sx}(e:ks=S.key.map kV){R:Hp->Prop}(hno:H p=none)(s:Zi p H H1)(dc:Dc H1 p L)(hl:L.length<=20000)(hv:Is H1 (.ref a) (XG S))(r:∀H2,Zi p H H2->Dc H2 p (L++[S])->R H2):∃d H2,V.ref p=.ref d/\DPut (upd H1 k (.tup ks)) d (.ref k) (.ref a) H2/\R H2:=by subst e;have S1:=sameNew (o:=.tup (S.key.map kV)) (Same.refl H1) hk;exact W7 hno (s.trans (Zi.of S1)) (dc.same S1) hl (hv.same S1) Zd r
section
variable {P:Program}{w:World}{K:ae}{mg:Str->Option Value}{base:Heap}{C:Addr}{Cs:Nat->Addr}
theorem Zp:FnScope [q_w,"_law_turns","_law_places","_law_rides_here","_law_ways_here","_law_groups_here","_law_steps_here","_law_name","_law_place","_law_turn","_law_many","_law_at","_law_start","_law_leave","_law_goal","_law_come","_law_seats","_law_long","_law_wide","_law_room"] [q_w] (Zf T.f__law_steps):=scO
theorem Qb(B:∀x∈Blts,mg x=none)(D:Df K mg "_law_steps" T.f__law_steps [q_w]):Can P w K mg base 1 "_law_steps" [q_w] Nb:=by
 refine D.cn Zp λf cdv A outer s H vs Q E hr h=>?_;obtain⟨b,pw,l1,l2,l3,l4,T,rfl,tb,ok,k⟩:=h;refine' ⟨_,(@Za _ _ _ _ _ ?h24 (@Za _ _ _ _ _ ?h25 (@Za _ _ _ _ _ ?h26 (@Za _ _ _ _ _ ?h27 (@Za _ _ _ _ _ ?h28 (@Za _ _ _ _ _ ?h29 (@Ze _ _ _ ?h30))))))),?rd⟩;case' h30=>refine' (Zk (pv 6))
 case' h29=>refine' (ZW aD rfl (Z6 (pv 2)) (YB rfl (Zn (nmT 8 Zp.nd) (Zn (nmT 19 Zp.nd) Yc))) (@Ze _ _ _ ?h23))
 case' h28=>refine' (ZW aD rfl (Z6 (pv 4)) (YB rfl (Zn (nmT 7 Zp.nd) (Zn (nmT 12 Zp.nd) (Zn (nmT 14 Zp.nd) (Zn (nmT 17 Zp.nd) (Zn (nmT 18 Zp.nd) Yc)))))) (@Ze _ _ _ ?h16))
 case' h27=>refine' (ZW aD rfl (Z6 (pv 3)) (YB rfl (Zn (nmT 7 Zp.nd) (Zn (nmT 12 Zp.nd) (Zn (nmT 13 Zp.nd) (Zn (nmT 14 Zp.nd) (Zn (nmT 15 Zp.nd) (Zn (nmT 16 Zp.nd) Yc))))))) (@Ze _ _ _ ?h10))
 case' h26=>refine' (ZW aD rfl (Z6 (pv 5)) (YB rfl (Zn (nmT 7 Zp.nd) (Zn (nmT 8 Zp.nd) (Zn (nmT 9 Zp.nd) (Zn (nmT 10 Zp.nd) Yc))))) (@Ze _ _ _ ?h5))
 case' h25=>refine' (@st _ _ _ _ 6 _ _ Zp.nd Y9 (by rfl) (by exact aN rfl) (by rfl) (by exact .inl rfl))
 case' h24=>refine' (Mt (pv 0) (LA rfl (Zn (nmT 1 Zp.nd) (Zn (nmT 2 Zp.nd) (Zn (nmT 3 Zp.nd) (Zn (nmT 4 Zp.nd) (Zn (nmT 5 Zp.nd) Yc)))))))
 case' h23=>refine' (@ZD _ _ _ _ _ _ _ _ (@Zr _ _ _ _ _ _ _ _ Vp (pv 19) ZZ (Zw _)) (@Ze _ _ _ ?h22) Zo)
 case' h22=>refine' (ZW aD rfl (YY rfl (bm B) (@pa1 _ _ _ (pv 1) (by rfl))) (nmT 11 Zp.nd) (@Ze _ _ _ ?h21))
 case' h21=>refine' (Yx (ZT hr) (pv 6) ?h17 ?h20 rfl)
 case' h20=>refine' (@ZE _ _ _ _ _ (@Zh _ _ _ _ _ ?h19 (@pa3 _ _ _ _ _ _ _ ?h18 (pv 19) Zb (by rfl)) (by rfl)))
 case' h19=>refine' (@ZE _ _ _ _ _ (@pa2 _ _ _ _ _ (pv 8) (pv 11) (by rfl)))
 case' h18=>refine' (@ZE _ _ _ _ _ (@pa2 _ _ _ _ _ (pv 8) (Zt ZQ (pv 11) Zb) (by rfl)))
 case' h17=>refine' (@ZE _ _ _ _ _ (@pa3 _ _ _ _ _ _ _ ZC (pv 8) (pv 11) (by rfl)))
 case' h16=>refine' (ZW aD rfl (YY rfl (bm B) (@pa1 _ _ _ (Zt Xe (Zt ZQ (pv 1) Zb) (pv 17)) (by rfl))) (nmT 11 Zp.nd) (@Ze _ _ _ ?h15))
 case' h15=>refine' (Yx (ZT hr) (pv 6) ?h11 ?h14 rfl)
 case' h14=>refine' (@ZE _ _ _ _ _ (@Zh _ _ _ _ _ ?h13 (@pa3 _ _ _ _ _ _ _ ?h12 (pv 18) (pv 17) (by rfl)) (by rfl)))
 case' h13=>refine' (@ZE _ _ _ _ _ (@pa2 _ _ _ _ _ (pv 12) (pv 11) (by rfl)))
 case' h12=>refine' (@ZE _ _ _ _ _ (@pa2 _ _ _ _ _ (pv 14) (Zt ZQ (pv 11) (pv 17)) (by rfl)))
 case' h11=>refine' (@ZE _ _ _ _ _ (@pa3 _ _ _ _ _ _ _ ZC (pv 7) (pv 11) (by rfl)))
 case' h10=>refine' (Yx (ZT hr) (pv 6) ?h6 ?h9 rfl)
 case' h9=>refine' (@ZE _ _ _ _ _ (@Zh _ _ _ _ _ ?h8 (@pa3 _ _ _ _ _ _ _ ?h7 (pv 16) (Zt Xe (pv 15) (pv 13)) (by rfl)) (by rfl)))
 case' h8=>refine' (@ZE _ _ _ _ _ (@pa2 _ _ _ _ _ (pv 12) (pv 13) (by rfl)))
 case' h7=>refine' (@ZE _ _ _ _ _ (@pa2 _ _ _ _ _ (pv 14) (pv 15) (by rfl)))
 case' h6=>refine' (@ZE _ _ _ _ _ (@pa2 _ _ _ _ _ ZC (pv 7) (by rfl)))
 case' h5=>refine' (ZW aD rfl (Rk rfl (bm B) (@pa2 _ _ _ _ _ (pv 9) (Zt ZQ (pv 1) Zb) (by rfl))) (nmT 11 Zp.nd) (@Ze _ _ _ ?h4))
 case' h4=>refine' (Yx (ZT hr) (pv 6) ?h1 ?h3 rfl)
 case' h3=>refine' (@ZE _ _ _ _ _ (@Zh _ _ _ _ _ (pv 7) (@pa3 _ _ _ _ _ _ _ ?h2 ZZ Zb (by rfl)) (by rfl)))
 case' h2=>refine' (@ZE _ _ _ _ _ (@pa2 _ _ _ _ _ (pv 8) (pv 11) (by rfl)))
 case' h1=>refine' (@ZE _ _ _ _ _ (@pa3 _ _ _ _ _ _ _ ZC (pv 7) (pv 11) (by rfl)))
 have n0:=ok.n0;have n1:=ok.n1;obtain⟨m1,m2,m3,m4⟩:=Jf ok;obtain⟨z1,z2,z3,z4⟩:=QC ok;refine⟨_,rfl,pw,_,rfl,SqL.of tb.at_,rfl,_,_,rfl,_,_,rfl,_,_,rfl,_,_,rfl,_,_,rfl,rfl,λp hp=>?_⟩;have D0:Dc (upd H p (.dT [])) p []:=⟨[],Zd,Nat.le_refl _,⟨[],.nil,rfl⟩,trivial⟩;have S0:Zi p H (upd H p (.dT [])):=λc o e hc=>by rw[Zc hc];exact e
 generalize upd H p (.dT [])=H0 at D0 S0 ⊢;have nw:∀{c:Addr}{o:HO},H c=some o->c≠p:=λe=>ne_of_none e hp;have rw4:∀{H':Hp},Zi p H H'->RowsAt b H' l4 T.t4:=λs=>tb.gr.keepB hp s;have rw3:∀{H':Hp},Zi p H H'->RowsAt b H' l3 T.t3:=λs=>tb.wy.keepB hp s;have rw2:∀{H':Hp},Zi p H H'->RowsAt b H' l2 T.t2:=λs=>tb.rd.keepB hp s;have rw1:∀{H':Hp},Zi p H H'->RowsAt b H' l1 T.t1:=λs=>tb.pl.keepB hp s;have DD:∀{H':Hp}{L:List Sx},Dc H' p L->Dc H' p (L++[]):=λh=>by rw[bp];exact h
 refine⟨_,rfl,l4,rfl,⟨_,SqL.of (rw4 S0).2.choose_spec.1⟩,?_⟩;refine Z8 (J:=Itl K l4) T.t4.length (λi σ H'=>Zi p H H'/\Dc H' p ((T.t4.take i).flatMap (Yn T))/\∃o7 o8 o9 o10 o11 o12 o13 o14 o15 o16 o17 o18 o19,σ=[some (.ref pw),some (.int T.n),some (.ref l1),some (.ref l2),some (.ref l3),some (.ref l4),some (.ref p),o7,o8,o9,o10,o11,o12,o13,o14,o15,o16,o17,o18,o19]) ⟨S0,D0,_,_,_,_,_,_,_,_,_,_,_,_,_,rfl⟩ (λi σ H' hi q=>(rw4 q.1).go hi) (λσ H' q=>(rw4 q.1).stop) (λi σ H' x H2 hi q yl=>?_) (λσ H1 q=>?_)
 ·obtain⟨s1,dc,o7,o8,o9,o10,o11,o12,o13,o14,o15,o16,o17,o18,o19,rfl⟩:=q;have e0:T.t4[i]?=some T.t4[i]:=gE hi;obtain⟨rfl,a,rfl,na,ha⟩:=(rw4 s1).item e0 yl;have hy:T.t4[i]∈T.t4:=aL hi;have le1:=UI (f:=Yn T) (t:=T.t4) i;have le2:=Nq ok hy;rw[V2 hi];generalize T.t4[i]=y at ha hy le2;obtain⟨a1,b1,c1,d1,rfl,ga,gb,c0,c2,_,_⟩:=Y5 ok hy;refine⟨a,_,rfl,SqT.of ha,rfl,_,_,rfl,_,_,rfl,_,_,rfl,_,_,rfl,rfl,?_⟩;refine⟨_,rfl,_,rfl,_,_,rfl,rfl,c1,T.n+1,rfl,⟨by omega,by omega,by omega,by omega⟩,?_⟩;refine V1 (lo:=c1) (n:=(T.n+1-c1).toNat) (λm σ' H'=>Zi p H H'/\Dc H' p ((T.t4.take i).flatMap (Yn T)++(Yn T [.str a1,.str b1,.int c1,.int d1]).take m)/\∃o11 o12 o13 o14 o15 o16 o17 o18 o19,σ'=[some (.ref pw),some (.int T.n),some (.ref l1),some (.ref l2),some (.ref l3),some (.ref l4),some (.ref p),some (.str a1),some (.str b1),some (.int c1),some (.int d1),o11,o12,o13,o14,o15,o16,o17,o18,o19]) ⟨s1,DD dc,_,_,_,_,_,_,_,_,_,rfl⟩ (λm σ' H' hm q=>?_) (λσ' H' q=>?_)
  ·obtain⟨s2,dc2,o11,o12,o13,o14,o15,o16,o17,o18,o19,rfl⟩:=q;refine⟨_,rfl,_,rfl,_,rfl,zl,λq1 h1=>?_⟩;try dsimp only[tNil]
   refine nl2 h1 λH3 S3 e3=>?_;refine⟨zl,λq2 h2=>?_⟩;try dsimp only[tNil]
   refine nl2 h2 λH4 S4 e4=>?_;refine⟨_,rfl,_,rfl,_,rfl,zl,λq3 h3=>?_⟩;try dsimp only[tNil]
   have S35:=S3.trans S4;refine Uu h3 rfl (S:=outS [.str a1,.str b1,.int c1,.int d1] (c1+m)) hp (s2.trans (Zi.of S35)) (dc2.same S35) ?_ (.tup e4 (.cons (.str _) (.cons (.tup (S4 _ _ e3) (.cons (.str _) (.cons (.int _) .nil))) (.cons .non (.cons (.int _) .nil))))) λH6 s6 dc6=>⟨s6,?_,_,_,_,_,_,_,_,_,_,rfl⟩
   ·rw[av,aF];omega
   ·rw[show Yn T [.str a1,.str b1,.int c1,.int d1]=(bh (T.n+1-c1).toNat).map λ(m:Nat)=>outS [.str a1,.str b1,.int c1,.int d1] (c1+m)from rfl]at dc6 ⊢;rw[JY hm,<-bW];exact dc6
  ·obtain⟨s2,dc2,o11,o12,o13,o14,o15,o16,o17,o18,o19,rfl⟩:=q;refine⟨s2,?_,_,_,_,_,_,_,_,_,_,_,_,_,_,rfl⟩;rw[show(Yn T [.str a1,.str b1,.int c1,.int d1]).take (T.n+1-c1).toNat=Yn T [.str a1,.str b1,.int c1,.int d1]from bj (by unfold Yn;rw[lm,dB];exact Nat.le_refl _)]at dc2;exact dc2
 obtain⟨s1,dc1,o7,o8,o9,o10,o11,o12,o13,o14,o15,o16,o17,o18,o19,rfl⟩:=q;rw[aH]at dc1;refine⟨_,rfl,l2,rfl,⟨_,SqL.of (rw2 s1).2.choose_spec.1⟩,?_⟩;refine Z8 (J:=Itl K l2) T.t2.length (λi σ H'=>Zi p H H'/\Dc H' p (T.t4.flatMap (Yn T)++(T.t2.take i).map XQ)/\∃o7 o8 o9 o10 o11 o12 o13 o14 o15 o16 o17 o18 o19,σ=[some (.ref pw),some (.int T.n),some (.ref l1),some (.ref l2),some (.ref l3),some (.ref l4),some (.ref p),o7,o8,o9,o10,o11,o12,o13,o14,o15,o16,o17,o18,o19]) ⟨s1,DD dc1,_,_,_,_,_,_,_,_,_,_,_,_,_,rfl⟩ (λi σ H' hi q=>(rw2 q.1).go hi) (λσ H' q=>(rw2 q.1).stop) (λi σ H' x H2 hi q yl=>?_) (λσ H1 q=>?_)
 ·obtain⟨s2,dc,o7,o8,o9,o10,o11,o12,o13,o14,o15,o16,o17,o18,o19,rfl⟩:=q;have e0:T.t2[i]?=some T.t2[i]:=gE hi;obtain⟨rfl,a,rfl,na,ha⟩:=(rw2 s2).item e0 yl;have hy:T.t2[i]∈T.t2:=aL hi;have le1:((T.t2.take i).map XQ).length<=80:=by rw[lm,aF];omega
  rw[map_take hi];generalize T.t2[i]=y at ha hy;obtain⟨a1,b1,d1,c1,e1,f1,rfl,_⟩:=UX ok hy;refine⟨a,_,rfl,SqT.of ha,rfl,_,_,rfl,_,_,rfl,_,_,rfl,_,_,rfl,_,_,rfl,_,_,rfl,rfl,?_⟩;refine⟨_,rfl,_,rfl,zl,λq1 h1=>?_⟩;try dsimp only[tNil]
  refine nl2 h1 λH3 S3 e3=>?_;refine⟨_,rfl,_,rfl,zl,λq2 h2=>?_⟩;try dsimp only[tNil]
  refine nl2 h2 λH4 S4 e4=>?_;refine⟨_,rfl,_,rfl,_,rfl,_,_,rfl,rfl,zl,λq3 h3=>?_⟩;try dsimp only[tNil]
  refine nl2 h3 λH5 S5 e5=>?_;refine⟨_,rfl,_,rfl,zl,λq4 h4=>?_⟩;try dsimp only[tNil]
  have S36:=(S3.trans S4).trans S5;refine Uu h4 rfl (S:=XQ [.str a1,.str b1,.int c1,.str d1,.int e1,.int f1]) hp (s2.trans (Zi.of S36)) (dc.same S36) (by rw[av];omega) (.tup e5 (.cons (.tup (S5 _ _ (S4 _ _ e3)) (.cons (.str _) (.cons (.int _) .nil))) (.cons (.tup (S5 _ _ e4) (.cons (.str _) (.cons (.int _) .nil))) (.cons (.int _) (.cons (.int _) .nil))))) λH7 s7 dc7=>⟨s7,?_,_,_,_,_,_,_,_,_,_,_,_,_,_,rfl⟩;rw[<-bW];exact dc7
 obtain⟨s2,dc2,o7,o8,o9,o10,o11,o12,o13,o14,o15,o16,o17,o18,o19,rfl⟩:=q;rw[aH]at dc2;refine⟨_,rfl,l3,rfl,⟨_,SqL.of (rw3 s2).2.choose_spec.1⟩,?_⟩;refine Z8 (J:=Itl K l3) T.t3.length (λi σ H'=>Zi p H H'/\Dc H' p ((T.t4.flatMap (Yn T)++T.t2.map XQ)++(T.t3.take i).flatMap (Yg T))/\∃o7 o8 o9 o10 o11 o12 o13 o14 o15 o16 o17 o18 o19,σ=[some (.ref pw),some (.int T.n),some (.ref l1),some (.ref l2),some (.ref l3),some (.ref l4),some (.ref p),o7,o8,o9,o10,o11,o12,o13,o14,o15,o16,o17,o18,o19]) ⟨s2,DD dc2,_,_,_,_,_,_,_,_,_,_,_,_,_,rfl⟩ (λi σ H' hi q=>(rw3 q.1).go hi) (λσ H' q=>(rw3 q.1).stop) (λi σ H' x H2 hi q yl=>?_) (λσ H1 q=>?_)
 ·obtain⟨s3,dc,o7,o8,o9,o10,o11,o12,o13,o14,o15,o16,o17,o18,o19,rfl⟩:=q;have e0:T.t3[i]?=some T.t3[i]:=gE hi;obtain⟨rfl,a,rfl,na,ha⟩:=(rw3 s3).item e0 yl;have hy:T.t3[i]∈T.t3:=aL hi;have le1:=UI (f:=Yg T) (t:=T.t3) i;have le2:=GI ok hy;rw[V2 hi];generalize T.t3[i]=y at ha hy le2;obtain⟨a1,b1,c1,d1,e1,rfl,_,_,_,c0,c2,_⟩:=GV ok hy;refine⟨a,_,rfl,SqT.of ha,rfl,_,_,rfl,_,_,rfl,_,_,rfl,_,_,rfl,_,_,rfl,rfl,?_⟩;refine⟨_,rfl,_,_,rfl,rfl,_,rfl,_,_,rfl,rfl,T.n+1-d1,rfl,by omega,by omega,?_⟩;refine V1 (lo:=0) (n:=(T.n+1-d1).toNat) (λm σ' H'=>Zi p H H'/\Dc H' p (((T.t4.flatMap (Yn T)++T.t2.map XQ)++(T.t3.take i).flatMap (Yg T))++(Yg T [.str a1,.str b1,.str c1,.int d1,.int e1]).take m)/\∃o8 o9 o10 o11 o13 o15 o16 o19,σ'=[some (.ref pw),some (.int T.n),some (.ref l1),some (.ref l2),some (.ref l3),some (.ref l4),some (.ref p),some (.str a1),o8,o9,o10,o11,some (.str b1),o13,some (.str c1),o15,o16,some (.int d1),some (.int e1),o19]) ⟨s3,DD dc,_,_,_,_,_,_,_,_,rfl⟩ (λm σ' H' hm q=>?_) (λσ' H' q=>?_)
  ·obtain⟨s4,dc4,o8,o9,o10,o11,o13,o15,o16,o19,rfl⟩:=q;refine⟨_,rfl,_,rfl,zl,λq1 h1=>?_⟩;try dsimp only[tNil]
   refine nl2 h1 λH3 S3 e3=>?_;refine⟨_,rfl,_,rfl,_,rfl,_,_,rfl,rfl,zl,λq2 h2=>?_⟩;try dsimp only[tNil]
   refine nl2 h2 λH4 S4 e4=>?_;refine⟨_,rfl,_,rfl,zl,λq3 h3=>?_⟩;try dsimp only[tNil]
   refine nl2 h3 λH5 S5 e5=>?_;refine⟨_,rfl,_,rfl,_,rfl,zl,λq4 h4=>?_⟩;try dsimp only[tNil]
   have S36:=(S3.trans S4).trans S5;refine Uu h4 rfl (S:=V7 [.str a1,.str b1,.str c1,.int d1,.int e1] (0+m)) hp (s4.trans (Zi.of S36)) (dc4.same S36) ?_ (.tup e5 (.cons (.tup (S5 _ _ (S4 _ _ e3)) (.cons (.str _) (.cons (.int _) .nil))) (.cons (.tup (S5 _ _ e4) (.cons (.str _) (.cons (.int _) .nil))) (.cons (.int _) (.cons (.int _) .nil))))) λH7 s7 dc7=>⟨s7,?_,_,_,_,_,_,_,_,_,rfl⟩
   ·simp only[av,aF];omega
   ·rw[show Yg T [.str a1,.str b1,.str c1,.int d1,.int e1]=(bh (T.n+1-d1).toNat).map λ(m:Nat)=>V7 [.str a1,.str b1,.str c1,.int d1,.int e1] (0+m)from rfl]at dc7 ⊢;rw[JY hm,<-bW];exact dc7
  ·obtain⟨s4,dc4,o8,o9,o10,o11,o13,o15,o16,o19,rfl⟩:=q;refine⟨s4,?_,_,_,_,_,_,_,_,_,_,_,_,_,_,rfl⟩;rw[show(Yg T [.str a1,.str b1,.str c1,.int d1,.int e1]).take (T.n+1-d1).toNat=Yg T [.str a1,.str b1,.str c1,.int d1,.int e1]from bj (by unfold Yg;rw[lm,dB];exact Nat.le_refl _)]at dc4;rw[<-bW];exact dc4
 obtain⟨s3,dc3,o7,o8,o9,o10,o11,o12,o13,o14,o15,o16,o17,o18,o19,rfl⟩:=q;rw[aH]at dc3;refine⟨_,rfl,l1,rfl,⟨_,SqL.of (rw1 s3).2.choose_spec.1⟩,?_⟩;refine Z8 (J:=Itl K l1) T.t1.length (λi σ H'=>Zi p H H'/\Dc H' p ((T.t4.flatMap (Yn T)++T.t2.map XQ++T.t3.flatMap (Yg T))++(T.t1.take i).flatMap (Yh T))/\∃o7 o8 o9 o10 o11 o12 o13 o14 o15 o16 o17 o18 o19,σ=[some (.ref pw),some (.int T.n),some (.ref l1),some (.ref l2),some (.ref l3),some (.ref l4),some (.ref p),o7,o8,o9,o10,o11,o12,o13,o14,o15,o16,o17,o18,o19]) ⟨s3,DD dc3,_,_,_,_,_,_,_,_,_,_,_,_,_,rfl⟩ (λi σ H' hi q=>(rw1 q.1).go hi) (λσ H' q=>(rw1 q.1).stop) (λi σ H' x H2 hi q yl=>?_) (λσ H1 q=>?_)
 ·obtain⟨s4,dc,o7,o8,o9,o10,o11,o12,o13,o14,o15,o16,o17,o18,o19,rfl⟩:=q;have e0:T.t1[i]?=some T.t1[i]:=gE hi;obtain⟨rfl,a,rfl,na,ha⟩:=(rw1 s4).item e0 yl;have hy:T.t1[i]∈T.t1:=aL hi;have le1:=UI (f:=Yh T) (t:=T.t1) i;have le2:=GK ok (y:=T.t1[i]);rw[V2 hi];generalize T.t1[i]=y at ha hy le2;obtain⟨⟨z1,rr⟩,rfl,_,_⟩:=X6 ok hy;refine⟨a,_,rfl,SqT.of ha,rfl,_,_,rfl,_,_,rfl,rfl,?_⟩;cases rr with
 |none=>refine⟨_,rfl,rfl,_,rfl,?_⟩;refine iteF ?_;refine⟨s4,?_,_,_,_,_,_,_,_,_,_,_,_,_,_,rfl⟩;rw[show Yh T (plRow (z1,none))=[]from if_pos rfl,bp];exact dc
 |some r1=>
   refine⟨_,rfl,rfl,_,rfl,?_⟩;refine iteT ?_;have ew:Yh T (plRow (z1,some r1))=(bh T.n.toNat).map λ(m:Nat)=>V8 (plRow (z1,some r1)) (0+m):=if_neg (λz=>by cases z);refine⟨_,rfl,T.n,rfl,by omega,by omega,?_⟩;refine V1 (lo:=0) (n:=T.n.toNat) (λm σ' H'=>Zi p H H'/\Dc H' p (((T.t4.flatMap (Yn T)++T.t2.map XQ++T.t3.flatMap (Yg T))++(T.t1.take i).flatMap (Yh T))++(Yh T (plRow (z1,some r1))).take m)/\∃o7 o9 o10 o11 o12 o13 o14 o15 o16 o17 o18,σ'=[some (.ref pw),some (.int T.n),some (.ref l1),some (.ref l2),some (.ref l3),some (.ref l4),some (.ref p),o7,some (.str z1),o9,o10,o11,o12,o13,o14,o15,o16,o17,o18,some (.int r1)]) ⟨s4,DD dc,_,_,_,_,_,_,_,_,_,_,_,rfl⟩ (λm σ' H' hm q=>?_) (λσ' H' q=>?_)
   ·obtain⟨s5,dc5,o7,o9,o10,o11,o12,o13,o14,o15,o16,o17,o18,rfl⟩:=q;refine⟨_,rfl,_,rfl,zl,λq1 h1=>?_⟩;try dsimp only[tNil]
    refine nl2 h1 λH3 S3 e3=>?_;refine⟨_,rfl,_,rfl,_,_,rfl,rfl,zl,λq2 h2=>?_⟩;try dsimp only[tNil]
    refine nl2 h2 λH4 S4 e4=>?_;refine⟨_,rfl,zl,λq3 h3=>?_⟩;try dsimp only[tNil]
    refine nl2 h3 λH5 S5 e5=>?_;refine⟨_,rfl,_,rfl,_,rfl,zl,λq4 h4=>?_⟩;try dsimp only[tNil]
    have S36:=(S3.trans S4).trans S5;refine Uu h4 rfl (S:=V8 (plRow (z1,some r1)) (0+m)) hp (s5.trans (Zi.of S36)) (dc5.same S36) ?_ (.tup e5 (.cons (.tup (S5 _ _ (S4 _ _ e3)) (.cons (.str _) (.cons (.int _) .nil))) (.cons (.tup (S5 _ _ e4) (.cons (.str _) (.cons (.int _) .nil))) (.cons (.int _) (.cons (.int _) .nil))))) λH7 s7 dc7=>⟨s7,?_,_,_,_,_,_,_,_,_,_,_,_,rfl⟩
    ·simp only[av,aF];omega
    ·rw[ew]at dc7 ⊢;rw[JY hm,<-bW];exact dc7
   ·obtain⟨s5,dc5,o7,o9,o10,o11,o12,o13,o14,o15,o16,o17,o18,rfl⟩:=q;refine⟨s5,?_,_,_,_,_,_,_,_,_,_,_,_,_,_,rfl⟩;rw[show(Yh T (plRow (z1,some r1))).take T.n.toNat=Yh T (plRow (z1,some r1))from bj (by rw[ew,lm,dB];exact Nat.le_refl _)]at dc5;rw[<-bW];exact dc5
 obtain⟨s4,dc4,o7,o8,o9,o10,o11,o12,o13,o14,o15,o16,o17,o18,o19,rfl⟩:=q;rw[aH]at dc4;exact⟨_,rfl,k H1 p (λc o e=>s4 c o e (nw e)) hp dc4⟩
end
def KNe(S S':Sx):Prop:=S.key≠S'.key
theorem Pp{f:Nat->Sx}{n:Nat}(h:∀a b:Nat,a<b->KNe (f a) (f b)):((bh n).map f).Pairwise KNe:=g_.mpr (fY (h _ _) List.pairwise_lt_range)
theorem Qz{T:Tb}(o:OkTb T){j:Nat}(hj:isJ j){R:List V->List V->Prop}(h:∀a b,nameOf a≠nameOf b->R a b):(T.part j).Pairwise R:=fY (h _ _) (g_.mp (Uh o hj))
theorem key2{a b:Str}{x y:Key}{l m:List Key}(h:a≠b\/x≠y):((.inr a:Key)::x::l)≠.inr b::y::m:=by
 intro e;injection e with e1 e2;injection e2 with e2 e3;injection e1 with e1;rcases h with h|h
 ·exact h e1
 ·exact h e2
theorem nmI{a b:Str}(h:a≠b):(.inr a:Key)≠.inr b:=λe=>by injection e with e;exact h e
theorem key3{a b:Str}{x y:Key}{i j:Int}(h:i≠j):([.inr a,x,.inl i]:List Key)≠[.inr b,y,.inl j]:=by intro e;injection e with e1 e2;injection e2 with e2 e3;injection e3 with e3 e4;injection e3 with e3;exact h e3
theorem Vo{T:Tb}{y:List V}{S:Sx}(h:S∈Yn T y):∃i,S=outS y i:=by obtain⟨m,_,rfl⟩:=ai.mp h;exact⟨_,rfl⟩
theorem J6{T:Tb}{y:List V}{S:Sx}(h:S∈Yg T y):∃i,S=V7 y i:=by obtain⟨m,_,rfl⟩:=ai.mp h;exact⟨_,rfl⟩
theorem UE{T:Tb}{y:List V}{S:Sx}(h:S∈Yh T y):∃i,S=V8 y i:=by
 unfold Yh at h;split at h
 ·cases h
 obtain⟨m,_,rfl⟩:=ai.mp h;exact⟨_,rfl⟩
theorem MX{T:Tb}(o:OkTb T):(allS T).Pairwise KNe:=by
 obtain⟨w1,w2,w3,w4,w5,w6⟩:=Jd;unfold allS;rw[gm,gm,gm];refine⟨⟨⟨?_,?_,?_⟩,?_,?_⟩,?_,?_⟩
 ·refine fZ.mpr ⟨λy hy=>Pp λa b h=>key3 (by omega),Qz o (j:=4) (.inr (.inr (.inr rfl))) λa b h x hx y hy=>?_⟩;obtain⟨i,rfl⟩:=Vo hx;obtain⟨i',rfl⟩:=Vo hy;exact key2 (.inr (nmI h))
 ·exact g_.mpr (Qz o (j:=2) (.inr (.inl rfl)) λa b h=>key2 (.inr (nmI h)))
 ·intro x hx z hz;obtain⟨y,hy,hx⟩:=cy.mp hx;obtain⟨y',hy',rfl⟩:=ai.mp hz;obtain⟨i,rfl⟩:=Vo hx;exact key2 (.inl w4)
 ·refine fZ.mpr ⟨λy hy=>Pp λa b h=>key3 (by omega),Qz o (j:=3) (.inr (.inr (.inl rfl))) λa b h x hx y hy=>?_⟩;obtain⟨i,rfl⟩:=J6 hx;obtain⟨i',rfl⟩:=J6 hy;exact key2 (.inr (nmI h))
 ·intro x hx z hz;obtain⟨y',hy',hz⟩:=cy.mp hz;obtain⟨i',rfl⟩:=J6 hz;rcases aK.mp hx with hx|hx
  ·obtain⟨y,hy,hx⟩:=cy.mp hx;obtain⟨i,rfl⟩:=Vo hx;exact key2 (.inl w1)
  ·obtain⟨y,hy,rfl⟩:=ai.mp hx;exact key2 (.inl w5.symm)
 ·refine fZ.mpr ⟨λy hy=>?_,Qz o (j:=1) (.inl rfl) λa b h x hx y hy=>?_⟩
  ·unfold Yh;split
   ·exact .nil
   ·exact Pp λa b h=>key3 (by omega)
  ·obtain⟨i,rfl⟩:=UE hx;obtain⟨i',rfl⟩:=UE hy;exact key2 (.inr (nmI h))
 ·intro x hx z hz;obtain⟨y',hy',hz⟩:=cy.mp hz;obtain⟨i',rfl⟩:=UE hz;rcases aK.mp hx with hx|hx
  ·rcases aK.mp hx with hx|hx
   ·obtain⟨y,hy,hx⟩:=cy.mp hx;obtain⟨i,rfl⟩:=Vo hx;exact key2 (.inl w2)
   ·obtain⟨y,hy,rfl⟩:=ai.mp hx;exact key2 (.inl w6.symm)
  ·obtain⟨y,hy,hx⟩:=cy.mp hx;obtain⟨i,rfl⟩:=J6 hx;exact key2 (.inl w3)
theorem Ni:∀(l:List (Sx×V))(acc:List (List Key×V)),l.Pairwise (λp q=>KNe p.1 q.1)->(∀p∈l,∀q∈acc,q.1≠p.1.key)->puts l acc=acc++l.map λp=>(p.1.key,p.2)
|[],acc,_,_=>by simp[puts]
|p::l,acc,h,n=>by
  have e:putK acc p.1.key p.2=acc++[(p.1.key,p.2)]:=by unfold putK;rw[if_neg];intro z;obtain⟨q,hq,z⟩:=fM.mp z;exact n p (by simp) q hq (of_decide_eq_true z)
  show puts l (putK acc p.1.key p.2)=_;cases h with
 |cons h1 h2=>
  rw[e,Ni l _ h2 λq hq r hr=>?_,bW]
  ·rfl
  ·rcases aK.mp hr with hr|hr
   ·exact n q (by simp[hq]) r hr
   ·rw[a7]at hr;subst hr;exact h1 q hq
theorem R6{H:Hp}:∀{vs:List V}{L:List Sx},bS (λv S=>Is H v (XG S)) vs L->L.Pairwise KNe->(L.zip vs).Pairwise λp q=>KNe p.1 q.1
|_,_,.nil,_=>.nil
|_,_,.cons _ t,h=>by
  cases h with
 |cons h1 h2=>exact .cons (λq hq=>h1 q.1 (fX hq).1) (R6 t h2)
theorem R7{H:Hp}:∀{vs:List V}{L:List Sx},bS (λv S=>Is H v (XG S)) vs L->bS (λ(kv:List Key×V)(S:Sx)=>kv.1=S.key/\Is H kv.2 (XG S)) ((L.zip vs).map λp=>(p.1.key,p.2)) L
|_,_,.nil=>.nil
|_,_,.cons r t=>.cons ⟨rfl,r⟩ (R7 t)
theorem Dc.ord{H:Hp}{p:Addr}{L:List Sx}(d:Dc H p L)(h:L.Pairwise KNe):∃kvs,H p=some (.dT kvs)/\bS (λ(kv:List Key×V)(S:Sx)=>kv.1=S.key/\Is H kv.2 (XG S)) kvs L:=by obtain⟨kvs,e,_,⟨vs,r,ek⟩,_⟩:=d;refine⟨_,e,?_⟩;rw[ek,Ni _ [] (R6 r h) (λ_ _ q hq=>nomatch hq),List.nil_append];exact R7 r
end SX
namespace L2
open PySem PySem.Spec PyProof.Rows
noncomputable def Itk(a:Addr)(o:Obj)(kvs:List (List Key×V)):It:=⟨λi H=>i<kvs.length/\H a=some (.frz o (.dT kvs)),λi H x H'=>H'=H/\∃(b:Addr)(kv:List Key×V),kvs[i]?=some kv/\H b=some (.tup (kv.1.map kV))/\x=.ref b,λi H=>i=kvs.length/\H a=some (.frz o (.dT kvs))⟩
theorem N6{P:Program}{w:World}{K:ae}{tg:Expr}{a it:Addr}{o:Obj}{kvs:List (List Key×V)}{es:Array DictEntry}{ep:Nat}(hdd:o.data=.dict es ep)(hsz:es.size=kvs.length):
  Turn P w K tg (Itk a o kvs) [it] it (λi h=>h.IsKeyIter it a i es.size ep) where
 mem:=by simp
 obj:=λi h st b hb=>by
  have e:b=it:=by simpa using hb
  subst e
  obtain⟨o,e,c,d⟩:=st
  exact⟨o,e,λv z=>by rw[d]at z;cases z⟩
 keep:=λi h h' st k=>st.at λo e=>k it (by simp) o e
 item:=by
  intro X hP hw hK hc i pins s σ H E I hf st hg
  subst hP hw hK
  obtain⟨hi,hq⟩:=hg
  obtain⟨ho,z,hd,xs,rel,o',es2,ep2,h1,h2,h3,h4,h5⟩:=I.hok a _ hq
  rw[ho]at h1
  cases h1
  rw[hdd]at h3
  cases h3
  have hl:=aR rel
  have hi':i<xs.length:=by omega
  obtain⟨e,he,ek,ev⟩:=PN h4 (gE hi')
  have hkv:=gE hi
  obtain⟨r1,r2,r3⟩:=ZK rel hkv (gE hi')
  obtain⟨f0,f1,f2,f3,f4,f5⟩:=hf it (by simp)
  have hT:s.TypeIs (.ref it) "dict_keyiterator":=by obtain⟨o,e,c,d⟩:=st;exact⟨o,e,c⟩
  unfold gU
  refine aa (fo (bf (name:=Str.ofString "__next__") hT F.slot_dict_keyiterator_next (a9 F.slot_dict_keyiterator_next hT F.entry_dict_keyiterator_next ?_ (F.args_dict_keyiterator_next_1 _))))
  refine PJ st ho hdd he λh' st' sb=>⟨_,rfl,af ?_⟩
  have I1:Inv X pins σ H {s with heap:=h'}:=I.turned (t':=s.toks) (λb o hb e=>(sb.2 b hb).trans e) f0 f1 f3 f4 f5
  obtain⟨o',e',c',d'⟩:=id st'
  exact⟨_,rfl,G0 (s:={s with heap:=h'}) e' c' d' (by decide) ⟨.ref xs[i].2.1,H,I1,ek,⟨rfl,xs[i].2.1,kvs[i],hkv,r2,rfl⟩,st',λb hb=>(hf b hb).1⟩⟩
 done:=by
  intro X hP hw hK hc i pins s σ H E I hf st hg
  subst hP hw hK
  obtain⟨hi,hq⟩:=hg
  have ho:=(I.hok a _ hq).1
  obtain⟨f0,f1,f2,f3,f4,f5⟩:=hf it (by simp)
  have hT:s.TypeIs (.ref it) "dict_keyiterator":=by obtain⟨o,e,c,d⟩:=st;exact⟨o,e,c⟩
  unfold gU
  refine aa (fo (bf (name:=Str.ofString "__next__") hT F.slot_dict_keyiterator_next (a9 F.slot_dict_keyiterator_next hT F.entry_dict_keyiterator_next ?_ (F.args_dict_keyiterator_next_1 _))))
  refine RB (I.ok.hd hc) st ho hdd (by simp;omega) λh' e hk he=>?_
  obtain⟨o',ho',hc'⟩:=he
  refine aa (fe (T:="StopIteration") (b:=true) ⟨o',ho',hc'⟩ isSubtype_stop ?_)
  exact af ⟨rfl,I.turned (t':=s.toks) (λb o hb e=>hk b o hb e) f0 f1 f3 f4 f5⟩
 self:=λ_ _ _ _ _ st h=>wpAny_pyIter_keyiter st h
section
variable {X:Cx}{tg:Expr}
noncomputable def Dy(tl:TE):TI:=λσ H R=>tl σ H λx H1=>∃a kvs,x=.ref a/\H1 a=some (.dT kvs)/\∀o,R (Itk a o kvs) (upd H1 a (.frz o (.dT kvs)))
theorem U0{l:Expr}{tl:TE}(hl:PE X l tl):PI X tg l (Dy tl):=by
 intro pins s σ H R I h;refine thn (hl pins s σ H _ I h) λv s1 hZ=>?_;obtain⟨x,H1,I1,r1,q1⟩:=hZ;obtain⟨a,kvs,e,hq,q⟩:=q1;subst e;cases r1;obtain⟨z,hd,xs,rel,ob,es,ep,h1,h2,h3,h4,h5,h6⟩:=Gh I1.hok hq;have hlen:=aR rel;have hsz:es.size=kvs.length:=by rw[<-bz,h4,lm,hlen]
 have I2:Inv X pins σ (upd H1 a (.frz ob (.dT kvs))) s1:=I1.write (x:=a) (e:=a) (h':=s1.heap) (t':=s1.toks) (o:=.frz ob (.dT kvs)) (by rw[hq];exact bB) (.inl rfl) (λb u _ z=>z) ⟨ob,h1⟩ ⟨h1,?_⟩
 ·refine Wa hd ⟨ob,h1,h2,h3⟩ ?_;refine⟨s1.heap.objs.size,[s1.heap.objs.size],_,_,_,rfl,I2.kept (t':=s1.toks) λb o e=>Heap.get?_push_of_some _ e,N6 h3 hsz,⟨_,Heap.get?_push_size _ rfl,rfl,rfl⟩,λb hb=>?_,q ob⟩;have e:b=s1.heap.objs.size:=by simpa using hb
  subst e;exact I2.fpOk (Nat.le_refl _) (I2.hok.fresh (Nat.le_refl _))
 ·have h0:ZY X.prog X.w H1 s1.heap a (.dT kvs):=I1.hok a _ hq;exact h0.stay (λ_ _ _ z=>z) (λc z=>by rw[Zc (ne_of z hq (λq=>nomatch q))];exact z) λc xs z=>by rw[Zc (ne_of z hq (λq=>nomatch q))];exact z
def DT(H0:Hp)(t:TE):TE:=λσ H Q=>t σ H λv H'=>∃a o u,H' a=some (.frz o u)/\(∀o' u',H0 a≠some (.frz o' u'))/\Q v (upd H' a u)
theorem W9{e:Expr}{t:TE}(h:PE X e t):PE X e (DT X.H₀ t):=by intro pins s σ H Q I q;exact thn (h pins s σ H _ I q) λv s1⟨x,H1,I1,r,a,o,u,e1,e0,q1⟩=>⟨x,_,I1.thaw e1 e0,r,q1⟩
noncomputable def Itd1(hi:Int)(n:Nat):It:=⟨λi _=>i<n,λi H x H'=>H'=H/\x=.int (hi-i),λi _=>n<=i⟩
theorem Q9{P:Program}{w:World}{K:ae}{tg:Expr}(it:Addr)(lo:Int)(n:Nat):Turn P w K tg (Itd1 lo n) [it] it (λi h=>IsRangeIter h it (lo+(i:Nat)*(-1)) ((n:Int)-(i:Nat)) (-1)) where
 mem:=by simp
 obj:=λi h st b hb=>by
  have e:b=it:=by simpa using hb
  subst e
  exact⟨_,st,λv z=>by
   have z':Data.fields _=Data.cell v:=z
   cases z'⟩
 keep:=λi h h' st k=>k it (by simp) _ st
 item:=by
  intro X hP hw hK hc i pins s σ H E I hf st hg
  subst hP hw hK
  obtain⟨f0,f1,f2,f3,f4,f5⟩:=hf it (by simp)
  have W:=Walks.range (prog:=X.prog) (w:=X.w) (I.ok.hd hc) it lo (-1) n
  refine W.item i s _ _ hg st λv h' tk hv st' kk=>?_
  obtain⟨t,rfl⟩:=hv
  have I1:Inv X pins σ H {s with heap:=h',toks:=tk}:=I.turned (λb o hb e=>kk b o (by simpa using hb) e) f0 f1 f3 f4 f5
  refine⟨_,rfl,G0 (s:={s with heap:=h',toks:=tk}) (n:="range_iterator") st' rfl rfl (by decide) ⟨.int (lo-i),H,I1,⟨t,?_⟩,⟨rfl,rfl⟩,st',λb hb=>(hf b hb).1⟩⟩
  congr 1
  omega
 done:=by
  intro X hP hw hK hc i pins s σ H E I hf st hg
  subst hP hw hK
  obtain⟨f0,f1,f2,f3,f4,f5⟩:=hf it (by simp)
  exact wpAny_pyNext_range_end (I.ok.hd hc) st (by have:n<=i:=hg;omega) λh' eb=>⟨rfl,I.turned (t':=s.toks) (λb o hb e=>eb b o hb e) f0 f1 f3 f4 f5⟩
 self:=λ_ _ _ _ _ st h=>wpAny_pyIter_rangeiter st h
theorem GR{lo hi:Int}(h:hi<=lo):(((lo-hi).toNat:Nat):Int)=dH lo hi (-1):=by
 unfold dH;rw[if_neg (by decide)];split
 ·rw[show -(-1:Int)=1 by decide,Int.ediv_one];omega
 ·omega
theorem small_down{lo hi:Int}(h0:-1000<=hi)(h:hi<=lo)(h1:lo<=1000):Builtin.Range.small lo hi (-1)=true:=by unfold Builtin.Range.small;rw[<-GR h];unfold Builtin.Range.rangeFitsLong;rw[if_neg (by decide)];simp only[Bool.and_eq_true,Bool.or_eq_true,decide_eq_true_eq];refine⟨⟨⟨⟨?_,?_⟩,?_⟩,?_⟩,.inr ?_⟩<;>(constructor<;>omega)
noncomputable def Ep(ta:TA):TI:=λσ H R=>ta σ H λvs H1=>∃i j:Int,vs=[.int i,.int j,.int (-1)]/\(-1000<=j/\j<=i/\i<=1000)/\R (Itd1 i (i-j).toNat) H1
theorem W8{a b c:Expr}{ta:TA}{p pos:Pos}(hg:Gl X "range")(hm:X.mg "range"=none)(ha:PA X [a,b,c] ta)(hs:az [a,b,c] X.env=[(false,eval a X.env),(false,eval b X.env),(false,eval c X.env)]:=by rfl)(hs2:az [b,c] X.env=[(false,eval b X.env),(false,eval c X.env)]:=by rfl):PI X tg (.Call (.Name "range" p) [a,b,c] [] pos) (Ep ta):=by
 intro pins s σ H R I h;refine Call_ (Xp I hg hm boot_range (bc (thn (ha pos pins s σ H _ I h) λus s1⟨vs,H1,I1,r1,q1⟩=>?_) (by rw[hs,hs2]) (by rw[hs2];rfl)));obtain⟨i,j,e,⟨q1,q2,q3⟩,q⟩:=q1;subst e;cases r1 with
|cons r rr=>
  cases rr with
 |cons r' rr=>
   cases rr with
  |cons r'' rr=>
   cases rr;obtain⟨t,rfl⟩:=r;obtain⟨t',rfl⟩:=r';obtain⟨t'',rfl⟩:=r'';refine call_range_3 (by decide) ?_ (.inl (PyProof.noPylong_small (by decide)));refine wpAny_pyIter_range (IsRange.new ..) (small_down q1 q2 q3) ?_;have I2:Inv X pins σ H1 {s1 with heap:=s1.heap.push {cls:=.type "range",data:=.fields #[.int i t,.int j t',.int (-1) t'']},toks:=s1.toks}:=I1.kept λb o e=>Heap.get?_push_of_some _ e;refine⟨(s1.heap.push {cls:=.type "range",data:=.fields #[.int i t,.int j t',.int (-1) t'']}).objs.size,[(s1.heap.push {cls:=.type "range",data:=.fields #[.int i t,.int j t',.int (-1) t'']}).objs.size],_,_,H1,rfl,I2.kept (t':=s1.toks) λb o e=>Heap.get?_push_of_some _ e,Q9 _ i (i-j).toNat,?_,λb hb=>?_,q⟩
   ·show IsRangeIter _ _ (i+((0:Nat):Int)*(-1)) ((((i-j).toNat:Nat):Int)-((0:Nat):Int)) (-1);rw[show i+((0:Nat):Int)*(-1)=i by omega,show(((i-j).toNat:Nat):Int)-((0:Nat):Int)=dH i j (-1) by rw[<-GR q2];omega];exact Heap.get?_push_size _ rfl
   ·have e:b=(s1.heap.push {cls:=.type "range",data:=.fields #[.int i t,.int j t',.int (-1) t'']}).objs.size:=by simpa using hb
    subst e;exact I2.fpOk (Nat.le_refl _) (I2.hok.fresh (Nat.le_refl _))
def tIfT(t a b:TT):TT:=λσ H Q=>t σ H λc H1=>if c=true then a σ H1 Q else b σ H1 Q
theorem Tj{c a b:Expr}{pos:Pos}{tc ta tb:TT}(hc:PT X c tc)(ha:PT X a ta)(hb:PT X b tb):PT X (.IfExp c a b pos) (tIfT tc ta tb):=by
 intro pins s σ H Q I h;refine isTrue_IfExp (dz (hc pins s σ H _ I h) (λd s1 hq=>?_) λ_ _ e=>e);obtain⟨H1,I1,q1⟩:=hq;cases d with
|true=>exact ha pins s1 σ H1 Q I1 q1
|false=>exact hb pins s1 σ H1 Q I1 q1
end
end L2
namespace SX
open PySem L2 PySem.Spec PyProof.Rows TB WD
def Uo(T:Tb)(k:MK):Prop:=∃y∈T.t1,at_ y 1=.non/\∃i:Int,k=.inr [.inr (nameOf y),.inl i]
def Hop(T:Tb)(kvs:List (MK×V)):Prop:=∀k,(valV kvs k).isSome=true->Uo T k\/∃S∈allS T,Zx S.tail=k/\(valV kvs (Zx S.head)).isSome=true
theorem Nj{kvs:List (MK×V)}{k j:MK}{v:V}:(valV (putK kvs k v) j).isSome=true↔j=k\/(valV kvs j).isSome=true:=by rw[Yu];by_cases e:j=k<;>simp[e]
theorem Hop.put{T:Tb}{kvs:List (MK×V)}{k:MK}{v:V}(h:Hop T kvs)(n:Uo T k\/∃S∈allS T,Zx S.tail=k/\(valV kvs (Zx S.head)).isSome=true):Hop T (putK kvs k v):=λj hj=>by
 have up:(Uo T j\/∃S∈allS T,Zx S.tail=j/\(valV kvs (Zx S.head)).isSome=true)->Uo T j\/∃S∈allS T,Zx S.tail=j/\(valV (putK kvs k v) (Zx S.head)).isSome=true:=λq=>by
  rcases q with q|⟨S,a,b,c⟩
  ·exact .inl q
  ·exact .inr ⟨S,a,b,Nj.mpr (.inr c)⟩
 rcases Nj.mp hj with rfl|hj
 ·exact up n
 ·exact up (h j hj)
theorem QA{kvs:List (MK×V)}{k:MK}{v:V}:(putK kvs k v).length<=kvs.length+1:=by
 unfold putK;split
 ·rw[lm];omega
 ·simp
theorem Q4{T:Tb}(ok:OkTb T):(allS T).length<=18200:=by have h:=QC ok;unfold allS;simp only[av];omega
theorem JS:∀{kvs:List (List Key×V)},(kvs.map (·.1)).Nodup->∀{j:Nat}{kv:List Key×V},kvs[j]?=some kv->valV kvs kv.1=some kv.2
|[],_,j,kv,h=>by cases h
|p::r,nd,0,kv,h=>by cases h;exact Yk rfl
|p::r,nd,j+1,kv,h=>by rw[ax,bo]at nd;have hr:r[j]?=some kv:=h;rw[Yl (λz=>nd.1 (z▸ai.mpr ⟨kv,a_ hr,rfl⟩))];exact JS nd.2 hr
theorem JC{H:Hp}:∀{kvs:List (List Key×V)}{L:List Sx},bS (λ(kv:List Key×V)(S:Sx)=>kv.1=S.key/\Is H kv.2 (XG S)) kvs L->kvs.map (·.1)=L.map (·.key)
|_,_,.nil=>rfl
|_,_,.cons r t=>by rw[ax,ax,r.1,JC t]
theorem MI{T:Tb}(o:OkTb T):((allS T).map (·.key)).Nodup:=by
 have:=MX o;generalize allS T=L at this;induction this with
|nil=>simp
|cons h _ ih=>rw[ax,bo];refine⟨λz=>?_,ih⟩;obtain⟨S,hS,e⟩:=ai.mp z;exact h S hS e.symm
theorem WT{T:Tb}{xs:List V}{j:Nat}{S:Sx}(h:Yo T xs j S):(∃z,atI xs 0=some (.str z)/\(z≠"out"->∃a i,S.tail=.tuple [.str a,.int i])):=by
 rcases h with⟨y,_,i,rfl,_,_,rfl,rfl⟩|⟨y,_,rfl,rfl,rfl⟩|⟨y,_,i,rfl,_,_,rfl,rfl⟩|⟨y,_,i,rfl,_,_,_,rfl,rfl⟩
 ·exact⟨_,Zl (j:=0) rfl,λz=>absurd rfl z⟩
 ·exact⟨_,Zl (j:=0) rfl,λ_=>⟨_,_,rfl⟩⟩
 ·exact⟨_,Zl (j:=0) rfl,λ_=>⟨_,_,rfl⟩⟩
 ·exact⟨_,Zl (j:=0) rfl,λ_=>⟨_,_,rfl⟩⟩
theorem Ss{H:Hp}{v:V}{S:Sx}(h:Is H v (XG S)):∃a v0 v1 v2 v3,v=.ref a/\H a=some (.tup [v0,v1,v2,v3])/\Is H v0 S.tail/\Is H v1 S.head/\Is H v2 (dF S.room)/\v3=.int S.price:=by
 unfold XG at h;cases h with
|@tup a xs _ e r=>
  cases r with
 |cons h1 r=>
  cases r with
 |cons h2 r=>
  cases r with
 |cons h3 r=>
  cases r with
 |cons h4 r=>
  cases r;cases h4;exact⟨a,_,_,_,_,rfl,e,h1,h2,h3,rfl⟩
def SH(P:Program)(w:World):Sp:=λvs H Q _=>∃(b pw l1 l2 l3 l4 d:Addr)(T:Tb),vs=[.ref pw,.ref d]/\TbAt b H pw T l1 l2 l3 l4/\OkTb T/\Dc H d (allS T) /\∀H' p kvs,Same H H'->H p=none->DMw P w H' p kvs->Hop T kvs->Q (.ref p) H'
section
variable {P:Program}{w:World}{K:ae}{mg:Str->Option Value}{base:Heap}
theorem ZJ:FnScope [q_w,"_law_steps_here","_law_hopeful_here","_law_place","_law_room","_law_at","_law_key","_law_tail","_law_head","_law_price"] [q_w,"_law_steps_here"] (Zf T.f__law_hopeful):=scO
theorem RY(B:∀x∈Blts,mg x=none)(D:Df K mg "_law_hopeful" T.f__law_hopeful [q_w,"_law_steps_here"]):Can P w K mg base 1 "_law_hopeful" [q_w,"_law_steps_here"] (SH P w):=by
 refine D.cn ZJ λf cdv A outer s H vs Q E hr h=>?_;obtain⟨b,pw,l1,l2,l3,l4,d,T,rfl,tb,ok,dc,k⟩:=h;refine' ⟨_,(@Za _ _ _ _ _ ?h13 (@Za _ _ _ _ _ ?h14 (@Za _ _ _ _ _ ?h15 (@Ze _ _ _ ?h16)))),?rd⟩;case' h16=>refine' (Zk (pv 2))
 case' h15=>refine' (ZW aD rfl (W8 rfl (bm B) (@pa3 _ _ _ _ _ _ _ ?h6 (QF Me Zb) (QF Me Zb) (by rfl))) (nmT 5 ZJ.nd) (@Ze _ _ _ ?h12))
 case' h14=>refine' (ZW aD rfl (Z6 ?h1) (YB rfl (Zn (nmT 3 ZJ.nd) (Zn (nmT 4 ZJ.nd) Yc))) (@Ze _ _ _ ?h5))
 case' h13=>refine' (@st _ _ _ _ 2 _ _ ZJ.nd QG (by rfl) (by exact aN rfl) (by rfl) (by exact .inl rfl))
 case' h12=>refine' (Uw (ZW aD rfl (U0 (pv 1)) (nmT 6 ZJ.nd) (@Za _ _ _ _ _ ?h10 (@Ze _ _ _ ?h11))))
 case' h11=>refine' (@ZD _ _ _ _ _ _ _ _ (PW.pt (VV (Zr (Pu (ZT hr)) (pv 8) (pv 2) (by with_unfolding_all rfl)) (Ve (Tj (@Zr _ _ _ _ _ _ _ _ Ug ?h7 ZC (Zw _)) (@Zr _ _ _ _ _ _ _ _ QK (pv 5) Zb (Zw _)) (@Zr _ _ _ _ _ _ _ _ Ug ?h8 (pv 5) (Zw _)))))) (@Ze _ _ _ ?h9) Zo)
 case' h10=>refine' (Mt (YM (ZT hr) (pv 1) (pv 6) (λ_ _=>rfl)) (YB rfl (Zn (nmT 7 ZJ.nd) (Zn (nmT 8 ZJ.nd) (Zn (nmT 4 ZJ.nd) (Zn (nmT 9 ZJ.nd) Yc))))))
 case' h9=>refine' (QB (ZT hr) (pv 2) (pv 7) XB rfl)
 case' h8=>refine' (@it _ _ _ _ _ _ K (pv 7) Zb (by rfl) (by exact λ_ _=>rfl))
 case' h7=>refine' (@it _ _ _ _ _ _ K (pv 6) Zb (by rfl) (by exact λ_ _=>rfl))
 case' h6=>refine' (@il _ _ _ _ _ _ K (pv 0) Zb (by rfl) (by exact λ_ _=>rfl))
 case' h5=>refine' (ZW aD rfl (YY rfl (bm B) (@pa1 _ _ _ (Zt Xf (Zt ZQ ?h2 Zb) (Xn JK rfl (bm B) V6 (@pa1 _ _ _ (@YG _ _ _ _ _ _ _ _ U3 (pv 4) ZZ (Zw _)) (by rfl)))) (by rfl))) (nmT 5 ZJ.nd) (@Ze _ _ _ ?h4))
 case' h4=>refine' (QB (ZT hr) (pv 2) ?h3 XB rfl)
 case' h3=>refine' (@ZE _ _ _ _ _ (@pa2 _ _ _ _ _ (pv 3) (pv 5) (by rfl)))
 case' h2=>refine' (@il _ _ _ _ _ _ K (pv 0) Zb (by rfl) (by exact λ_ _=>rfl))
 case' h1=>refine' (@il _ _ _ _ _ _ K (pv 0) Zb (by rfl) (by exact λ_ _=>rfl))
 case' rd=>
 obtain⟨kvs0,ed,pr⟩:=dc.ord (MX ok);refine λp o hp dm0=>?_;have S0:Zi p H (upd H p o):=(Zi.refl p H).new' hp;generalize upd H p o=H0 at dm0 S0 ⊢;dsimp only[Zq,au];have npw:pw≠p:=ne_of_none tb.at_ hp;have nd:d≠p:=ne_of_none ed hp;have R1:∀{H':Hp},Zi p H H'->RowsAt b H' l1 T.t1:=λs=>tb.pl.keepB hp s;have n0:=ok.n0;have n1:=ok.n1;refine⟨_,rfl,pw,_,_,_,rfl,rfl,SqL.of (S0 _ _ tb.at_ npw),Zl (j:=1) rfl,?_⟩;refine⟨l1,rfl,⟨_,SqL.of (R1 S0).2.choose_spec.1⟩,?_⟩;have keepM:∀{H1:Hp}{kvs:List (MK×V)}{q:Addr}{u:HO},DMw P w H1 p kvs->H1 q=none->DMw P w (upd H1 q u) p kvs:=λ{H1 kvs q u}dm hq=>by
  have hp1:H1 p≠none:=by obtain⟨xs,e,_⟩:=dm;rw[e];exact λz=>nomatch z
  exact dm.keeps (Zc (λz=>hp1 (z▸hq))) λc ys e=>by rw[Zc (ne_of_none e hq)];exact e
 refine Z8 (J:=Itl K l1) T.t1.length (λi σ H'=>Zi p H H'/\(∃kvs,DMw P w H' p kvs/\Hop T kvs/\kvs.length<=51*i)/\∃o:Nat->Option V,σ=[some (.ref pw),some (.ref d),some (.ref p),o 3,o 4,o 5,o 6,o 7,o 8,o 9]) ?_ (λi σ H' hi q=>?_) (λσ H' q=>?_) (λi σ H' v H3 hi q yl=>?_) (λσ H' q=>?_)
 ·exact⟨S0,⟨[],dm0,λk hk=>by simp[valV]at hk,Nat.zero_le _⟩,shp rfl⟩
 ·exact(R1 q.1).go hi
 ·exact(R1 q.1).stop
 ·obtain⟨s1,⟨kvs,dm,hop,hl⟩,o,rfl⟩:=q;have hmem:T.t1[i]∈T.t1:=aL hi;obtain⟨rfl,a,rfl,na,ha⟩:=(R1 s1).item (gE hi) yl;obtain⟨⟨z,r⟩,er,gz,hr'⟩:=X6 ok hmem;have hnm:nameOf T.t1[i]=z:=by rw[er];rfl
  have hro:at_ T.t1[i] 1=XA r:=by rw[er];rfl
  rw[er]at ha;refine⟨a,_,rfl,SqT.of ha,rfl,?_⟩;dsimp only[Zq,au];refine⟨_,_,rfl,_,_,rfl,rfl,?_⟩;dsimp only[Zq,au];refine td λD' hdd=>?_;refine⟨_,rfl,pw,_,_,_,rfl,rfl,SqL.of (s1 _ _ tb.at_ npw),Zl (j:=0) rfl,_,_,rfl,rfl,_,rfl,rfl,.inr ⟨_,rfl,_,_,rfl,rfl,.inl ⟨by omega,by omega⟩,?_⟩⟩;have hcnt:0<=(T.n+1)*(if decide (XA r=.non)=true then 1 else 0)/\(T.n+1)*(if decide (XA r=.non)=true then 1 else 0)<=51/\(0<(T.n+1)*(if decide (XA r=.non)=true then 1 else 0)->XA r=.non):=by by_cases e:XA r=.non<;>simp[e]<;>omega
  refine⟨_,rfl,by omega,by omega,?_⟩;generalize (T.n+1)*(if decide (XA r=.non)=true then 1 else 0)=cn at hcnt ⊢;refine Z8 (J:=Itr 0 cn.toNat) cn.toNat (λj σ H'=>Zi p H H'/\(∃kvs,DMw P w H' p kvs/\Hop T kvs/\kvs.length<=51*i+j)/\∃o:Nat->Option V,σ=[some (.ref pw),some (.ref d),some (.ref p),some (.str z),o 4,o 5,o 6,o 7,o 8,o 9]) ?_ (λj σ H' hj q=>hj) (λσ H' q=>Nat.le_refl _) (λj σ H' v H4 hj q yl=>?_) (λσ H' q=>?_)
  ·exact⟨s1,⟨kvs,dm,hop,hl⟩,shp rfl⟩
  ·obtain⟨s2,⟨kv2,dm2,hop2,hl2⟩,o2,rfl⟩:=q;obtain⟨rfl,rfl⟩:=yl;dsimp only[Zq,au];refine td λD2 hd2=>?_;refine⟨_,rfl,_,rfl,_,rfl,Nat.le_trans (by decide:2<=1000) (by decide),λq hq=>?_⟩;refine⟨p,kv2,.inr [.inr z,.inl (0+(j:Int))],rfl,keepM dm2 hq,⟨q,rfl,Zd⟩,Nat.lt_of_le_of_lt (by have:=Jf ok;omega:kv2.length<=100000) (by rw[dq];decide),λo3 dm3=>?_⟩;refine hd2 _ _ ⟨(s2.new' hq).put,⟨_,dm3,hop2.put (.inl ⟨_,hmem,?_,0+(j:Int),by rw[hnm]⟩),Nat.le_trans QA (by omega)⟩,shp rfl⟩;rw[hro];exact hcnt.2.2 (by omega)
  ·obtain⟨s2,⟨kv2,dm2,hop2,hl2⟩,o2,rfl⟩:=q;exact hdd _ _ ⟨s2,⟨kv2,dm2,hop2,by omega⟩,shp rfl⟩
 ·obtain⟨s1,⟨kvs,dm,hop,hl⟩,o,rfl⟩:=q;have hl14:=(Jf ok).1;have lall:=Q4 ok;have lk0:=aR pr;refine⟨_,rfl,pw,_,_,_,rfl,rfl,SqL.of (s1 _ _ tb.at_ npw),Zl (j:=0) rfl,_,rfl,_,rfl,T.n,-2,rfl,⟨by omega,by omega,by omega⟩,?_⟩;refine Z8 (J:=Itd1 T.n (T.n - -2).toNat) (T.n - -2).toNat (λi σ H'=>Zi p H H'/\(∃kvs,DMw P w H' p kvs/\Hop T kvs/\kvs.length<=1000+20000*i)/\∃o:Nat->Option V,σ=[some (.ref pw),some (.ref d),some (.ref p),o 3,o 4,o 5,o 6,o 7,o 8,o 9]) ?_ (λi σ H' hi q=>hi) (λσ H' q=>Nat.le_refl _) (λi σ H' v H3 hi q yl=>?_) (λσ H' q=>?_)
  ·exact⟨s1,⟨kvs,dm,hop,by omega⟩,shp rfl⟩
  ·clear s1 dm hop hl;obtain⟨s1,⟨kvs,dm,hop,hl⟩,o,rfl⟩:=q;obtain⟨rfl,rfl⟩:=yl;dsimp only[Zq,au];refine td λD1 hd1=>?_;have ed1:=s1 _ _ ed nd;refine⟨_,rfl,d,kvs0,rfl,ed1,λob=>?_⟩;have ef:upd H3 d (.frz ob (.dT kvs0)) d=some (.frz ob (.dT kvs0)):=Zd;have dmf:DMw P w (upd H3 d (.frz ob (.dT kvs0))) p kvs:=dm.keeps (Zc nd.symm) λc ys e=>by rw[Zc (ne_of e ed1 (λz=>nomatch z))];exact e
   have tf:∀c xs,H c=some (.tup xs)->upd H3 d (.frz ob (.dT kvs0)) c=some (.tup xs):=λc xs e=>by rw[Zc (ne_of e ed (λz=>nomatch z))];exact s1 _ _ e (ne_of_none e hp)
   have back:∀H',Zi p (upd H3 d (.frz ob (.dT kvs0))) H'->Zi p H (upd H' d (.dT kvs0)):=λH' s c u e hc=>by
    by_cases h:c=d
    ·subst h;rw[ed]at e;cases e;exact Zd
    ·rw[Zc h];exact s c u (by rw[Zc h];exact s1 c u e hc) hc
   generalize upd H3 d (.frz ob (.dT kvs0))=Hf at ef dmf tf back ⊢;refine Z8 (J:=Itk d ob kvs0) kvs0.length (λj σ H'=>Zi p Hf H'/\(∃kvs,DMw P w H' p kvs/\Hop T kvs/\kvs.length<=1000+20000*i+j)/\∃o:Nat->Option V,σ=[some (.ref pw),some (.ref d),some (.ref p),o 3,o 4,some (.int (T.n-i)),o 6,o 7,o 8,o 9]) ?_ (λj σ H' hj q=>⟨hj,q.1 _ _ ef nd⟩) (λσ H' q=>⟨rfl,q.1 _ _ ef nd⟩) (λj σ H' v H4 hj q yl=>?_) (λσ H' q=>?_)
   ·exact⟨Zi.refl p Hf,⟨kvs,dmf,hop,hl⟩,shp rfl⟩
   ·clear dm dmf hop hl;obtain⟨s2,⟨kvs,dm,hop,hl⟩,o,rfl⟩:=q;obtain⟨rfl,kb,kv,hkv,hkb,rfl⟩:=yl;have hj':j<(allS T).length:=by omega
    have hmem:(allS T)[j]∈allS T:=aL hj';obtain⟨ek,iv⟩:=ZK pr hkv (gE hj');generalize (allS T)[j]=S at hmem ek iv;obtain⟨js,is⟩:=YS ok hmem;obtain⟨nt,nh⟩:=Ny is;obtain⟨zw,hz0,hz1⟩:=WT is;have tp:∀c xs,H c=some (.tup xs)->H4 c=some (.tup xs):=λc xs e=>s2 _ _ (tf c xs e) (ne_of_none e hp);obtain⟨ta,v0,v1,v2,v3,ev,hta,i0,i1,_,e3⟩:=Ss iv;have hta4:=tp _ _ hta;have i04:=NK nt tp i0;have i14:=NK nh tp i1;have hvv:=JS (by rw[JC pr];exact MI ok) hkv;dsimp only[Zq,au];refine td λD2 hd2=>?_;refine⟨_,rfl,_,rfl,d,kv.2,rfl,.inr ⟨kvs0,kv.1,kb,.inr ⟨ob,s2 _ _ ef nd⟩,rfl,hkb,hvv.symm⟩,?_⟩;refine⟨ta,_,ev,SqT.of hta4,rfl,?_⟩;dsimp only[Zq,au];refine⟨_,_,rfl,_,_,rfl,_,_,rfl,_,_,rfl,rfl,?_⟩;dsimp only[Zq,au];have skip:∀σ5,(∃o:Nat->Option V,σ5=[some (.ref pw),some (.ref d),some (.ref p),o 3,o 4,some (.int (T.n-i)),o 6,o 7,o 8,o 9])->D2.nx σ5 H4:=λσ5 e5=>hd2 _ _ ⟨s2,⟨kvs,dm,hop,by omega⟩,e5⟩;refine⟨_,rfl,_,rfl,p,kvs,Zx S.head,rfl,dm.rd,Vr nh i14,_,rfl,?_⟩;refine ite2 (λeh=>?_) (λ_=>skip _ (shp rfl));have done:∀c:Bool,if c=true then K2 P w (tVar 2) (tVar 7) (tC (V.bl true)) D2 [some (.ref pw),some (.ref d),some (.ref p),o 3,some v2,some (.int (T.n-i)),some (.ref kb),some v0,some v1,some v3] H4 else KS D2 [some (.ref pw),some (.ref d),some (.ref p),o 3,some v2,some (.int (T.n-i)),some (.ref kb),some v0,some v1,some v3] H4:=λc=>by refine ite2 (λ_=>?_) (λ_=>skip _ (shp rfl));refine⟨_,rfl,_,rfl,p,kvs,Zx S.tail,rfl,dm,Vr nt i04,Nat.lt_of_le_of_lt (by omega:kvs.length<=2000000) (by rw[dq];decide),λo5 dm5=>?_⟩;exact hd2 _ _ ⟨s2.put,⟨_,dm5,hop.put (.inr ⟨S,hmem,rfl,eh⟩),Nat.le_trans QA (by omega)⟩,shp rfl⟩
    rw[ek]at hkb;refine⟨_,rfl,kb,_,_,_,rfl,rfl,SqT.of hkb,hz0,rfl,_,rfl,?_⟩;refine ite2 (λ_=>?_) (λeo=>?_)
    ·exact⟨_,rfl,_,_,rfl,rfl,_,rfl,done _⟩
    ·obtain⟨sa,si,et⟩:=hz1 (λz=>eo (by rw[z];exact decide_eq_true rfl));rw[et]at i04;cases i04 with
    |@tup tt ys _ htt r=>
     cases r with
    |cons h1 r=>
     cases r with
    |cons h2 r=>
     cases r;cases h1;cases h2;exact⟨_,rfl,tt,_,_,_,rfl,rfl,SqT.of htt,Zl (j:=1) rfl,_,rfl,rfl,_,rfl,done _⟩
   ·obtain⟨s2,⟨kv2,dm2,hop2,hl2⟩,o2,rfl⟩:=q;refine⟨d,ob,.dT kvs0,s2 _ _ ef nd,(λo' u' z=>by have z':H d=_:=z;rw[ed]at z';cases z'),?_⟩;refine hd1 _ _ ⟨back _ s2,⟨kv2,dm2.keeps (Zc nd.symm) (λc ys e=>by rw[Zc (ne_of e (s2 _ _ ef nd) (λz=>nomatch z))];exact e),hop2,by omega⟩,shp rfl⟩
  ·obtain⟨s2,⟨kv2,dm2,hop2,hl2⟩,o2,rfl⟩:=q;refine⟨_,rfl,k _ p kv2 (λc u e=>s2 c u e (ne_of_none e hp)) hp dm2 hop2⟩
end
noncomputable def selV(f:Sx->PyData)(k:MK)(vs:List V)(L:List Sx):List V:=((vs.zip L).filter λp=>decide (Zx (f p.2)=k)).map (·.1)
theorem Xk{f:Sx->PyData}{k:MK}{vs:List V}{L:List Sx}{v:V}{S:Sx}(hl:vs.length=L.length):selV f k (vs++[v]) (L++[S])=selV f k vs L++(if Zx (f S)=k then[v]else[]):=by unfold selV;rw[List.zip_append hl,gT,aE];congr 1;show(([(v,S)]:List (V×Sx)).filter _).map _=_;by_cases e:Zx (f S)=k<;>simp[e]
theorem YV{kvs:List (MK×V)}{k0 k:MK}{x:V}(h:valV kvs k0=none):valV (kvs++[(k0,x)]) k=if k=k0 then some x else valV kvs k:=by
 have e:putK kvs k0 x=kvs++[(k0,x)]:=by unfold putK;rw[YC,h];rfl
 rw[<-e,Yu]
structure Grp(P:Program)(w:World)(H:Hp)(d:Addr)(f:Sx->PyData)(vs:List V)(L:List Sx)(kvs:List (MK×V)):Prop where
 dm:DMw P w H d kvs
 len:kvs.length<=L.length
 no:∀k,valV kvs k=none->selV f k vs L=[]
 yes:∀k v,valV kvs k=some v->∃a,v=.ref a/\H a=some (.lst (selV f k vs L))
 uniq:∀k k' v,valV kvs k=some v->valV kvs k'=some v->k=k'
section
variable {P:Program}{w:World}{H H':Hp}{d:Addr}{f:Sx->PyData}{vs:List V}{L:List Sx}{kvs:List (MK×V)}{S:Sx}{v:V}{a q:Addr}
theorem Grp.keep(g:Grp P w H d f vs L kvs)(hd:H' d=H d)(ht:∀b ys,H b=some (.tup ys)->H' b=some (.tup ys))(hl:∀k a,valV kvs k=some (.ref a)->H' a=H a):Grp P w H' d f vs L kvs where
 dm:=g.dm.keeps hd ht
 len:=g.len
 no:=g.no
 yes:=λk v h=>by
  obtain⟨a,rfl,e⟩:=g.yes k v h
  exact⟨a,rfl,(hl k a h).trans e⟩
 uniq:=g.uniq
theorem DMw.isExt(g:DMw P w H d kvs):∃φ,H d=some (.ext φ):=by obtain⟨xs,e,_⟩:=g;exact⟨_,e⟩
theorem Grp.old(g:Grp P w H d f vs L kvs)(hl:vs.length=L.length)(h:valV kvs (Zx (f S))=some (.ref a)):Grp P w (upd H a (.lst (selV f (Zx (f S)) vs L++[v]))) d f (vs++[v]) (L++[S]) kvs:=by
 obtain⟨φ,ed⟩:=DMw.isExt g.dm;obtain⟨a',e',ea⟩:=g.yes _ _ h;cases e';have nd:d≠a:=ne_of ed ea (λz=>nomatch z);refine⟨g.dm.keeps (Zc nd) λb ys e=>by rw[Zc (ne_of e ea (λz=>nomatch z))];exact e,?_,λk hk=>?_,λk u hu=>?_,g.uniq⟩
 ·rw[av];exact Nat.le_trans g.len (Nat.le_add_right _ _)
 ·have ne:¬Zx (f S)=k:=λz=>by subst z;rw[h]at hk;cases hk
  rw[Xk hl,if_neg ne,bp];exact g.no k hk
 ·obtain⟨b,rfl,eb⟩:=g.yes k u hu;by_cases z:Zx (f S)=k
  ·subst z;rw[h]at hu;cases hu;exact⟨a,rfl,by rw[Zd,Xk hl,if_pos rfl]⟩
  ·have nb:b≠a:=λe=>by subst e;exact z (g.uniq _ _ _ h hu)
   exact⟨b,rfl,by rw[Zc nb,Xk hl,if_neg z,bp];exact eb⟩
theorem Grp.new{o:HO}(g:Grp P w H d f vs L kvs)(hl:vs.length=L.length)(h:valV kvs (Zx (f S))=none)(hq:H q=some (.lst []))(nq:∀k,valV kvs k≠some (.ref q))(dm:DMw P w (upd H d o) d (kvs++[(Zx (f S),.ref q)])):Grp P w (upd (upd H d o) q (.lst [v])) d f (vs++[v]) (L++[S]) (kvs++[(Zx (f S),.ref q)]):=by
 obtain⟨φ,ed⟩:=DMw.isExt g.dm;have nd:d≠q:=ne_of ed hq (λz=>nomatch z);have hq2:upd H d o q=some (.lst []):=by rw[Zc (bR nd)];exact hq
 refine⟨dm.keeps (Zc nd) λb ys e=>by rw[Zc (ne_of e hq2 (λz=>nomatch z))];exact e,?_,λk hk=>?_,λk u hu=>?_,λk k' u h1 h2=>?_⟩
 ·rw[av,av];exact Nat.add_le_add_right g.len 1
 ·rw[YV h]at hk;by_cases z:k=Zx (f S)
  ·rw[if_pos z]at hk;cases hk
  ·rw[if_neg z]at hk;rw[Xk hl,if_neg (λe=>z e.symm),bp];exact g.no k hk
 ·rw[YV h]at hu;by_cases z:k=Zx (f S)
  ·rw[if_pos z]at hu;cases hu;subst z;exact⟨q,rfl,by rw[Zd,Xk hl,if_pos rfl,g.no _ h];rfl⟩
  ·rw[if_neg z]at hu;obtain⟨b,rfl,eb⟩:=g.yes k u hu;have nb:b≠q:=λe=>by subst e;exact nq k hu
   refine⟨b,rfl,?_⟩;rw[Zc nb,Zc (ne_of eb ed (λz=>nomatch z)),Xk hl,if_neg (λe=>z e.symm),bp];exact eb
 ·rw[YV h]at h1 h2;by_cases z:k=Zx (f S)<;>by_cases z':k'=Zx (f S)
  ·rw[z,z']
  ·rw[if_pos z]at h1;rw[if_neg z']at h2;cases h1;exact absurd h2 (nq k')
  ·rw[if_neg z]at h1;rw[if_pos z']at h2;cases h2;exact absurd h1 (nq k)
  ·rw[if_neg z]at h1;rw[if_neg z']at h2;exact g.uniq _ _ _ h1 h2
end
theorem WX{f:Sx->PyData}{k:MK}{vs:List V}{L:List Sx}:(selV f k vs L).length<=L.length:=by unfold selV;rw[lm];refine Nat.le_trans (bO _ _) ?_;rw[List.length_zip];exact Nat.min_le_right _ _
section
variable {P:Program}{w:World}{H:Hp}{d q:Addr}{f:Sx->PyData}{vs:List V}{L:List Sx}{kvs:List (MK×V)}{S:Sx}{v vt:V}{Q:Hp->Prop}
def Rest(H:Hp)(d:Addr)(kvs:List (MK×V))(H':Hp):Prop:=∀c o,H c=some o->c≠d->(∀k,valV kvs k≠some (.ref c))->H' c=some o
def EA(H:Hp)(kvs kvs':List (MK×V)):Prop:=∀k a,valV kvs' k=some (.ref a)->(∃k',valV kvs k'=some (.ref a))\/H a=none
theorem TK(g:Grp P w H d f vs L kvs)(hl:vs.length=L.length)(ht:Is H vt (f S))(nl:NL (f S))(hq:H q=none)(k:∀H' kvs',Grp P w H' d f (vs++[v]) (L++[S]) kvs'->Rest H d kvs H'->EA H kvs kvs'->Q H'):DMw P w (upd H q (.lst [])) d kvs/\KyM (upd H q (.lst [])) (Zx (f S)) vt /\(∀u,valV kvs (Zx (f S))=some u->∃a xs,u=.ref a/\upd H q (.lst []) a=some (.lst xs)/\xs.length<=L.length/\Q (upd (upd H q (.lst [])) a (.lst (xs++[v])))) /\(valV kvs (Zx (f S))=none->∀o,DMw P w (upd (upd H q (.lst [])) d o) d (kvs++[(Zx (f S),.ref q)])->upd (upd H q (.lst [])) d o q=some (.lst [])/\Q (upd (upd (upd H q (.lst [])) d o) q (.lst [v]))):=by
 have s1:Same H (upd H q (.lst [])):=sameNew (Same.refl H) hq;have e1:upd H q (.lst []) q=some (.lst []):=Zd;obtain⟨φ,ed⟩:=DMw.isExt g.dm;have nq:∀k,valV kvs k≠some (.ref q):=λk h=>by obtain⟨a,ea,e⟩:=g.yes k _ h;cases ea;rw[hq]at e;cases e
 have g1:Grp P w (upd H q (.lst [])) d f vs L kvs:=g.keep (Zc (ne_of_none ed hq)) (λb ys e=>s1 _ _ e) λk a h=>by obtain⟨b,eb,e⟩:=g.yes k _ h;cases eb;exact Zc (ne_of_none e hq)
 have out:∀c o,H c=some o->upd H q (.lst []) c=some o/\c≠q:=λc o e=>⟨s1 _ _ e,ne_of_none e hq⟩;generalize upd H q (.lst [])=H1 at *;refine⟨g1.dm,Vr nl (ht.same s1),λu hu=>?_,λhn o dm=>?_⟩
 ·obtain⟨a,rfl,ea⟩:=g1.yes _ _ hu;refine⟨a,_,rfl,ea,WX,k _ kvs (g1.old hl hu) (λc o e hd hc=>?_) λk' b h=>.inl ⟨k',h⟩⟩;have nc:c≠a:=λz=>by subst z;exact hc _ hu
  rw[Zc nc];exact(out c o e).1
 ·have nd:q≠d:=ne_of e1 (s1 _ _ ed) (λz=>nomatch z);refine⟨by rw[Zc nd];exact e1,k _ _ (g1.new hl hn e1 nq dm) (λc o' e hd hc=>?_) λk' b h=>?_⟩
  ·rw[Zc (out c o' e).2,Zc hd];exact(out c o' e).1
  ·rw[YV hn]at h;by_cases z:k'=Zx (f S)
   ·rw[if_pos z]at h;cases h;exact .inr hq
   ·rw[if_neg z]at h;exact .inl ⟨k',h⟩
end
noncomputable def KeyL(H:Hp):List V->List Sx->Prop:=bS λv S=>∃k:Addr,v=.ref k/\H k=some (.tup (S.key.map kV))
theorem KeyL.tup{H H':Hp}{ks:List V}{L:List Sx}(s:∀c xs,H c=some (.tup xs)->H' c=some (.tup xs))(h:KeyL H ks L):KeyL H' ks L:=Paired.mapP h λ_ _⟨k,e,q⟩=>⟨k,e,s _ _ q⟩
theorem KeyL.len{H:Hp}{ks:List V}{L:List Sx}(h:KeyL H ks L):ks.length=L.length:=aR h
structure Onw(P:Program)(w:World)(H:Hp)(T:Tb)(p:Addr)(vs:List V)(L:List Sx)(kvs:List (MK×V)):Prop where
 g:Grp P w H p Sx.tail vs L kvs
 kl:KeyL H vs L
 all:∀S∈L,S∈allS T
 len:L.length<=18200
 on:∃Hs:MK->Prop,(∀S∈L,Hs (Zx S.head))/\∀k,Hs k->Uo T k\/∃S∈L,Zx S.tail=k
def KW(P:Program)(w:World):Sp:=λvs H Q _=>∃(b pw l1 l2 l3 l4 d:Addr)(T:Tb),vs=[.ref pw,.ref d]/\TbAt b H pw T l1 l2 l3 l4/\OkTb T/\Dc H d (allS T) /\∀H' p us L kvs,Same H H'->H p=none->Onw P w H' T p us L kvs->Q (.ref p) H'
section
variable {P:Program}{w:World}{K:ae}{mg:Str->Option Value}{base:Heap}
theorem Y4:FnScope [q_w,"_law_steps_here","_law_hopeful_here","_law_found","_law_key"] [q_w,"_law_steps_here"] (Zf T.f__law_onward):=scO
theorem Ww(CH:Can P w K mg base 1 "_law_hopeful" [q_w,"_law_steps_here"] (SH P w))(D:Df K mg "_law_onward" T.f__law_onward [q_w,"_law_steps_here"]):Can P w K mg base 2 "_law_onward" [q_w,"_law_steps_here"] (KW P w):=by
 refine D.cn Y4 λf cdv A outer s H vs Q E hr h=>?_;obtain⟨b,pw,l1,l2,l3,l4,d,T,rfl,tb,ok,dc,k⟩:=h;refine' ⟨_,(@Za _ _ _ _ _ ?h6 (@Za _ _ _ _ _ ?h7 (@Za _ _ _ _ _ ?h8 (@Ze _ _ _ ?h9)))),?rd⟩;case' h9=>refine' (Zk (pv 3))
 case' h8=>refine' (Uw (ZW aD rfl (U0 (pv 1)) (nmT 4 Y4.nd) (@Ze _ _ _ ?h5)))
 case' h7=>refine' (@st _ _ _ _ 3 _ _ Y4.nd QG (by rfl) (by exact aN rfl) (by rfl) (by exact .inl rfl))
 case' h6=>refine' (@st _ _ _ _ 2 _ _ Y4.nd (cn CH hr (@pa2 _ _ _ _ _ (pv 0) (pv 1) (by rfl))) (by rfl) (by exact aN rfl) (by rfl) (by exact .inl rfl))
 case' h5=>refine' (@ZD _ _ _ _ _ _ _ _ (Zr (Pu (ZT hr)) ?h1 (pv 2) (by with_unfolding_all rfl)) (@Ze _ _ _ ?h4) Zo)
 case' h4=>refine' (ZX (Vl bq bE bD YI (LD hW PySem.F.type_dict_setdefault (TV (ZT hr)) (pv 3) (@pa2 _ _ _ _ _ ?h3 ?h2 (by rfl))) (@pa1 _ _ _ (pv 4) (by rfl))))
 case' h3=>refine' (@it _ _ _ _ _ _ K (YM (ZT hr) (pv 1) (pv 4) (λ_ _=>rfl)) Zb (by rfl) (by exact λ_ _=>rfl))
 case' h2=>refine' (@Z0 _ _ _ _ Zj)
 case' h1=>refine' (@it _ _ _ _ _ _ K (YM (ZT hr) (pv 1) (pv 4) (λ_ _=>rfl)) Zb (by rfl) (by exact λ_ _=>rfl))
 case' rd=>
 obtain⟨kvs0,ed,pr⟩:=dc.ord (MX ok);refine⟨_,rfl,_,rfl,b,pw,l1,l2,l3,l4,d,T,rfl,tb,ok,dc,λH1 ph kh S1 hph dmh hop=>?_⟩;dsimp only[Zq,au];refine λp o hp dm0=>?_;have S2:Same H (upd H1 p o):=S1.trans λc u e=>by rw[Zc (ne_of_none e hp)];exact e
 have dmh2:DMw P w (upd H1 p o) ph kh:=dmh.keeps (Zc (by obtain⟨φ,e⟩:=DMw.isExt dmh;exact ne_of_none e hp)) λc ys e=>by rw[Zc (ne_of_none e hp)];exact e
 have hpH:H p=none:=by
  cases e:H p with
 |none=>rfl
 |some u=>rw[S1 _ _ e]at hp;cases hp
 have nph:ph≠p:=by obtain⟨φ,e⟩:=DMw.isExt dmh;exact ne_of_none e hp
 generalize upd H1 p o=H2 at dm0 S2 dmh2 ⊢;clear dmh hp S1;dsimp only[Zq,au];have nd:d≠p:=ne_of_none ed hpH;have lall:=Q4 ok;have lk0:=aR pr;have ed2:=S2 _ _ ed;refine⟨_,rfl,d,kvs0,rfl,ed2,λob=>?_⟩;have ef:upd H2 d (.frz ob (.dT kvs0)) d=some (.frz ob (.dT kvs0)):=Zd;have tf:∀c xs,H2 c=some (.tup xs)->upd H2 d (.frz ob (.dT kvs0)) c=some (.tup xs):=λc xs e=>by rw[Zc (ne_of e ed2 (λz=>nomatch z))];exact e
 have dmf:DMw P w (upd H2 d (.frz ob (.dT kvs0))) p []:=dm0.keeps (Zc nd.symm) tf;have dmhf:DMw P w (upd H2 d (.frz ob (.dT kvs0))) ph kh:=dmh2.keeps (Zc (by obtain⟨φ,e⟩:=DMw.isExt dmh2;exact ne_of e ed2 (λz=>nomatch z))) tf;have tH:∀c xs,H c=some (.tup xs)->upd H2 d (.frz ob (.dT kvs0)) c=some (.tup xs):=λc xs e=>tf _ _ (S2 _ _ e);have back:∀H',Zi p (upd H2 d (.frz ob (.dT kvs0))) H'->Same H (upd H' d (.dT kvs0)):=λH' s c u e=>by
  by_cases h:c=d
  ·subst h;rw[ed]at e;cases e;exact Zd
  ·rw[Zc h];exact s c u (by rw[Zc h];exact S2 c u e) (ne_of_none e hpH)
 have pf:∃φ,upd H2 d (.frz ob (.dT kvs0)) p=some (.ext φ):=DMw.isExt dmf;generalize upd H2 d (.frz ob (.dT kvs0))=Hf at ef tf dmf dmhf tH back pf ⊢;refine Z8 (J:=Itk d ob kvs0) kvs0.length (λj σ H'=>Zi p Hf H'/\(∃us kvs,Grp P w H' p Sx.tail us (((allS T).take j).filter λS=>(valV kh (Zx S.head)).isSome) kvs/\KeyL H' us (((allS T).take j).filter λS=>(valV kh (Zx S.head)).isSome)/\∀k a,valV kvs k=some (.ref a)->Hf a=none)/\∃o,σ=[some (.ref pw),some (.ref d),some (.ref ph),some (.ref p),o]) ?_ (λj σ H' hj q=>⟨hj,q.1 _ _ ef nd⟩) (λσ H' q=>⟨rfl,q.1 _ _ ef nd⟩) (λj σ H' v H4 hj q yl=>?_) (λσ H' q=>?_)
 ·exact⟨Zi.refl p Hf,⟨[],[],⟨dmf,Nat.zero_le _,λk _=>rfl,λk v h=>by simp[valV]at h,λk k' v h=>by simp[valV]at h⟩,.nil,λk a h=>by simp[valV]at h⟩,_,rfl⟩
 ·obtain⟨s2,⟨us,kvs,g,kl,nw⟩,o,rfl⟩:=q;obtain⟨rfl,kb,kv,hkv,hkb,rfl⟩:=yl;have hj':j<(allS T).length:=by omega
  have hmem:(allS T)[j]∈allS T:=aL hj';obtain⟨ek,iv⟩:=ZK pr hkv (gE hj');have e0:(allS T)[j]?=some (allS T)[j]:=gE hj';rw[Yv _ _ e0];generalize (allS T)[j]=S at hmem ek iv;obtain⟨js,is⟩:=YS ok hmem;obtain⟨nt,nh⟩:=Ny is;have tp:∀c xs,H c=some (.tup xs)->H4 c=some (.tup xs):=λc xs e=>s2 _ _ (tH c xs e) (ne_of_none e hpH);obtain⟨ta,v0,v1,v2,v3,ev,hta,i0,i1,_,e3⟩:=Ss iv;have hta4:=tp _ _ hta;have i04:=NK nt tp i0;have i14:=NK nh tp i1;have hvv:=JS (by rw[JC pr];exact MI ok) hkv;have dg:DGet H4 d (.ref kb) (some kv.2):=.inr ⟨kvs0,kv.1,kb,.inr ⟨ob,s2 _ _ ef nd⟩,rfl,hkb,hvv.symm⟩;rw[ev]at dg;have dmh4:DMw P w H4 ph kh:=dmhf.keeps (by obtain⟨φ,e⟩:=DMw.isExt dmhf;rw[e];exact s2 _ _ e nph) λc ys e=>s2 _ _ e (by obtain⟨φ,e'⟩:=pf;exact ne_of e e' (λz=>nomatch z));dsimp only[Zq,au];refine td λD2 hd2=>?_;refine⟨_,rfl,_,rfl,d,_,rfl,dg,ta,_,_,_,rfl,rfl,SqT.of hta4,Zl (j:=1) rfl,_,rfl,ph,kh,Zx S.head,rfl,dmh4.rd,Vr nh i14,_,rfl,?_⟩;refine XZ (λeh=>?_) (λeh=>?_)
  ·rw[if_pos eh]at hd2;have l1:=kl.len;have l2:(((allS T).take j).filter λS=>(valV kh (Zx S.head)).isSome).length<=18200:=Nat.le_trans (bO _ _) (by rw[aF];omega);generalize (((allS T).take j).filter λS=>(valV kh (Zx S.head)).isSome)=L at g kl hd2 l1 l2;have sz:∀{n:Nat},n<=18200->n<sizeLine:=λh=>Nat.lt_of_le_of_lt h (by decide);refine⟨_,rfl,⟨p,kvs,rfl,g.dm.rd⟩,_,rfl,_,rfl,d,_,rfl,dg,ta,_,_,_,rfl,rfl,SqT.of hta4,Zl (j:=0) rfl,zl,λq hq=>?_⟩;have om:=TK (v:=.ref kb) (Q:=λH9=>D2.nx [some (.ref pw),some (.ref d),some (.ref ph),some (.ref p),some (.ref kb)] H9) g l1 i04 nt hq λH' k' g' r' li=>?_
   ·refine⟨p,kvs,Zx S.tail,v0,.ref q,rfl,rfl,om.1,om.2.1,sz (Nat.le_trans g.len l2),λu hu=>?_,λhn o ho=>?_⟩
    ·obtain⟨a,xs,rfl,ea,la,gg'⟩:=om.2.2.1 u hu;exact⟨.inl ⟨rfl,_,SqL.of ea⟩,_,rfl,a,_,_,rfl,rfl,ea,sz (Nat.le_trans la l2),gg'⟩
    ·obtain⟨eq,gg'⟩:=om.2.2.2 hn o ho;exact⟨.inl ⟨rfl,_,SqL.of eq⟩,_,rfl,q,_,_,rfl,rfl,eq,sz (Nat.zero_le _),gg'⟩
   ·have s5:Zi p Hf H':=λc o e hc=>r' c o (s2 c o e hc) hc λk z=>by rw[nw k c z]at e;cases e
    have tk:∀c xs,H4 c=some (.tup xs)->H' c=some (.tup xs):=λc xs e=>r' c _ e (by obtain⟨φ,e'⟩:=DMw.isExt g.dm;exact ne_of e e' (λz=>nomatch z)) λk z=>by obtain⟨a,ea,el⟩:=g.yes k _ z;cases ea;rw[e]at el;cases el
    refine hd2 _ _ ⟨s5,⟨us++[.ref kb],k',g',c7 (kl.tup tk) ⟨kb,rfl,tk _ _ (by rw[<-ek];exact hkb)⟩,λk a h=>?_⟩,_,rfl⟩;rcases li k a h with⟨k2,h2⟩|h2
    ·exact nw k2 a h2
    ·by_cases z:a=p
     ·subst z;obtain⟨φ,e'⟩:=DMw.isExt g.dm;rw[h2]at e';cases e'
     ·cases e:Hf a with
     |none=>rfl
     |some u=>rw[s2 _ _ e z]at h2;cases h2
  ·rw[if_neg (by rw[eh];exact Bool.false_ne_true),bp]at hd2;exact hd2 _ _ ⟨s2,⟨us,kvs,g,kl,nw⟩,_,rfl⟩
 ·obtain⟨s2,⟨us,kvs,g,kl,nw⟩,o,rfl⟩:=q;rw[lk0,aH]at g kl;refine⟨d,ob,.dT kvs0,s2 _ _ ef nd,(λo' u' z=>by have z':H d=_:=z;rw[ed]at z';cases z'),?_⟩;have tb2:∀c ys,H' c=some (.tup ys)->upd H' d (.dT kvs0) c=some (.tup ys):=λc ys e=>by rw[Zc (ne_of e (s2 _ _ ef nd) (λz=>nomatch z))];exact e
  refine⟨_,rfl,k _ p us _ kvs (back _ s2) hpH ⟨g.keep (Zc nd.symm) tb2 (λk a h=>Zc (λz=>by have:=nw k a h;rw[z,ef]at this;cases this)),kl.tup tb2,λS hS=>(bP.mp hS).1,Nat.le_trans (bO _ _) lall,λk=>(valV kh k).isSome=true,λS hS=>(bP.mp hS).2,λk hk=>?_⟩⟩;rcases hop k hk with h|⟨S,h1,h2,h3⟩
  ·exact .inl h
  ·exact .inr ⟨S,bP.mpr ⟨h1,h3⟩,h2⟩
noncomputable def endK(g:Str)(J:List Sx):MK:=match J.getLast? with
|none=>.inl (.inr g)
|some S=>Zx S.head
theorem JF(g:Str)(J:List Sx)(S:Sx):endK g (J++[S])=Zx S.head:=by unfold endK;simp
structure Pth(T:Tb)(g:Str)(J:List Sx):Prop where
 all:∀S∈J,S∈allS T
 ch:∀(i:Nat)S,J[i]?=some S->Zx S.tail=endK g (J.take i)
theorem Pth.nil(T:Tb)(g:Str):Pth T g []:=⟨(λ_ h=>by cases h),λi S h=>by simp at h⟩
theorem Pth.snoc{T:Tb}{g:Str}{J:List Sx}{S:Sx}(h:Pth T g J)(hS:S∈allS T)(e:Zx S.tail=endK g J):Pth T g (J++[S]):=by
 refine⟨λX hX=>?_,λi X hX=>?_⟩
 ·rcases aK.mp hX with q|q
  ·exact h.all X q
  ·rw[a7]at q;rw[q];exact hS
 ·rcases Nat.lt_or_ge i J.length with hi|hi
  ·rw[dO hi]at hX;rw[ip (Nat.le_of_lt hi)];exact h.ch i X hX
  ·have:i=J.length:=by
    rcases Nat.eq_or_lt_of_le hi with z|z
    ·exact z.symm
    ·rw[dr (by simp;omega)]at hX;cases hX
   subst this;rw[dG (Nat.le_refl _),Nat.sub_self]at hX;cases hX;rw[ip (Nat.le_refl _),aH];exact e
noncomputable def mu(n:Int):MK->Int
|.inl _=>n+2
|.inr [_,.inl i]=>n+1-i
|_=>0
theorem WU{T:Tb}(o:OkTb T){S:Sx}(h:S∈allS T):mu T.n (Zx S.head)+1<=mu T.n (Zx S.tail)/\1<=mu T.n (Zx S.head):=by
 obtain⟨j,is⟩:=YS o h;rcases is with⟨y,hy,i,e,h1,h2,_,rfl⟩|⟨y,hy,e,_,rfl⟩|⟨y,hy,i,e,h1,h2,_,rfl⟩|⟨y,hy,i,e,h0,h1,h2,_,rfl⟩
 ·obtain⟨a,b,c,d,rfl,ga,gb,c0,c1,_⟩:=Y5 o hy;have:iA [V.str a,.str b,.int c,.int d] 2=c:=rfl;rw[this]at h1;show T.n+1-i+1<=T.n+2/\1<=T.n+1-i;omega
 ·obtain⟨a,b,d,c,e',f,rfl,ga,gb,gd,c0,c1,c2,f0,f1⟩:=UX o hy;show T.n+1-e'+1<=T.n+1-c/\1<=T.n+1-e';omega
 ·obtain⟨a,b,c,d,e',rfl,ga,gb,gc,d0,d1,e0,e1⟩:=GV o hy;have:iA [V.str a,.str b,.str c,.int d,.int e'] 3=d:=rfl;rw[this]at h2;show T.n+1-(i+d)+1<=T.n+1-i/\1<=T.n+1-(i+d);omega
 ·show T.n+1-(i+1)+1<=T.n+1-i/\1<=T.n+1-(i+1);omega
theorem Pth.len{T:Tb}(o:OkTb T){g:Str}{J:List Sx}(h:Pth T g J):(J.length:Int)+mu T.n (endK g J)<=T.n+2/\1<=mu T.n (endK g J):=by
 have n0:=o.n0;have:∀m,m<=J.length->(m:Int)+mu T.n (endK g (J.take m))<=T.n+2/\1<=mu T.n (endK g (J.take m)):=by
  intro m;induction m with
 |zero=>intro _;show((0:Nat):Int)+(T.n+2)<=T.n+2/\1<=T.n+2;omega
 |succ m ih=>intro hm;obtain⟨h1,h2⟩:=ih (by omega);have e0:J[m]?=some J[m]:=gE (by omega);have e1:=h.ch m _ e0;obtain⟨q1,q2⟩:=WU o (h.all _ (aL (by omega:m<J.length)));rw[aV,e0];show _+mu T.n (endK g (J.take m++[J[m]]))<=_/\1<=mu T.n (endK g (J.take m++[J[m]]));rw[JF];rw[e1]at q1;push_cast;omega
 have:=this J.length (Nat.le_refl _);rwa [aH]at this
theorem Lv{T:Tb}(o:OkTb T){S:Sx}(h:S∈allS T){H:Hp}{v:V}(hv:Is H v (dF S.room)):v=.non\/∃r,v=.int r:=by
 obtain⟨j,is⟩:=YS o h;rcases is with⟨y,hy,i,e,h1,h2,_,rfl⟩|⟨y,hy,e,_,rfl⟩|⟨y,hy,i,e,h1,h2,_,rfl⟩|⟨y,hy,i,e,h0,h1,h2,_,rfl⟩
 ·cases hv;exact .inl rfl
 ·cases hv;exact .inr ⟨_,rfl⟩
 ·cases hv;exact .inr ⟨_,rfl⟩
 ·obtain⟨⟨z,r⟩,rfl,gz,hr⟩:=X6 o hy;cases r with
 |none=>exact absurd rfl h0
 |some r=>have hv':Is H v (dF (V.int r)):=hv;cases hv';exact .inr ⟨_,rfl⟩
theorem UP{H:Hp}{k:MK}{us:List V}{L:List Sx}(h:KeyL H us L):KeyL H (selV Sx.tail k us L) (L.filter λS=>decide (Zx S.tail=k)):=by
 induction h with
|nil=>exact .nil
|@cons v S vs L q t ih=>
  have e:selV Sx.tail k (v::vs) (S::L)=(if Zx S.tail=k then[v]else[])++selV Sx.tail k vs L:=by
   unfold selV;rw[gQ,List.filter_cons];by_cases z:Zx S.tail=k
   ·rw[if_pos (by simpa using z),if_pos z];rfl
   ·rw[if_neg (by simpa using z),if_neg z];rfl
  rw[e,List.filter_cons];by_cases z:Zx S.tail=k
  ·rw[if_pos z,if_pos (by simpa using z)];exact .cons q ih
  ·rw[if_neg z,if_neg (by simpa using z)];exact ih
theorem RA{H:Hp}{us:List V}{L:List Sx}(h:KeyL H us L):∀v∈us,∃a,v=.ref a:=by
 induction h with
|nil=>intro v hv;cases hv
|cons q t ih=>
  intro v hv;rcases ar.mp hv with rfl|hv
  ·obtain⟨a,e,_⟩:=q;exact⟨a,e⟩
  ·exact ih v hv
theorem Td{xs:List V}(h:∀v∈xs,∃a,v=.ref a){b:Addr}{H:Hp}(hb:Zz H b)(e:H b=some (.lst xs)):False:=by obtain⟨x,y,z,eb⟩:=hb;rw[eb]at e;cases e;obtain⟨a,ea⟩:=h (.int x) (by simp);cases ea
theorem Onw.same{P:Program}{w:World}{H H':Hp}{T:Tb}{p b:Addr}{us:List V}{L:List Sx}{kvs:List (MK×V)}(h:Onw P w H T p us L kvs)(hb:Zz H b)(s:Zi b H H'):Onw P w H' T p us L kvs:=by
 obtain⟨x,y,z,eb⟩:=id hb;have tk:∀c xs,H c=some (.tup xs)->H' c=some (.tup xs):=λc xs e=>s _ _ e (ne_of e eb (λz=>nomatch z));refine⟨h.g.keep ?_ tk λk a ha=>?_,h.kl.tup tk,h.all,h.len,h.on⟩
 ·obtain⟨φ,e⟩:=DMw.isExt h.g.dm;rw[e];exact s _ _ e (ne_of e eb (λz=>nomatch z))
 ·obtain⟨a',ea,e⟩:=h.g.yes k _ ha;cases ea;rw[e];refine s _ _ e λz=>?_;subst z;exact Td (RA (UP h.kl)) hb e
theorem Onw.home{P:Program}{w:World}{H:Hp}{T:Tb}{p:Addr}{us:List V}{L:List Sx}{kvs:List (MK×V)}(h:Onw P w H T p us L kvs){k:MK}(hk:valV kvs k=none):∀Hs:MK->Prop,(∀k,Hs k->Uo T k\/∃S∈L,Zx S.tail=k)->Hs k->Uo T k:=λHs on hs=>by
 rcases on k hs with q|⟨S,hS,e⟩
 ·exact q
 ·have h0:=h.g.no k hk;have:=(UP (k:=k) h.kl).len;rw[h0]at this;have hm:S∈L.filter λS=>decide (Zx S.tail=k):=bP.mpr ⟨hS,decide_eq_true e⟩;rw[ck this.symm]at hm;cases hm
noncomputable def T6(a:Addr)(H:Hp):Nat:=match H a with
|some (.lst xs)=>xs.length
|_=>0
theorem NH{a:Addr}{H:Hp}{xs:List V}(h:H a=some (.lst xs)):T6 a H=xs.length:=by unfold T6;rw[h]
structure Jour(T:Tb)(g:Str)(J:List Sx):Prop where
 p:Pth T g J
 home:Uo T (endK g J)
def SF(P:Program)(w:World):Sp:=λvs H Q _=>∃(b p d pl:Addr)(g:Str)(T:Tb)(us:List V)(L:List Sx)(kvs:List (MK×V)),vs=[.ref b,.ref p,.ref d,.str g,.ref pl]/\Zz H b/\Onw P w H T p us L kvs/\OkTb T/\Dc H d (allS T)/\H pl=some (.dT []) /\∀H' l ks J,Zz H' b->Zi b H H'->H l=none->H' l=some (.lst ks)->KeyL H' ks J->(J=[]\/Jour T g J)->Q (.ref l) H'
theorem Q2{xs:List V}{v:V}:atI (xs++[v]) (-1)=some v:=by
 have h:ixN (xs++[v]).length (-1)=some xs.length:=by unfold ixN;rw[if_neg (by decide),av];simp;omega
 unfold atI;rw[h];simp
theorem Yw:FnScope [q_b,"_law_onward_here","_law_steps_here","_law_group","_law_plan","_law_keys","_law_node","_law_some"] [q_b,"_law_onward_here","_law_steps_here","_law_group","_law_plan"] (Zf T.f__law_journey):=scO
noncomputable def Y2:Scope:=csx [(".0",.local),("_law_key",.local),("_law_plan",.free),("_law_steps_here",.free)]
theorem JM:CompScope Y2 (Zf T.f__law_journey):=⟨rfl,by decide +kernel,by decide +kernel,by decide +kernel⟩
theorem JO:(["_law_key","_law_plan","_law_steps_here"]:List Str).Nodup:=by decide +kernel
theorem JN:CompNames [q_b,"_law_onward_here","_law_steps_here","_law_group","_law_plan","_law_keys","_law_node","_law_some"] Y2 ["_law_key","_law_plan","_law_steps_here"] [none,some 4,some 2]:=.mk' (by decide +kernel)
theorem RX(B:∀x∈Blts,mg x=none)(CT:Can P w K mg base 1 "_law_take" [q_b,"_law_many"] X2)(D:Df K mg "_law_journey" T.f__law_journey [q_b,"_law_onward_here","_law_steps_here","_law_group","_law_plan"]):Can P w K mg base 2 "_law_journey" [q_b,"_law_onward_here","_law_steps_here","_law_group","_law_plan"] (SF P w):=by
 refine D.cn Yw λf cdv A outer s H vs Q E hr h=>?_;obtain⟨b,p,d,pl,g,T,us,L,kvs,rfl,hb,onw,ok,dc,epl,k⟩:=h;refine' ⟨_,(@Za _ _ _ _ _ ?h12 (@Za _ _ _ _ _ ?h13 (@Za _ _ _ _ _ ?h14 (@Ze _ _ _ ?h15)))),?rd⟩;case' h15=>refine' (Zk (pv 5))
 case' h14=>refine' (To aD (Zr (Pu (ZT hr)) (pv 6) (pv 1) (by with_unfolding_all rfl)) (@Za _ _ _ _ _ ?h8 (@Za _ _ _ _ _ ?h9 (@Za _ _ _ _ _ ?h10 (@Ze _ _ _ ?h11)))))
 case' h13=>refine' (@st _ _ _ _ 6 _ _ Yw.nd (pv 3) (by rfl) (by exact aN rfl) (by rfl) (by exact .inl rfl))
 case' h12=>refine' (@st _ _ _ _ 5 _ _ Yw.nd ?h1 (by rfl) (by exact aN rfl) (by rfl) (by exact .inl rfl))
 case' h11=>refine' (@st _ _ _ _ 6 _ _ Yw.nd ?h7 (by rfl) (by exact aN rfl) (by rfl) (by exact .inl rfl))
 case' h10=>refine' (ZX (Vl bq bE bD YI (pv 5) (@pa1 _ _ _ ?h5 (by rfl))))
 case' h9=>refine' (@ZD _ _ _ _ _ _ _ _ (@Zr _ _ _ _ _ _ _ _ (Nt hr.units) (pv 7) ?h2 (Zw _)) (@Ze _ _ _ ?h4) Zo)
 case' h8=>refine' (Vf (i:=7) Yw.nd rfl (aN rfl) (scope:=Y2) (N:=["_law_key","_law_plan","_law_steps_here"]) (cp:=[none,some 4,some 2]) rfl JM JN (Z6 (Ka (ZT hr) (pv 1) (pv 6) (λ_ _=>rfl))) (λC s H ex pn=>(nmT 0 JO)) (λC s H ex pn=>(X5 (PW.pt (Y8 (Zr U3 (it K (YM (ZT hr) (pv 2) (pv 0) (λ_ _=>rfl)) Zb) ZZ (Zw _)) (Yz (Zr QK (Vk (ZT hr) (pv 1) (pv 0) Zb ⟨rfl,rfl,rfl,rfl⟩) (it K (YM (ZT hr) (pv 2) (pv 0) (λ_ _=>rfl)) Zb) (Zw _))))))) (λC s H ex pn=>(pv 0)))
 case' h7=>refine' (@it _ _ _ _ _ _ K (YM (ZT hr) (pv 2) ?h6 (λ_ _=>rfl)) Zb (by rfl) (by exact λ_ _=>rfl))
 case' h6=>refine' (@il _ _ _ _ _ _ K (pv 5) (QF Me Zb) (by rfl) (by exact λ_ _=>rfl))
 case' h5=>refine' (@il _ _ _ _ _ _ K (pv 7) (cn CT hr (@pa2 _ _ _ _ _ (pv 0) (Zy (r:=rLen K) ZI rfl (bm B) aT (@pa1 _ _ _ (pv 7) (by rfl))) (by rfl))) (by rfl) (by exact λ_ _=>rfl))
 case' h4=>refine' (Zk ?h3)
 case' h3=>refine' (@Z0 _ _ _ _ Zj)
 case' h2=>refine' (@Z0 _ _ _ _ Zj)
 case' h1=>refine' (@Z0 _ _ _ _ Zj)
 case' rd=>
 refine⟨zl,λlk hk=>?_⟩;dsimp only[Zq,au];obtain⟨kvs0,ed,pr⟩:=dc.ord (MX ok);obtain⟨Hs,hs1,hs2⟩:=onw.on;obtain⟨bx0,by0,bz0,eb⟩:=id hb;have nk:lk≠b:=hb.ne hk;have tpB:∀{H':Hp},Zi b H H'->∀c xs,H c=some (.tup xs)->H' c=some (.tup xs):=λs c xs e=>s _ _ e (ne_of e eb (λz=>nomatch z));have look:∀(H':Hp)(kb:Addr)(S:Sx),Zi b H H'->S∈allS T->H' kb=some (.tup (S.key.map kV))->∃ta v0 v1 v2 v3,DGet H' d (.ref kb) (some (.ref ta))/\H' ta=some (.tup [v0,v1,v2,v3])/\Is H' v1 S.head/\(v2=.non\/∃r,v2=.int r):=λH' kb S s hS hkb=>by
  obtain⟨j,hj⟩:=aZ.mp hS;have lk0:=aR pr;have hj':j<kvs0.length:=by rw[lk0];exact(aj.mp hj).1
  have hkv:=gE hj';obtain⟨ek,iv⟩:=ZK pr hkv hj;obtain⟨js,is⟩:=YS ok hS;obtain⟨nt,nh⟩:=Ny is;obtain⟨ta,v0,v1,v2,v3,ev,hta,i0,i1,i2,e3⟩:=Ss iv;have hvv:=JS (by rw[JC pr];exact MI ok) hkv;rw[ev,ek]at hvv;exact⟨ta,v0,v1,v2,v3,.inr ⟨kvs0,S.key,kb,.inl (s _ _ ed (ne_of ed eb (λz=>nomatch z))),rfl,hkb,hvv.symm⟩,tpB s _ _ hta,NK nh (tpB s) i1,Lv ok hS i2⟩
 have npl:pl≠b:=ne_of epl eb (λz=>nomatch z);refine⟨_,rfl,?_⟩;dsimp only[Zq,au];refine Sl (λσ H'=>Zz H' b/\Zi b H H'/\∃ks J nv o7,H' lk=some (.lst ks)/\KeyL H' ks J/\Pth T g J/\(J≠[]->Hs (endK g J))/\KyM H' (endK g J) nv/\σ=[some (.ref b),some (.ref p),some (.ref d),some (.str g),some (.ref pl),some (.ref lk),some nv,o7]) (λσ H'=>60-T6 lk H') ?_ (λσ H3 q=>?_) (λσ H' Q Q' hq h=>?_)
 ·exact⟨hb.new hk,(Zi.refl b H).new' hk,[],[],_,_,Zd,.nil,Pth.nil T g,λz=>absurd rfl z,rfl,rfl⟩
 ·obtain⟨bx,sm,ks,J,nv,o7,elk,kl,pth,hsE,ky,rfl⟩:=q;have onw3:=onw.same hb sm;have hlen:=pth.len ok;have n1:=ok.n1;have ksl:=kl.len;refine⟨_,rfl,_,rfl,p,kvs,endK g J,rfl,onw3.g.dm.rd,ky,_,rfl,?_⟩;refine XZ (λev=>?_) (λev=>?_)
  ·obtain⟨v,hv⟩:=b7.mp ev;obtain⟨a,rfl,ea⟩:=onw3.g.yes _ _ hv;refine tqr λD1 hk1 hr1=>?_;have sk:=UP (k:=endK g J) onw3.kl;have skl:=sk.len;have skm:∀S∈L.filter λS=>decide (Zx S.tail=endK g J),S∈L/\Zx S.tail=endK g J:=λS hS=>by simpa using bP.mp hS
   have skn:(L.filter λS=>decide (Zx S.tail=endK g J)).length<=18200:=Nat.le_trans (bO _ _) onw.len;generalize (L.filter λS=>decide (Zx S.tail=endK g J))=Lk at sk skl skm skn;generalize selV Sx.tail (endK g J) us L=xs at ea sk skl;refine⟨_,rfl,_,rfl,p,kvs,endK g J,_,rfl,onw3.g.dm.rd,ky,hv,a,rfl,⟨_,SqL.of ea⟩,?_⟩;refine XD (J:=Itl K a) xs.length (Nat.le_trans (by omega:xs.length<=18200) (by decide)) (λi ys τ H'=>H'=H3/\ys.length<=i/\(∃L',KeyL H3 ys L'/\∀S∈L',S∈L/\Zx S.tail=endK g J)/\∃v,τ=[v,some (.ref pl),some (.ref d)]) ⟨rfl,Nat.le_refl _,⟨[],.nil,by simp⟩,none,rfl⟩ (λi ys τ H' q=>q.2.1) (λi ys τ H' hi q=>?_) (λys τ H' q=>?_) (λi ys τ H' x H4 hi q yl=>?_) (λys τ H' q ls hls=>?_)
   ·obtain⟨rfl,_⟩:=q;exact⟨_,xs[i],SqL.of ea,gE hi⟩
   ·obtain⟨rfl,_⟩:=q;exact⟨_,SqL.of ea,Nat.le_refl _⟩
   ·obtain⟨rfl,hl,⟨L',kl',hm'⟩,v,rfl⟩:=q;obtain⟨rfl,hy⟩:=yl;have hx:=hy _ (SqL.of ea);have hi2:i<Lk.length:=by omega
    obtain⟨kb,rfl,hkb⟩:=ZK sk hx (gE hi2);obtain⟨hSL,hSt⟩:=skm _ (aL hi2);generalize Lk[i]=S at hkb hSL hSt;obtain⟨ta,v0,v1,v2,v3,dg,hta,i1,hv2⟩:=look _ kb S sm (onw.all S hSL) hkb;have epl4:=sm _ _ epl npl;dsimp only[Zq,au];have fin:∀c:Bool,if c=true then tVar 0 [some (.ref kb),some (.ref pl),some (.ref d)] H4 (λy H4_1=>H4_1=H4/\(ys++[y]).length<=i+1/\(∃L',KeyL H4 (ys++[y]) L'/\∀S∈L',S∈L/\Zx S.tail=endK g J)/\∃v,([some (.ref kb),some (.ref pl),some (.ref d)]:L2.St)=[v,some (.ref pl),some (.ref d)])else H4=H4/\ys.length<=i+1/\(∃L',KeyL H4 ys L'/\∀S∈L',S∈L/\Zx S.tail=endK g J)/\∃v,([some (.ref kb),some (.ref pl),some (.ref d)]:L2.St)=[v,some (.ref pl),some (.ref d)]:=λc=>by
     refine ite2 (λ_=>?_) (λ_=>⟨rfl,by omega,⟨L',kl',hm'⟩,_,rfl⟩);refine⟨_,rfl,rfl,by rw[av];show ys.length+1<=_;omega,⟨L'++[S],c7 kl' ⟨kb,rfl,hkb⟩,λX hX=>?_⟩,_,rfl⟩;rcases aK.mp hX with q|q
     ·exact hm' X q
     ·rw[a7]at q;rw[q];exact⟨hSL,hSt⟩
    refine⟨_,rfl,_,rfl,d,_,rfl,dg,ta,_,_,_,rfl,rfl,SqT.of hta,Zl (j:=2) rfl,rfl,_,rfl,?_⟩;refine ite2 (λ_=>fin true) (λe=>?_);obtain⟨r,rfl⟩:∃r,v2=.int r:=by
     rcases hv2 with rfl|h
     ·exact absurd (decide_eq_true rfl) e
     ·exact h
    exact⟨_,rfl,pl,rfl,.inr ⟨[],.inl epl4⟩,_,rfl,none,.inr ⟨[],S.key,kb,.inl epl4,rfl,hkb,rfl⟩,_,rfl,_,rfl,d,_,rfl,dg,ta,_,_,_,rfl,rfl,SqT.of hta,Zl (j:=2) rfl,_,_,rfl,rfl,_,rfl,fin _⟩
   ·obtain⟨rfl,hl,⟨L',kl',hm'⟩,v,rfl⟩:=q;dsimp only[Zq,au];refine hk1 _ _ ?_;have S5:Zi b H' (upd H' ls (.lst ys)):=(Zi.refl b H').new' hls;have B5:Zz (upd H' ls (.lst ys)) b:=bx.new hls;have e5:upd H' ls (.lst ys) ls=some (.lst ys):=Zd;have nls:=bx.ne hls;have nlk:ls≠lk:=λz=>by rw[z,elk]at hls;cases hls
    generalize upd H' ls (.lst ys)=H5 at S5 B5 e5 ⊢;have t5:∀c xs,H' c=some (.tup xs)->H5 c=some (.tup xs):=λc xs e=>S5 _ _ e (by obtain⟨x,y,z,e'⟩:=bx;exact ne_of e e' (λz=>nomatch z));refine⟨_,rfl,zl,λle he=>?_⟩;dsimp only[tNil];have S6:Zi b H5 (upd H5 le (.lst [])):=(Zi.refl b H5).new' he;have B6:Zz (upd H5 le (.lst [])) b:=B5.new he;have e6:upd H5 le (.lst []) le=some (.lst []):=Zd;generalize upd H5 le (.lst [])=H6 at S6 B6 e6 ⊢;have els6:=S6 _ _ e5 nls;refine⟨ls,le,ys,rfl,rfl,SqL.of els6,e6,_,rfl,?_⟩;have S06:=sm.trans (S5.trans S6);refine ite2 (λ_=>?_) (λee=>?_)
    ·exact⟨zl,λlr hlr=>k _ lr [] [] (B6.new hlr) (S06.new' hlr) (X9 S06 hlr (B6.ne hlr)) Zd .nil (.inl rfl)⟩
    ·have hy0:0<ys.length:=by
      cases ys with
     |nil=>exact absurd rfl ee
     |cons a l=>simp
     have elk6:=S6 _ _ (S5 _ _ elk nk) nk;have t6:∀c xs,H' c=some (.tup xs)->H6 c=some (.tup xs):=λc xs e=>S6 _ _ (t5 c xs e) (by obtain⟨x,y,z,e'⟩:=B5;exact ne_of (t5 c xs e) e' (λz=>nomatch z));refine⟨_,rfl,.inl ⟨rfl,_,SqL.of elk6⟩,_,rfl,_,rfl,_,rfl,ls,_,rfl,.inl (SqL.of els6),b,_,rfl,B6,by omega,Nat.lt_trans ((Nat.log2_lt (by omega)).mpr (by show(ys.length:Int).natAbs<2 ^ 15;omega)) (by decide),λr7 H7 r0 r1 B7 S7=>?_⟩;obtain⟨v7,at7,m7⟩:=at_of (xs:=ys) r0 r1;obtain⟨m,hm⟩:=aZ.mp m7;have hm2:m<L'.length:=by rw[<-kl'.len];exact(aj.mp hm).1
     obtain⟨kb,rfl,hkb⟩:=ZK kl' hm (gE hm2);obtain⟨hSL,hSt⟩:=hm' _ (aL hm2);generalize L'[m]=S at hkb hSL hSt;have S67:Zi b H' H7:=(S5.trans S6).trans S7;have t7:∀c xs,H' c=some (.tup xs)->H7 c=some (.tup xs):=λc xs e=>S67 _ _ e (by obtain⟨x,y,z,e'⟩:=bx;exact ne_of e e' (λz=>nomatch z));have elk7:=S67 _ _ elk nk;refine⟨ls,_,_,_,rfl,rfl,SqL.of (S7 _ _ els6 nls),at7,?_⟩;refine⟨lk,ks,_,rfl,rfl,elk7,Nat.lt_of_le_of_lt (by omega:ks.length<=1000) (by decide),?_⟩;have e8:upd H7 lk (.lst (ks++[.ref kb])) lk=some (.lst (ks++[.ref kb])):=Zd;have S08:Zi b H (upd H7 lk (.lst (ks++[.ref kb]))):=Xm (sm.trans S67) (Zi.refl b H) nk hk;have B8:Zz (upd H7 lk (.lst (ks++[.ref kb]))) b:=Zz.same_ne B7 nk;have t8:∀c xs,H' c=some (.tup xs)->upd H7 lk (.lst (ks++[.ref kb])) c=some (.tup xs):=λc xs e=>by rw[Zc (ne_of (t7 c xs e) elk7 (λz=>nomatch z))];exact t7 c xs e
     generalize upd H7 lk (.lst (ks++[.ref kb]))=H8 at e8 S08 B8 t8 ⊢;obtain⟨ta,v0,v1,v2,v3,dg,hta,i1,_⟩:=look H8 kb S S08 (onw.all S hSL) (t8 _ _ hkb);obtain⟨js,is⟩:=YS ok (onw.all S hSL);refine⟨_,rfl,_,rfl,_,rfl,lk,_,_,_,rfl,rfl,SqL.of e8,Q2,d,_,rfl,dg,ta,_,_,_,rfl,rfl,SqT.of hta,Zl (j:=1) rfl,?_⟩;dsimp only[Zq,au];refine⟨⟨B8,S08,ks++[.ref kb],J++[S],v1,_,e8,c7 (kl.tup t8) ⟨kb,rfl,t8 _ _ hkb⟩,pth.snoc (onw.all S hSL) hSt,λ_=>by rw[JF];exact hs1 S hSL,by rw[JF];exact Vr (Ny is).2 i1,rfl⟩,?_⟩;rw[NH e8,NH elk,av];show 60-(ks.length+1)<60-ks.length;omega
  ·have hvn:valV kvs (endK g J)=none:=by
    cases e:valV kvs (endK g J)with
   |none=>rfl
   |some v=>rw[e]at ev;cases ev
   refine⟨_,rfl,k _ lk ks J bx sm hk elk kl ?_⟩;by_cases hJ:J=[]
   ·exact .inl hJ
   ·exact .inr ⟨pth,onw3.home hvn Hs hs2 (hsE hJ)⟩
 ·obtain⟨v,e,v',e',a,kv,kk,h1,h2,h3,bb,h4,h5⟩:=h;exact⟨v,e,v',e',a,kv,kk,h1,h2,h3,bb,h4,hq _ _ h5⟩
end
end SX
namespace L2
open PySem PySem.Spec PyProof.Rows
section
variable {X:Cx}
def rInT:R2:=λx y H Q=>∃a o,y=.ref a/\DGet H a x o/\Q (.bl o.isSome) H
def W4:R2:=λx y H Q=>∃a o,y=.ref a/\DGet H a x o/\Q (.bl (!o.isSome)) H
theorem LJ(hu:X.A.units+1<cLine):OpR X (bA .In) rInT:=by intro pins s σ H x y v u Q I rx ry h;obtain⟨a,o,rfl,g,q⟩:=h;cases ry;exact d_in hu I g rx λs3 I3=>⟨.bl o.isSome,H,I3,rfl,q⟩
theorem Rn(hu:X.A.units+1<cLine):OpR X (bA .NotIn) W4:=by intro pins s σ H x y v u Q I rx ry h;obtain⟨a,o,rfl,g,q⟩:=h;cases ry;exact KA hu I g rx λs3 I3=>⟨.bl (!o.isSome),H,I3,rfl,q⟩
end
end L2
namespace SX
open PySem L2 PySem.Spec PyProof.Rows TB WD
noncomputable abbrev JT:=Str×Int×List Sx
noncomputable def prs_(j:JT):Str×Int:=(j.1,j.2.1)
def JAt(lF:Addr)(H:Hp)(v:V)(j:JT):Prop:=∃t lk ks,v=.ref t/\H t=some (.tup [.str j.1,.int j.2.1,.ref lk])/\H lk=some (.lst ks)/\lk≠lF/\KeyL H ks j.2.2
theorem JAt.keep{lF:Addr}{H H':Hp}{v:V}{j:JT}(h:JAt lF H v j)(s:∀c o,H c=some o->c≠lF->(∀kv,o≠.dT kv)->H' c=some o)(hF:∃xs,H lF=some (.lst xs)):JAt lF H' v j:=by obtain⟨t,lk,ks,e,ht,hl,nl,kl⟩:=h;obtain⟨xs,hF⟩:=hF;have tk:∀c xs,H c=some (.tup xs)->H' c=some (.tup xs):=λc xs q=>s _ _ q (ne_of q hF (λz=>nomatch z)) λkv z=>nomatch z;exact⟨t,lk,ks,e,tk _ _ ht,s _ _ hl nl (λkv z=>nomatch z),nl,kl.tup tk⟩
structure JOk(T:Tb)(j:JT):Prop where
 jr:Jour T j.1 j.2.2
 ne:j.2.2≠[]
 gr:∃y∈T.t4,nameOf y=j.1/\0<=j.2.1/\j.2.1<iA y 3
def Qt(P:Program)(w:World)(K:ae):Sp:=λvs H Q _=>∃(a b pw l1 l2 l3 l4 d:Addr)(T:Tb)(zs:List Int),vs=[.ref a,.ref pw,.ref d]/\SqL K H a (zs.map V.int)/\zs.length<=900/\TbAt b H pw T l1 l2 l3 l4/\OkTb T/\Dc H d (allS T) /\∀H' l xs JL,Same H H'->H l=none->H' l=some (.lst xs)->bS (JAt l H') xs JL->JL.length<=40->(JL.map prs_).Nodup->(∀j∈JL,JOk T j)->Q (.ref l) H'
theorem Onw.sameS{P:Program}{w:World}{H H':Hp}{T:Tb}{p:Addr}{us:List V}{L:List Sx}{kvs:List (MK×V)}(h:Onw P w H T p us L kvs)(s:Same H H'):Onw P w H' T p us L kvs:=by
 refine⟨h.g.keep ?_ (λc xs e=>s _ _ e) λk a ha=>?_,h.kl.tup λc xs e=>s _ _ e,h.all,h.len,h.on⟩
 ·obtain⟨φ,e⟩:=DMw.isExt h.g.dm;rw[e];exact s _ _ e
 ·obtain⟨a',ea,e⟩:=h.g.yes k _ ha;cases ea;rw[e];exact s _ _ e
theorem _root_.WD.TbAt.sameS{b:Addr}{H H':Hp}{p:Addr}{T:Tb}{l1 l2 l3 l4:Addr}(s:Same H H')(h:TbAt b H p T l1 l2 l3 l4):TbAt b H' p T l1 l2 l3 l4:=h.same λc o e _=>s c o e
section
variable {P:Program}{w:World}{K:ae}{mg:Str->Option Value}{base:Heap}
theorem ZL:FnScope ["_law_script",q_w,"_law_steps_here","_law_onward_here","_law_found","_law_known","_law_k",q_b,"_law_row","_law_some","_law_person","_law_keys"] ["_law_script",q_w,"_law_steps_here"] (Zf T.f__law_journeys):=scO
noncomputable def YQ:Scope:=csx [(".0",.local),("_law_row",.local)]
theorem Jo:CompScope YQ (Zf T.f__law_journeys):=⟨rfl,by decide +kernel,by decide +kernel,by decide +kernel⟩
theorem Jq:(["_law_row"]:List Str).Nodup:=by decide +kernel
theorem Jp:CompNames ["_law_script",q_w,"_law_steps_here","_law_onward_here","_law_found","_law_known","_law_k",q_b,"_law_row","_law_some","_law_person","_law_keys"] YQ ["_law_row"] [none]:=.mk' (by decide +kernel)
noncomputable def YO:Scope:=csx [(".0",.local),("_law_key",.local),("_law_known",.free),("_law_person",.free)]
theorem Jl:CompScope YO (Zf T.f__law_journeys):=⟨rfl,by decide +kernel,by decide +kernel,by decide +kernel⟩
theorem Jn:(["_law_key","_law_known","_law_person"]:List Str).Nodup:=by decide +kernel
theorem Jm:CompNames ["_law_script",q_w,"_law_steps_here","_law_onward_here","_law_found","_law_known","_law_k",q_b,"_law_row","_law_some","_law_person","_law_keys"] YO ["_law_key","_law_known","_law_person"] [none,some 5,some 10]:=.mk' (by decide +kernel)
theorem Qd(B:∀x∈Blts,mg x=none)(hmin:mg "min"=none)(CC:Can P w K mg base 1 "_law_cell" ["_law_script","_law_k"] (Ml K))(CB:Can P w K mg base 1 "_law_box" ["_law_cell_here"] SI)(CT:Can P w K mg base 1 "_law_take" [q_b,"_law_many"] X2)(CO:Can P w K mg base 2 "_law_onward" [q_w,"_law_steps_here"] (KW P w))(CJ:Can P w K mg base 2 "_law_journey" [q_b,"_law_onward_here","_law_steps_here","_law_group","_law_plan"] (SF P w))(D:Df K mg "_law_journeys" T.f__law_journeys ["_law_script",q_w,"_law_steps_here"]):Can P w K mg base 3 "_law_journeys" ["_law_script",q_w,"_law_steps_here"] (Qt P w K):=by
 refine D.cn ZL λf cdv A outer s H vs Q E hr h=>?_;obtain⟨a,b,pw,l1,l2,l3,l4,d,T,zs,rfl,hS,hzl,tb,ok,dc,k⟩:=h;refine' ⟨_,(@Za _ _ _ _ _ ?h20 (@Za _ _ _ _ _ ?h21 (@Za _ _ _ _ _ ?h22 (@Za _ _ _ _ _ ?h23 (@Ze _ _ _ ?h24))))),?rd⟩;case' h24=>refine' (Zk (pv 4))
 case' h23=>refine' (ZW aD rfl (YY rfl (bm B) (@pa1 _ _ _ (Zy (G7 rfl) rfl (bm B) ik (@pa2 _ _ _ _ _ Zb (Zy (R4 rfl) rfl hmin PyProof.Rows.boot_min (@pa2 _ _ _ _ _ (Zt Xe (Zy (r:=rLen K) ZI rfl (bm B) aT (@pa1 _ _ _ (pv 0) (by rfl))) Zb) Zb (by rfl))) (by rfl))) (by rfl))) (nmT 6 ZL.nd) (@Za _ _ _ _ _ ?h17 (@Za _ _ _ _ _ ?h18 (@Ze _ _ _ ?h19))))
 case' h22=>refine' (@YA _ _ 5 _ _ _ _ ZL.nd (by rfl) (by exact fJ rfl) Y9 (by rfl) (by exact aN rfl))
 case' h21=>refine' (@st _ _ _ _ 4 _ _ ZL.nd ?h1 (by rfl) (by exact aN rfl) (by rfl) (by exact .inl rfl))
 case' h20=>refine' (@st _ _ _ _ 3 _ _ ZL.nd (cn CO hr (@pa2 _ _ _ _ _ (pv 1) (pv 2) (by rfl))) (by rfl) (by exact aN rfl) (by rfl) (by exact .inl rfl))
 case' h19=>refine' (@ZD _ _ _ _ _ _ _ _ (@Zr _ _ _ _ _ _ _ _ (Vq hr.units) (pv 9) ?h3 (Zw _)) (@Za _ _ _ _ _ ?h13 (@Za _ _ _ _ _ ?h14 (@Za _ _ _ _ _ ?h15 (@Ze _ _ _ ?h16)))) Zo)
 case' h18=>refine' (Vf (i:=9) ZL.nd rfl (aN rfl) (scope:=YQ) (N:=["_law_row"]) (cp:=[none]) rfl Jo Jp (Z6 ?h2) (λC s H ex pn=>(nmT 0 Jq)) (λC s H ex pn=>(X5 (Zr Ue (it K (pv 0) Zb) Zb (Zw _)))) (λC s H ex pn=>(pv 0)))
 case' h17=>refine' (@st _ _ _ _ 7 _ _ ZL.nd (cn CB hr (@pa1 _ _ _ (cn CC hr (@pa2 _ _ _ _ _ (pv 0) (Zt ZQ Zb (pv 6)) (by rfl))) (by rfl))) (by rfl) (by exact aN rfl) (by rfl) (by exact .inl rfl))
 case' h16=>refine' (@ZD _ _ _ _ _ _ _ _ (@Zr _ _ _ _ _ _ _ _ (Vq hr.units) (pv 11) ?h9 (Zw _)) (@Za _ _ _ _ _ ?h11 (@Ze _ _ _ ?h12)) Zo)
 case' h15=>refine' (Vf (i:=11) ZL.nd rfl (aN rfl) (scope:=YO) (N:=["_law_key","_law_known","_law_person"]) (cp:=[none,some 5,some 10]) rfl Jl Jm (Z6 (cn CJ hr (@Zh _ _ _ _ _ (pv 7) (@Zh _ _ _ _ _ (pv 3) (@pa3 _ _ _ _ _ _ _ (pv 2) ?h8 Y9 (by rfl)) (by rfl)) (by rfl)))) (λC s H ex pn=>(nmT 0 Jn)) (λC s H ex pn=>(X5 (Zr (Rn (ZT hr)) (pv 2) (pv 1) (by with_unfolding_all rfl)))) (λC s H ex pn=>(pv 0)))
 case' h14=>refine' (@YA _ _ 10 _ _ _ _ ZL.nd (by rfl) (by exact fJ rfl) ?h7 (by rfl) (by exact aN rfl))
 case' h13=>refine' (@st _ _ _ _ 8 _ _ ZL.nd ?h4 (by rfl) (by exact aN rfl) (by rfl) (by exact .inl rfl))
 case' h12=>refine' (ZX (Vl bq bE bD YI (pv 4) (@pa1 _ _ _ (Zt Ke (pv 10) ?h10) (by rfl))))
 case' h11=>refine' (Yx (ZT hr) (pv 5) (pv 10) XB rfl)
 case' h10=>refine' (@ZE _ _ _ _ _ (@pa1 _ _ _ (pv 11) (by rfl)))
 case' h9=>refine' (@Z0 _ _ _ _ Zj)
 case' h8=>refine' (@it _ _ _ _ _ _ K (pv 8) Zb (by rfl) (by exact λ_ _=>rfl))
 case' h7=>refine' (@ZE _ _ _ _ _ (@pa2 _ _ _ _ _ ?h6 (cn CT hr (@pa2 _ _ _ _ _ (pv 7) ?h5 (by rfl))) (by rfl)))
 case' h6=>refine' (@it _ _ _ _ _ _ K (pv 8) Zb (by rfl) (by exact λ_ _=>rfl))
 case' h5=>refine' (@it _ _ _ _ _ _ K (pv 8) Zb (by rfl) (by exact λ_ _=>rfl))
 case' h4=>refine' (@il _ _ _ _ _ _ K (pv 9) (cn CT hr (@pa2 _ _ _ _ _ (pv 7) (Zy (r:=rLen K) ZI rfl (bm B) aT (@pa1 _ _ _ (pv 9) (by rfl))) (by rfl))) (by rfl) (by exact λ_ _=>rfl))
 case' h3=>refine' (@Z0 _ _ _ _ Zj)
 case' h2=>refine' (@il _ _ _ _ _ _ K (pv 1) Zb (by rfl) (by exact λ_ _=>rfl))
 case' h1=>refine' (@Z0 _ _ _ _ Zj)
 case' rd=>
 refine⟨_,rfl,_,rfl,b,pw,l1,l2,l3,l4,d,T,rfl,tb,ok,dc,λH1 p us L kvs S1 hp onw=>?_⟩;dsimp only[Zq,au];refine⟨zl,λlF hF=>?_⟩;dsimp only[Zq,au];refine λkd hkd=>?_;dsimp only[Zq,au];have nFk:lF≠kd:=λz=>by rw[z,Zd]at hkd;cases hkd
 have hkd1:H1 kd=none:=by rw[Zc nFk.symm]at hkd;exact hkd
 have S3:Same H1 (upd (upd H1 lF (.lst [])) kd (.dT [])):=λc o e=>by rw[Zc (ne_of_none e hkd1),Zc (ne_of_none e hF)];exact e
 have eF:upd (upd H1 lF (.lst [])) kd (.dT []) lF=some (.lst []):=by rw[Zc nFk];exact Zd
 have ek:upd (upd H1 lF (.lst [])) kd (.dT []) kd=some (.dT []):=Zd;generalize upd (upd H1 lF (.lst [])) kd (.dT [])=H3 at S3 eF ek ⊢;have hFH:H lF=none:=by
  cases e:H lF with
 |none=>rfl
 |some o=>rw[S1 _ _ e]at hF;cases hF
 clear hkd;refine⟨_,rfl,a,_,rfl,.inl (hS.same (S1.trans S3)),_,_,rfl,rfl,_,_,rfl,_,_,rfl,?_⟩;refine⟨_,rfl,(by split<;>(try split)<;>omega),(by split<;>(try split)<;>omega),?_⟩;refine Z8 (J:=Itr 0 _) _ (λi σ H'=>Same H1 H'/\(∃xs JL kk,H' lF=some (.lst xs)/\H' kd=some (.dT kk)/\bS (JAt lF H') xs JL/\JL.length<=i/\kk.length<=i/\(JL.map prs_).Nodup/\(∀j∈JL,JOk T j)/\∀g n,(valV kk [.inr g,.inl n]).isSome=true↔(g,n)∈JL.map prs_)/\∃o:Nat->Option V,σ=[some (.ref a),some (.ref pw),some (.ref d),some (.ref p),some (.ref lF),some (.ref kd),o 6,o 7,o 8,o 9,o 10,o 11]) ?_ (λi σ H' hi q=>hi) (λσ H' q=>Nat.le_refl _) (λi σ H' v H4 hi q yl=>?_) (λσ H' q=>?_)
 ·exact⟨S3,⟨[],[],[],eF,ek,.nil,Nat.zero_le _,Nat.zero_le _,cW,by simp,λg n=>by simp[valV]⟩,shp rfl⟩
 ·obtain⟨s1,⟨xs,JL,kk,eF,ek,ja,hJl,hkl,ndJ,okJ,kn⟩,o,rfl⟩:=q;obtain⟨rfl,rfl⟩:=yl;have hi40:i<40:=by revert hi;split<;>(try split)<;>omega
  dsimp only[Zq,au];refine td λD' hdd=>?_;have keepJ:∀(H5:Hp)(σ5:L2.St),Same H4 H5->(∃o:Nat->Option V,σ5=[some (.ref a),some (.ref pw),some (.ref d),some (.ref p),some (.ref lF),some (.ref kd),o 6,o 7,o 8,o 9,o 10,o 11])->D'.nx σ5 H5:=λH5 σ5 s5 e5=>hdd _ _ ⟨s1.trans s5,⟨xs,JL,kk,s5 _ _ eF,s5 _ _ ek,Paired.mapP ja λ_ _ q=>q.keep (λc o e _ _=>s5 c o e) ⟨_,eF⟩,by omega,by omega,ndJ,okJ,kn⟩,e5⟩;have SH4:=S1.trans s1;refine⟨_,rfl,_,rfl,_,_,rfl,rfl,a,zs,4+i,(by show[V.ref a,V.int (4+(0+(i:Int)))]=_;rw[show(4+(0+(i:Int)))=((4+i:Nat):Int) by omega]),hS.same SH4,by omega,by omega,λc=>⟨c,rfl,λb' H5 hb' B5 S5=>?_⟩⟩;dsimp only[Zq,au];have tb5:=tb.sameS (SH4.trans S5);refine⟨_,rfl,pw,_,_,_,rfl,rfl,SqL.of tb5.at_,Zl (j:=4) rfl,?_⟩;refine⟨l4,rfl,⟨_,SqL.of tb5.gr.2.choose_spec.1⟩,?_⟩;have l4n:=(Jf ok).2.2.2;refine XD (J:=Itl K l4) T.t4.length (Nat.le_trans l4n (by decide)) (λm ys τ H'=>H'=H5/\ys.length<=m/\(∃R:List (List V),bS (λv r=>∃q:Addr,v=.ref q/\H5 q=some (.tup r)) ys R/\∀r∈R,r∈T.t4/\0<iA r 3)/\∃v,τ=[v]) ⟨rfl,Nat.le_refl _,⟨[],.nil,by simp⟩,none,rfl⟩ (λm ys τ H' q=>q.2.1) (λm ys τ H' hm q=>?_) (λys τ H' q=>?_) (λm ys τ H' x H6 hm q yl=>?_) (λys τ H' q ls hls=>?_)
  ·obtain⟨rfl,_⟩:=q;exact tb5.gr.go hm
  ·obtain⟨rfl,_⟩:=q;exact tb5.gr.stop
  ·obtain⟨rfl,hl,⟨R,pR,hR⟩,v,rfl⟩:=q;have hmem:T.t4[m]∈T.t4:=aL hm;obtain⟨rfl,q,rfl,nq,hq⟩:=tb5.gr.item (gE hm) yl;generalize T.t4[m]=y at hmem hq;obtain⟨ga,gb,gc,gd,rfl,_⟩:=id (Y5 ok hmem);refine⟨_,rfl,q,_,_,_,rfl,rfl,SqT.of hq,Zl (j:=3) rfl,_,_,rfl,rfl,_,rfl,?_⟩;refine ite2 (λe=>?_) (λe=>?_)
   ·refine⟨_,rfl,rfl,by rw[av];show ys.length+1<=_;omega,⟨R++[_],c7 pR ⟨q,rfl,hq⟩,λr hr=>?_⟩,_,rfl⟩;rcases aK.mp hr with hr|hr
    ·exact hR r hr
    ·rw[a7]at hr;rw[hr];exact⟨hmem,of_decide_eq_true e⟩
   ·exact⟨rfl,by omega,⟨R,pR,hR⟩,_,rfl⟩
  ·obtain⟨rfl,hl,⟨R,pR,hR⟩,v,rfl⟩:=q;dsimp only[Zq,au];have S6:Zi b' H' (upd H' ls (.lst ys)):=(Zi.refl b' H').new' hls;have B6:Zz (upd H' ls (.lst ys)) b':=B5.new hls;have e6:upd H' ls (.lst ys) ls=some (.lst ys):=Zd;have nls:=B5.ne hls;generalize upd H' ls (.lst ys)=H6 at S6 B6 e6 ⊢;refine⟨_,rfl,zl,λle he=>?_⟩;dsimp only[tNil];have S7:Zi b' H6 (upd H6 le (.lst [])):=(Zi.refl b' H6).new' he;have B7:Zz (upd H6 le (.lst [])) b':=B6.new he;have e7:upd H6 le (.lst []) le=some (.lst []):=Zd;generalize upd H6 le (.lst [])=H7 at S7 B7 e7 ⊢;have els7:=S7 _ _ e6 nls;have S57:=S6.trans S7;refine⟨ls,le,ys,rfl,rfl,SqL.of els7,e7,_,rfl,?_⟩;refine ite2 (λee=>?_) (λ_=>keepJ _ _ (Xo hb' S5 S57) (shp rfl));have hy0:0<ys.length:=by
    cases ys with
   |nil=>simp at ee
   |cons a l=>simp
   refine tq λD1 hk1=>?_;refine⟨_,rfl,_,rfl,_,rfl,ls,_,rfl,.inl (SqL.of els7),b',_,rfl,B7,by omega,ZP (by omega) (by omega),λr8 H8 r80 r81 B8 S8=>?_⟩;obtain⟨v8,at8,m8⟩:=at_of (xs:=ys) r80 r81;obtain⟨m,hm⟩:=aZ.mp m8;have hm2:m<R.length:=by rw[<-aR pR];exact(aj.mp hm).1
   obtain⟨q,rfl,hq⟩:=ZK pR hm (gE hm2);obtain⟨hmem,hpos⟩:=hR _ (aL hm2);generalize R[m]=y at hq hmem hpos;obtain⟨ga,gb,gc,gd,rfl,gs,_,_,_,gd0,gd3⟩:=id (Y5 ok hmem);have hpos':0<gd:=hpos;have S58:=S57.trans S8;have nqb:q≠b':=by obtain⟨x,y,z,e⟩:=B5;exact ne_of hq e (λz=>nomatch z)
   have hq8:=S58 _ _ hq nqb;refine⟨ls,_,_,_,rfl,rfl,SqL.of (S8 _ _ els7 nls),at8,?_⟩;dsimp only[Zq,au];refine hk1 _ _ (tq λD2 hk2=>?_);refine⟨_,rfl,q,_,_,_,rfl,rfl,SqT.of hq8,Zl (j:=0) rfl,_,rfl,_,rfl,q,_,_,_,rfl,rfl,SqT.of hq8,Zl (j:=3) rfl,b',gd,rfl,B8,hpos',ZP (by omega) (by omega),λnu H9 nu0 nu1 B9 S9=>?_⟩;refine⟨Nat.le_trans (by decide:2<=1000) (by decide),λpt hpt=>?_⟩;dsimp only[Zq,au];refine hk2 _ _ (tq λD3 hk3=>?_);have S510:Zi b' H' (upd H9 pt (.tup [.str ga,.int nu])):=(S58.trans S9).new' hpt;have B10:Zz (upd H9 pt (.tup [.str ga,.int nu])) b':=B9.new hpt;have ept:upd H9 pt (.tup [.str ga,.int nu]) pt=some (.tup [.str ga,.int nu]):=Zd;have npt:=B9.ne hpt;generalize upd H9 pt (.tup [.str ga,.int nu])=H10 at S510 B10 ept ⊢;clear hk1 hk2 S9 B9 S8 B8 S7 B7 e7 els7 S6 B6 e6 hpt;refine⟨_,rfl,_,rfl,_,rfl,_,rfl,q,_,_,_,rfl,rfl,SqT.of (S510 _ _ hq nqb),Zl (j:=0) rfl,λpl hpl=>?_⟩;have S511:Zi b' H' (upd H10 pl (.dT [])):=S510.new' hpl;have B11:Zz (upd H10 pl (.dT [])) b':=B10.new hpl;have epl:upd H10 pl (.dT []) pl=some (.dT []):=Zd;have ept11:upd H10 pl (.dT []) pt=some (.tup [.str ga,.int nu]):=(Zc (ne_of_none ept hpl)).trans ept;generalize upd H10 pl (.dT [])=H11 at S511 B11 epl ept11 ⊢;have S411:=Xo hb' S5 S511;refine⟨b',p,d,pl,ga,T,us,L,kvs,rfl,B11,onw.sameS (s1.trans S411),ok,dc.same (SH4.trans S411),epl,λH12 lj ks J B12 S12 nj ej klj hJ=>?_⟩;have S412:=Xo hb' S5 (S511.trans S12);have ek12:=S412 _ _ ek;have ept12:=S12 _ _ ept11 npt;have dg:DGet H12 kd (.ref pt) (valV kk [.inr ga,.inl nu]):=DGet.t (k:=[.inr ga,.inl nu]) ek12 ept12;have hJl52:ks.length<=1000:=by
    have:=klj.len;rcases hJ with rfl|hJ
    ·rw[this];exact Nat.zero_le _
    ·have h2:=hJ.p.len ok;have:=ok.n1;omega
   refine⟨lj,rfl,⟨_,SqL.of ej⟩,?_⟩;refine XD (J:=Itl K lj) ks.length (Nat.le_trans hJl52 (by decide)) (λm ys τ H'=>H'=H12/\ys=(if(!(valV kk [.inr ga,.inl nu]).isSome)=true then ks.take m else[])/\∃v,τ=[v,some (.ref kd),some (.ref pt)]) ⟨rfl,by simp,none,rfl⟩ (λm ys τ H' q=>?_) (λm ys τ H' hm q=>?_) (λys τ H' q=>?_) (λm ys τ H' x H13 hm q yl=>?_) (λys τ H' q lk hlk=>?_)
   ·obtain⟨_,rfl,_⟩:=q;split
    ·rw[aF];omega
    ·exact Nat.zero_le _
   ·obtain⟨rfl,_⟩:=q;exact⟨_,ks[m],SqL.of ej,gE hm⟩
   ·obtain⟨rfl,_⟩:=q;exact⟨_,SqL.of ej,Nat.le_refl _⟩
   ·obtain⟨rfl,rfl,v,rfl⟩:=q;obtain⟨rfl,hy⟩:=yl;have hx:=hy _ (SqL.of ej);refine⟨_,rfl,_,rfl,kd,_,rfl,dg,_,rfl,?_⟩;refine ite2 (λe=>?_) (λe=>?_)
    ·refine⟨_,rfl,rfl,?_,_,rfl⟩;rw[if_pos e,if_pos e,aV,hx];rfl
    ·refine⟨rfl,?_,_,rfl⟩;rw[if_neg e,if_neg e]
   ·obtain⟨rfl,rfl,v,rfl⟩:=q;rw[aH];dsimp only[Zq,au];refine hk3 _ _ ?_;clear hk3 S511 S510 S5 S411 epl ept11 ept hq8 S57 S58;have nlk:lk≠lF:=λz=>by rw[z,S412 _ _ eF]at hlk;cases hlk
    have S14:Same _ (upd H' lk (.lst (if(!(valV kk [.inr ga,.inl nu]).isSome)=true then ks else[]))):=sameNew (Same.refl H') hlk;have e14:upd H' lk (.lst (if(!(valV kk [.inr ga,.inl nu]).isSome)=true then ks else[])) lk=some (.lst (if(!(valV kk [.inr ga,.inl nu]).isSome)=true then ks else[])):=Zd;generalize upd H' lk (.lst (if(!(valV kk [.inr ga,.inl nu]).isSome)=true then ks else[]))=H14 at S14 e14 ⊢;refine⟨_,rfl,zl,λle he=>?_⟩;dsimp only[tNil];have S15:Same H14 (upd H14 le (.lst [])):=sameNew (Same.refl H14) he;have e15:upd H14 le (.lst []) le=some (.lst []):=Zd;generalize upd H14 le (.lst [])=H15 at S15 e15 ⊢;have S415:Same H4 H15:=S412.trans (S14.trans S15);have elk15:=S15 _ _ e14;refine⟨lk,le,_,rfl,rfl,SqL.of elk15,e15,_,rfl,?_⟩;refine ite2 (λe9=>?_) (λ_=>keepJ _ _ S415 (shp rfl));have hβ:(valV kk [.inr ga,.inl nu]).isSome=false:=by
     cases h:(valV kk [.inr ga,.inl nu]).isSome with
    |false=>rfl
    |true=>rw[h]at e9;simp at e9
    rw[hβ]at e14 elk15 e9;have e9':ks≠[]:=λz=>by rw[z]at e9;simp at e9
    have elk15':H15 lk=some (.lst ks):=elk15;have hJne:J≠[]:=λz=>e9' (by have:=klj.len;rw[z]at this;exact ck this);have hJ':Jour T ga J:=hJ.resolve_left hJne;have ept15:=S15 _ _ (S14 _ _ ept12);have ek15:=S415 _ _ ek;have eF15:=S415 _ _ eF;have kl15:=klj.tup λc xs e=>S15 _ _ (S14 _ _ e);refine⟨_,rfl,_,rfl,kd,_,rfl,DPut.t (k:=[.inr ga,.inl nu]) ek15 ept15 (Nat.lt_of_le_of_lt (by omega:kk.length<=1000) (by decide)),?_⟩;have ek16:upd H15 kd (.dT (putK kk [.inr ga,.inl nu] (.bl true))) kd=some (.dT (putK kk [.inr ga,.inl nu] (.bl true))):=Zd;have k16:∀c o,H15 c=some o->(∀kv,o≠.dT kv)->upd H15 kd (.dT (putK kk [.inr ga,.inl nu] (.bl true))) c=some o:=λc o e n=>by rw[Zc (λz=>by rw[z,ek15]at e;cases e;exact n _ rfl)];exact e
    have o16:∀c,c≠kd->upd H15 kd (.dT (putK kk [.inr ga,.inl nu] (.bl true))) c=H15 c:=λc n=>Zc n;generalize upd H15 kd (.dT (putK kk [.inr ga,.inl nu] (.bl true)))=H16 at ek16 k16 o16 ⊢;have eF16:=k16 _ _ eF15 (λkv z=>nomatch z);have ept16:=k16 _ _ ept15 (λkv z=>nomatch z);have elk16:=k16 _ _ elk15' (λkv z=>nomatch z);refine⟨_,rfl,.inl ⟨rfl,_,SqL.of eF16⟩,_,rfl,_,rfl,Nat.le_trans (by decide:1<=1000) (by decide),λt1 ht1=>?_⟩;have S17:Same H16 (upd H16 t1 (.tup [.ref lk])):=sameNew (Same.refl H16) ht1;have et1:upd H16 t1 (.tup [.ref lk]) t1=some (.tup [.ref lk]):=Zd;generalize upd H16 t1 (.tup [.ref lk])=H17 at S17 et1 ⊢;refine⟨pt,t1,_,_,rfl,rfl,S17 _ _ ept16,et1,Nat.le_trans (by decide:3<=1000) (by decide),(λz=>nomatch z),(λz=>nomatch z),λt2 ht2=>?_⟩;have S18:Same H17 (upd H17 t2 (.tup ([.str ga,.int nu]++[.ref lk]))):=sameNew (Same.refl H17) ht2;have et2:upd H17 t2 (.tup ([.str ga,.int nu]++[.ref lk])) t2=some (.tup [.str ga,.int nu,.ref lk]):=Zd;generalize upd H17 t2 (.tup ([.str ga,.int nu]++[.ref lk]))=H18 at S18 et2 ⊢;have S168:=S17.trans S18;have eF18:=S168 _ _ eF16;have hxl:xs.length<=1000:=by rw[aR ja];omega
    refine⟨lF,xs,_,rfl,rfl,eF18,Nat.lt_of_le_of_lt hxl (by decide),?_⟩;have new:∀c o,H4 c=some o->c≠lF->(∀kv,o≠.dT kv)->upd H18 lF (.lst (xs++[.ref t2])) c=some o:=λc o e n n2=>by rw[Zc n];exact S168 _ _ (k16 _ _ (S415 _ _ e) n2)
    have t19:∀c ys,H15 c=some (.tup ys)->upd H18 lF (.lst (xs++[.ref t2])) c=some (.tup ys):=λc ys e=>by rw[Zc (ne_of e eF15 (λz=>nomatch z))];exact S168 _ _ (k16 _ _ e (λkv z=>nomatch z))
    refine hdd _ _ ⟨λc o e=>?_,⟨xs++[.ref t2],JL++[(ga,nu,J)],putK kk [.inr ga,.inl nu] (.bl true),Zd,?_,?_,?_,?_,?_,?_,λg n=>?_⟩,shp rfl⟩
    ·rw[Zc (ne_of_none e hF)];refine S168 _ _ ?_;rw[o16 c (ne_of_none e hkd1)];exact S415 _ _ (s1 _ _ e)
    ·rw[Zc nFk.symm];exact S168 _ _ ek16
    ·refine c7 (Paired.mapP ja λ_ _ q=>q.keep new ⟨_,eF⟩) ⟨t2,lk,ks,rfl,?_,?_,nlk,kl15.tup t19⟩
     ·rw[Zc (ne_of et2 eF18 (λz=>nomatch z))];exact et2
     ·rw[Zc nlk];exact S168 _ _ elk16
    ·rw[av];show JL.length+1<=_;omega
    ·refine Nat.le_trans ?_ (by omega:kk.length+1<=i+1);unfold putK;split
     ·rw[lm];omega
     ·simp
    ·rw[aE];refine Mz ndJ λz=>?_;have:=(kn ga nu).mpr z;rw[hβ]at this;cases this
    ·intro j hj;rcases aK.mp hj with hj|hj
     ·exact okJ j hj
     ·rw[a7]at hj;subst hj;exact⟨hJ',hJne,_,hmem,rfl,nu0,nu1⟩
    ·rw[Yu,aE];by_cases e:([.inr g,.inl n]:List Key)=[.inr ga,.inl nu]
     ·rw[if_pos e];injection e with e1 e2;injection e1 with e1;injection e2 with e2 _;injection e2 with e2;subst e1 e2;simp[prs_]
     ·rw[if_neg e,kn g n];constructor
      ·exact λh=>bI _ h
      ·intro h;rcases aK.mp h with h|h
       ·exact h
       ·simp[prs_]at h;exact absurd (by rw[h.1,h.2]) e
 ·obtain⟨s1,⟨xs,JL,kk,eF,ek,ja,hJl,hkl,ndJ,okJ,kn⟩,o,rfl⟩:=q;exact⟨_,rfl,k _ lF xs JL (S1.trans s1) hFH eF ja (by revert hJl;split<;>(try split)<;>omega) ndJ okJ⟩
end
theorem LN{d e:PyData}(n:NL d)(m:NL e):PyData.eqv d e=decide (Zx d=Zx e):=by rcases n with⟨a,rfl⟩|⟨a,i,rfl⟩<;>rcases m with⟨b,rfl⟩|⟨b,j,rfl⟩<;>simp[PyData.eqv,PyData.eqvAll,Zx,Bool.beq_eq_decide_eq]
theorem Mg{z:Str}(h:GS z):(PyData.str z).canLay0=true:=(Atm.str h).lay
theorem QN{z:Str}(h:GS z):bJ (.str z)=true:=by unfold bJ;rw[Mg h];rfl
theorem X8{z:Str}{i:Int}(h:GS z):bJ (.tuple [.str z,.int i])=true:=by
 unfold bJ;have e:(PyData.tuple [.str z,.int i]).canLay0=true:=JD (ds:=[.str z,.int i]) λd hd=>by
  simp only[ar,aP,or_false]at hd;rcases hd with rfl|rfl
  ·exact Mg h
  ·rfl
 rw[e];rfl
theorem SD{T:Tb}(o:OkTb T){vs:List V}{j:Nat}{S:Sx}(h:Yo T vs j S):bJ S.tail=true/\bJ S.head=true:=by
 rcases h with⟨y,hy,i,e,h1,h2,_,rfl⟩|⟨y,hy,e,_,rfl⟩|⟨y,hy,i,e,h1,h2,_,rfl⟩|⟨y,hy,i,e,h0,h1,h2,_,rfl⟩
 ·obtain⟨a,b,c,d,rfl,ga,gb,c0,c1,_⟩:=Y5 o hy;exact⟨QN ga,X8 gb⟩
 ·obtain⟨a,b,d,c,e',f,rfl,ga,gb,gd,c0,c1,c2,f0,f1⟩:=UX o hy;exact⟨X8 gb,X8 gd⟩
 ·obtain⟨a,b,c,d,e',rfl,ga,gb,gc,d0,d1,e0,e1⟩:=GV o hy;exact⟨X8 gb,X8 gc⟩
 ·obtain⟨⟨z,r⟩,rfl,gz,hr⟩:=X6 o hy;exact⟨X8 gz,X8 gz⟩
theorem Kx{T:Tb}(o:OkTb T){xs:List V}{j:Nat}{S:Sx}(h:Yo T xs j S){H:Hp}:xs.length<=1000/\∀v∈xs,Itm H v:=by have sm:=(h.small o).key;rw[h.key.1];exact⟨Nat.le_trans sm.1 (by decide),λv hv=>KP (sm.2 v hv)⟩
theorem K5{X:Cx}{e:Expr}{T:Nat->TE}(h:∀j,j<4->PE X e (T j)):PE X e (λσ H Q=>∃j,j<4/\T j σ H Q):=λpins s σ H Q I⟨j,hj,q⟩=>h j hj pins s σ H Q I q
theorem MG{K:ae}:ay K (.type "tuple") (.type "tuple")=some true:=by kernel_rfl
theorem L6{K:ae}:ay K (.type "list") (.type "list")=some true:=by kernel_rfl
theorem Wh{z:Str}(h:GS z):z.length<=1000:=Nat.le_trans h.1 (by decide)
def M9(C:Addr):Sp:=λvs H Q _=>∃(t q:Addr)(T:Tb)(g:Str)(n:Int),vs=[.ref t,.ref q]/\Tel H C t T/\OkTb T/\H q=some (.tup [.str g,.int n])/\(∃y∈T.t4,nameOf y=g/\0<=n/\n<iA y 3)/\Q (.bl true) H
section
variable {P:Program}{w:World}{K:ae}{mg:Str->Option Value}{base:Heap}{C:Addr}{Cs:Nat->Addr}
theorem Mn:FnScope ["table","thing"] ["table","thing"] (Zf T.f_is_person):=scO
theorem P9(B:∀x∈Blts,mg x=none)(Z:TCl K C)(CG:CanM P w K mg base CX0 2 C "is_group" ["self","thing"] (Xh C "group_by_name"))(CR:CanM P w K mg base CX0 3 C "group_row" ["self","name"] (X3 C "group_by_name"))(CI:Can P w K mg base 2 "is_within" ["thing","low","high"] K1.YD)(D:Df K mg "is_person" T.f_is_person ["table","thing"]):Can P w K mg base 4 "is_person" ["table","thing"] (M9 C):=by
 refine D.cn Mn λf cdv A outer s H vs Q E hr h=>?_;obtain⟨t,q,T,g,n,rfl,tel,ok,hq,⟨y,hy,rfl,n0,n1⟩,k⟩:=h;obtain⟨fs,ak⟩:=XH tel;obtain⟨d,kvs,ag⟩:=ak.g;obtain⟨dx,ht⟩:=ak.tab.at_;obtain⟨a,ha,hy'⟩:=ag.yes y hy;obtain⟨a1,b1,c1,d1,rfl,ga,_⟩:=id (Y5 ok hy);have th:Th H (.str a1) "str":=.str _ (Wh ga);refine' ⟨_,(@Za _ _ _ _ _ ?h6 (@Ze _ _ _ ?h7)),?rd⟩;case' h7=>refine' (Zk (cn CI hr (@pa3 _ _ _ _ _ _ _ ?h5 Zb (Zt Xe ?h4 Zb) (by rfl))))
 case' h6=>refine' (@ZD _ _ _ _ _ _ _ _ (PW.pt (Y8 (ZH (ZA (YZ (c:="tuple") (pv 1) rfl (bm B) rfl (bm B) YR))) (Y8 (@Zr _ _ _ _ _ _ _ _ U2 (Zy (r:=rLen K) ZI rfl (bm B) aT (@pa1 _ _ _ (pv 1) (by rfl))) Zb (Zw _)) (Yz (ZH (ZA (ZR CG Z.cl Z1 hr.m (pv 0) (@pa1 _ _ _ ?h1 (by rfl))))))))) (@Ze _ _ _ ?h2) Zo)
 case' h5=>refine' (@it _ _ _ _ _ _ K (pv 1) Zb (by rfl) (by exact λ_ _=>rfl))
 case' h4=>refine' (@it _ _ _ _ _ _ K (ZR CR Z.cl Z1 hr.m (pv 0) (@pa1 _ _ _ ?h3 (by rfl))) Zb (by rfl) (by exact λ_ _=>rfl))
 case' h3=>refine' (@it _ _ _ _ _ _ K (pv 1) Zb (by rfl) (by exact λ_ _=>rfl))
 case' h2=>refine' (Zk XB)
 case' h1=>refine' (@it _ _ _ _ _ _ K (pv 1) Zb (by rfl) (by exact λ_ _=>rfl))
 case' rd=>
 have kn:=XY ha;refine⟨_,rfl,_,_,_,_,rfl,.tup hq,MG,_,rfl,?_⟩;refine iteF ?_;refine⟨_,rfl,q,_,rfl,.inr (SqT.of hq),rfl,_,rfl,?_⟩;refine iteF ?_;refine mthV ht (ak.tab.only _ (by decide +kernel)) ⟨_,rfl,q,_,_,_,rfl,rfl,SqT.of hq,Zl (j:=0) rfl,t,_,_,fs,d,kvs,rfl,ak.tab,ag.fld,ag.at_,th,_,rfl,?_⟩;show if(!ZM (.str (nameOf [V.str a1,.str b1,.int c1,.int d1])) kvs)=true then _ else _
 rw[kn];refine iteF ?_;refine⟨_,rfl,q,_,_,_,rfl,rfl,SqT.of hq,Zl (j:=1) rfl,mthV ht (ak.tab.only _ (by decide +kernel)) ⟨_,rfl,q,_,_,_,rfl,rfl,SqT.of hq,Zl (j:=0) rfl,t,_,_,fs,d,kvs,_,rfl,ak.tab,ag.fld,ag.at_,th,ha,?_⟩⟩;refine⟨a,_,_,_,rfl,rfl,SqT.of hy',Zl (j:=3) rfl,_,_,rfl,rfl,_,_,0,_,rfl,.int n,?_⟩;have hd:n<d1:=n1;rw[VM n0 (by omega:n<=d1-1)];exact k
def Qr(C:Addr):Sp:=λvs H Q _=>∃(t lk:Addr)(T:Tb)(g:Str)(ks:List V)(J:List Sx),vs=[.ref t,.str g,.ref lk]/\Tel H C t T/\OkTb T/\H lk=some (.lst ks)/\KeyL H ks J/\Jour T g J/\J≠[]/\(∃y∈T.t4,nameOf y=g)/\∀H',Same H H'->Q (.bl true) H'
theorem YE:FnScope ["table","group","keys","node","key","step"] ["table","group","keys"] (Zf T.f_leads_home):=scO
theorem RZ(B:∀x∈Blts,mg x=none)(Z:TCl K C)(ZS:∀j,j<4->SCl K (Cs j))(CH:CanM P w K mg base CX0 3 C "is_home" ["self","thing"] (Va C))(CS:Can P w K mg base 5 "step_or_none" ["table","key"] (spSN K C Cs))(CL:∀j,j<4->CanM P w K mg base CX0 1 (Cs j) "tail" ["self"] (Qu K "its_tail"))(CD:∀j,j<4->CanM P w K mg base CX0 1 (Cs j) "head" ["self"] (Qu K "its_head"))(D:Df K mg "leads_home" T.f_leads_home ["table","group","keys"]):Can P w K mg base 6 "leads_home" ["table","group","keys"] (Qr C):=by
 refine D.cn YE λf cdv A outer s H vs Q E hr h=>?_;obtain⟨t,lk,T,g,ks,J,rfl,tel,ok,elk,kl,jr,hne,⟨yg,hyg,eyg⟩,k⟩:=h;refine' ⟨_,(@Za _ _ _ _ _ ?h6 (@Za _ _ _ _ _ ?h7 (@Ze _ _ _ ?h8))),?rd⟩;case' h8=>refine' (Zk (ZR CH Z.cl Z1 hr.m (pv 0) (@pa1 _ _ _ ?h5 (by rfl))))
 case' h7=>refine' (ZW aD rfl (Z6 (pv 2)) (nmT 4 YE.nd) (@Za _ _ _ _ _ ?h2 (@Za _ _ _ _ _ ?h3 (@Ze _ _ _ ?h4))))
 case' h6=>refine' (@st _ _ _ _ 3 _ _ YE.nd (pv 1) (by rfl) (by exact aN rfl) (by rfl) (by exact .inl rfl))
 case' h5=>refine' (@it _ _ _ _ _ _ K (pv 3) Zb (by rfl) (by exact λ_ _=>rfl))
 case' h4=>refine' (@st _ _ _ _ 3 _ _ YE.nd (K5 λj hj=>Nm (CD j hj) (ZS j hj).cl Z1 hr.m (pv 5)) (by rfl) (by exact aN rfl) (by rfl) (by exact .inl rfl))
 case' h3=>refine' (@ZD _ _ _ _ _ _ _ _ (PW.pt (Y8 (@Zr _ _ _ _ _ _ _ _ U3 (pv 5) ZZ (Zw _)) (Yz (@Zr _ _ _ _ _ _ _ _ (TF hr.units) (K5 λj hj=>Nm (CL j hj) (ZS j hj).cl Z1 hr.m (pv 5)) (pv 3) (Zw _))))) (@Ze _ _ _ ?h1) Zo)
 case' h2=>refine' (@st _ _ _ _ 5 _ _ YE.nd (cn CS hr (@pa2 _ _ _ _ _ (pv 0) (pv 4) (by rfl))) (by rfl) (by exact aN rfl) (by rfl) (by exact .inl rfl))
 case' h1=>refine' (Zk XB)
 case' rd=>
 have ksl:=kl.len;have jl:=jr.p.len ok;have n1:=ok.n1;have gsg:GS g:=by obtain⟨a,b,c,d,rfl,ga,_⟩:=Y5 ok hyg;rw[<-eyg];exact ga
 refine⟨_,rfl,?_⟩;dsimp only[Zq,au];refine⟨_,rfl,lk,rfl,⟨_,SqL.of elk⟩,?_⟩;refine Z8 (J:=Itl K lk) ks.length (λi σ H'=>Same H H'/\(∃nv nd,Is H' nv nd/\NL nd/\bJ nd=true/\Zx nd=endK g (J.take i)/\∃o4 o5,σ=[some (.ref t),some (.str g),some (.ref lk),some nv,o4,o5])) ?_ (λi σ H' hi q=>⟨_,ks[i],SqL.of (q.1 _ _ elk),gE hi⟩) (λσ H' q=>⟨_,SqL.of (q.1 _ _ elk),Nat.le_refl _⟩) (λi σ H' v H3 hi q yl=>?_) (λσ H' q=>?_)
 ·exact⟨Same.refl H,.str g,.str g,.str g,.inl ⟨_,rfl⟩,QN gsg,rfl,_,_,rfl⟩
 ·obtain⟨s1,nv,nd,inv,nln,shn,ek,o4,o5,rfl⟩:=q;obtain⟨rfl,hy⟩:=yl;have hx:=hy _ (SqL.of (s1 _ _ elk));have hi2:i<J.length:=by omega
  have eJ:=gE hi2;obtain⟨kb,rfl,hkb⟩:=ZK kl hx eJ;have hS:=jr.p.all _ (aL hi2);have hch:=jr.p.ch i _ eJ;have hnext:endK g (J.take (i+1))=Zx J[i].head:=by rw[aV,eJ];exact JF _ _ _
  generalize J[i]=S at hkb hS hch hnext;obtain⟨js,is⟩:=YS ok hS;obtain⟨i1,i2⟩:=Kx ok is (H:=H3);obtain⟨sh1,sh2⟩:=SD ok is;obtain⟨nt,nh⟩:=Ny is;dsimp only[Zq,au];refine td λD' hdd=>?_;refine⟨_,rfl,_,rfl,t,_,T,rfl,tel.same s1,ok,.inr ⟨kb,_,rfl,s1 _ _ hkb,i1,i2,λj' S' is' H4 q s4 st=>?_,λno=>absurd is (no js S)⟩⟩;obtain⟨rfl,rfl⟩:=is.uniq ok is';obtain⟨dy,ky,vt,vh,h1,h2,h3,h4⟩:=st;have hj4:=is.key.2;dsimp only[Zq,au];refine⟨_,rfl,rfl,_,rfl,?_⟩;refine iteF ?_;refine⟨_,hj4,_,rfl,q,dy,_,rfl,h1,rfl,q,_,dy,_,vt,rfl,ZS _ hj4,h1,rfl,_,rfl,_,_,h3,inv.same s4,sh1,shn,_,rfl,?_⟩;show if(!PyData.eqv S.tail nd)=true then _ else _
  rw[LN nt nln,hch,ek,decide_eq_true rfl];refine iteF ?_;refine⟨_,hj4,_,rfl,q,dy,_,rfl,h1,rfl,q,_,dy,_,vh,rfl,ZS _ hj4,h1,rfl,?_⟩;exact hdd _ _ ⟨s1.trans s4,vh,S.head,h4,nh,sh2,hnext.symm,_,_,rfl⟩
 ·obtain⟨s1,nv,nd,inv,nln,shn,ek,o4,o5,rfl⟩:=q;rw[ksl,aH]at ek;obtain⟨y,hy,hroom,i,ey⟩:=jr.home;rw[ey]at ek;obtain⟨fs,ak⟩:=XH (tel.same s1);obtain⟨d,kvs,f1,f2,pd⟩:=ak.p;obtain⟨dx,ht⟩:=ak.tab.at_;have hv:=pd.has y hy;rw[hroom]at hv;rcases nln with⟨a,rfl⟩|⟨a,m,rfl⟩
  ·cases ek
  ·simp only[Zx]at ek;injection ek with ek;injection ek with e1 e2;injection e1 with e1;cases inv with
  |@tup nt ys _ hnt r=>
   cases r with
  |cons h1 r=>
   cases r with
  |cons h2 r=>
   cases r;cases h1;cases h2;obtain⟨⟨z,rm⟩,ep,gz,_⟩:=X6 ok hy;have ga:GS a:=by rw[e1,ep];exact gz
   refine mthV ht (ak.tab.only _ (by decide +kernel)) ⟨_,rfl,nt,_,_,_,rfl,rfl,SqT.of hnt,Zl (j:=0) rfl,t,_,_,fs,d,kvs,rfl,ak.tab,f1,f2,.str _ (Wh ga),?_⟩;have hh:JQ (.str a) kvs=true:=by unfold JQ;rw[e1];simp[hv]
   rw[hh];exact k _ s1
def KY(C:Addr):Sp:=λvs H Q _=>∃(t q lk:Addr)(T:Tb)(j:JT)(ks:List V),vs=[.ref t,.ref q]/\Tel H C t T/\OkTb T/\H q=some (.tup [.str j.1,.int j.2.1,.ref lk])/\H lk=some (.lst ks)/\KeyL H ks j.2.2/\JOk T j/\∀H',Same H H'->Q (.bl true) H'
theorem GA:FnScope ["table","thing"] ["table","thing"] (Zf T.f_is_journey):=scO
theorem KI(B:∀x∈Blts,mg x=none)(CP:Can P w K mg base 4 "is_person" ["table","thing"] (M9 C))(CL:Can P w K mg base 6 "leads_home" ["table","group","keys"] (Qr C))(D:Df K mg "is_journey" T.f_is_journey ["table","thing"]):Can P w K mg base 7 "is_journey" ["table","thing"] (KY C):=by
 refine D.cn GA λf cdv A outer s H vs Q E hr h=>?_;obtain⟨t,q,lk,T,j,ks,rfl,tel,ok,hq,elk,kl,jok,k⟩:=h;refine' ⟨_,(@Za _ _ _ _ _ ?h7 (@Za _ _ _ _ _ ?h8 (@Ze _ _ _ ?h9))),?rd⟩;case' h9=>refine' (Zk (XE (YZ (c:="list") ?h6 rfl (bm B) rfl (bm B) UC) (XE (@YG _ _ _ _ _ _ _ _ Ue (Zy (r:=rLen K) ZI rfl (bm B) aT (@pa1 _ _ _ ?h5 (by rfl))) Zb (Zw _)) (Xd (cn CL hr (@pa3 _ _ _ _ _ _ _ (pv 0) ?h4 ?h3 (by rfl)))))))
 case' h8=>refine' (@ZD _ _ _ _ _ _ _ _ (ZH (ZA (cn CP hr (@pa2 _ _ _ _ _ (pv 0) (XS (r:=rSlT K) Ln (pv 1) Jz (Jy Zb)) (by rfl))))) (@Ze _ _ _ ?h2) Zo)
 case' h7=>refine' (@ZD _ _ _ _ _ _ _ _ (PW.pt (Y8 (ZH (ZA (YZ (c:="tuple") (pv 1) rfl (bm B) rfl (bm B) YR))) (Yz (@Zr _ _ _ _ _ _ _ _ U2 (Zy (r:=rLen K) ZI rfl (bm B) aT (@pa1 _ _ _ (pv 1) (by rfl))) Zb (Zw _))))) (@Ze _ _ _ ?h1) Zo)
 case' h6=>refine' (@it _ _ _ _ _ _ K (pv 1) Zb (by rfl) (by exact λ_ _=>rfl))
 case' h5=>refine' (@it _ _ _ _ _ _ K (pv 1) Zb (by rfl) (by exact λ_ _=>rfl))
 case' h4=>refine' (@it _ _ _ _ _ _ K (pv 1) Zb (by rfl) (by exact λ_ _=>rfl))
 case' h3=>refine' (@it _ _ _ _ _ _ K (pv 1) Zb (by rfl) (by exact λ_ _=>rfl))
 case' h2=>refine' (Zk XB)
 case' h1=>refine' (Zk XB)
 case' rd=>
 refine⟨_,rfl,_,_,_,_,rfl,.tup hq,MG,_,rfl,?_⟩;refine iteF ?_;refine⟨_,rfl,q,_,rfl,.inr (SqT.of hq),rfl,_,rfl,?_⟩;refine iteF ?_;refine⟨_,rfl,_,rfl,_,rfl,q,_,rfl,SqT.of hq,(by show ¬(HT.sIx 3 0 none=0/\HT.sIx 3 3 (some 2)=3);decide),λp hp=>?_⟩;have S1:Same H (upd H p (.tup (cutV [.str j.1,.int j.2.1,.ref lk] none (some 2)))):=sameNew (Same.refl H) hp;have ep:upd H p (.tup (cutV [.str j.1,.int j.2.1,.ref lk] none (some 2))) p=some (.tup [.str j.1,.int j.2.1]):=Zd;generalize upd H p (.tup (cutV [.str j.1,.int j.2.1,.ref lk] none (some 2)))=H1 at S1 ep ⊢;obtain⟨y,hy,e1,n0,n1⟩:=jok.gr;refine⟨t,p,T,j.1,j.2.1,rfl,tel.same S1,ok,ep,⟨y,hy,e1,n0,n1⟩,_,rfl,?_⟩;refine iteF ?_;have hq1:=S1 _ _ hq;have elk1:=S1 _ _ elk;have hkn:0<ks.length:=by have:=kl.len;have h2:j.2.2.length≠0:=λz=>jok.ne (ck z);omega
 refine⟨_,rfl,q,_,_,_,rfl,rfl,SqT.of hq1,Zl (j:=2) rfl,_,_,_,_,rfl,.lst elk1,L6,_,rfl,?_⟩;refine iteT ?_;refine⟨_,rfl,q,_,_,_,rfl,rfl,SqT.of hq1,Zl (j:=2) rfl,lk,_,rfl,.inl (SqL.of elk1),_,_,rfl,rfl,_,rfl,?_⟩;refine ite2 (λ_=>?_) (λe=>absurd (decide_eq_true (by omega)) e);refine⟨_,rfl,_,rfl,q,_,_,_,rfl,rfl,SqT.of hq1,Zl (j:=0) rfl,_,rfl,q,_,_,_,rfl,rfl,SqT.of hq1,Zl (j:=2) rfl,?_⟩;exact⟨t,lk,T,j.1,ks,j.2.2,rfl,tel.same S1,ok,elk1,kl.tup (λc xs e=>S1 _ _ e),jok.jr,jok.ne,⟨y,hy,e1⟩,λH' s'=>k _ (S1.trans s')⟩
end
end SX
namespace L2
open PySem PySem.Spec PyProof.Rows
section
variable {P:Program}{w:World}{A:br}{E:Value->ah->Prop}{s:ah}
theorem Lb{es:Array DictEntry}{xs:List (List Key×Addr×Value)}(h:es.toList=xs.map (ie (bG (Zv P w))))(i:Nat):es[i]?=(xs[i]?).map (ie (bG (Zv P w))):=by rw[<-d_,h,aW]
theorem Pk{a b:Addr}{xs ys:List (List Key×Addr×Value)}{id:String}{Q:Bool->ah->Prop}(hu:(bG (Zv P w)).room A)(ha:(a==bu)=false)(hb:(b==bu)=false)(da:s.heap.DictOfH (bG (Zv P w)) a xs)(db:s.heap.DictOfH (bG (Zv P w)) b ys)(hl:xs.length=ys.length)(hv:∀x∈xs,∀(j:Nat)(p:Addr×Value),ys[j]?=some (x.1,p)->∃n t u,x.2.2=Value.int n t/\p.2=Value.int n u)(hm:∀x∈xs,∃(j:Nat)(p:Addr×Value),ys[j]?=some (x.1,p))(h:Q true s):wpAny (model P w) A (cQ id a b) Q E s:=by
 obtain⟨oa,ea,pa,a1,a2,a3,a4,a5,a6⟩:=da;obtain⟨ob,eb,pb,b1,b2,b3,b4,b5,b6⟩:=db;have sa:ea.size=xs.length:=by rw[<-bz,a4,lm]
 have sb:eb.size=ys.length:=by rw[<-bz,b4,lm]
 unfold cQ dX;rw[ha,hb];refine aa (af (aa (af ?_)));refine aa (aY a1 a3 (aa (aY b1 b3 ?_)));rw[if_neg (by simp[sa,sb,hl])];refine aa (bg a1 a3 (aa ?_));rw[Std.Legacy.Range.forIn_eq_forIn_range'];refine f9 _ (λrest b' s'=>s'=s/\b'=(none,())/\∃i,rest=gi i (ea.size-i)/\i<=ea.size) _ ?_ ?_ _ _ ⟨rfl,rfl,0,by simp[Std.Legacy.Range.size],Nat.zero_le _⟩
 ·rintro x rest b' s' ⟨rfl,rfl,i,hr,hi⟩;have hlt:i<ea.size:=by
   rcases Nat.lt_or_ge i ea.size with h|h
   ·exact h
   ·rw[Nat.sub_eq_zero_of_le h]at hr;cases hr
  obtain⟨m,em⟩:∃m,ea.size-i=m+1:=⟨ea.size-i-1,by omega⟩;rw[em,List.range'_succ]at hr;injection hr with hx hr;subst hx;have hx':x<xs.length:=sa▸hlt;have hxe:=gE hx';refine aa (aY a1 a3 ?_);rw[Lb a4,hxe];have hmem:xs[x]∈xs:=aL hx';generalize xs[x]=y at hxe hmem ⊢;refine aa (aX (aa ?_));refine wpAny_dictFind_heap (knd:=bG (Zv P w)) (k:=y.1) (xs:=ys) hu (a5 y hmem) b1 b3 b4 b5 b6 (λhno=>?_) (λj p hj=>?_)
  ·obtain⟨j,p,hj⟩:=hm y hmem;exact absurd hj (hno j p)
  ·refine aa (aY b1 b3 ?_);rw[Lb b4,hj];refine aX ?_;obtain⟨n,t,u,e1,e2⟩:=hv y hmem j p hj;show wpAny (model P w) A (eqBool y.2.2 p.2) _ E s';rw[e1,e2];refine SeqAt.EqAt.int_int n t n u _ _ _ _ ?_;rw[beq_self_eq_true];refine aa (bg a1 a3 ?_);rw[if_neg (by simp)];exact af ⟨rfl,rfl,x+1,by rw[hr];congr 1;omega,hlt⟩
 ·rintro b' s' ⟨rfl,rfl,_⟩;exact af h
theorem Md{xs:List (List Key×Addr×Value)}(nd:(xs.map (·.1)).Nodup){x:List Key×Addr×Value}(h:x∈xs):atKey xs x.1=some x.2:=by obtain⟨i,hi⟩:=aZ.mp h;exact atKey_of_get nd hi
theorem Rt{xs:List (List Key×Addr×Value)}{k:List Key}{p:Addr×Value}(h:atKey xs k=some p):(k,p)∈xs:=by unfold atKey at h;obtain⟨q,hq,rfl⟩:=cu.mp h;have:=List.find?_some hq;rw[<-of_decide_eq_true this];exact List.mem_of_find?_eq_some hq
theorem Ra{a b:Value}{Q:Value×Value->ah->Prop}{n:String}(hn:(["clear","keys","values","items","popitem","__reversed__","__iter__","__repr__","pop","setdefault","update","__init__","__setitem__","__delitem__","__ior__"].contains n)=false)(h:Q (a,b) s):wpAny (model P w) A (eZ n {pos:=[a,b]}) Q E s:=by unfold eZ hZ;rw[hn];exact aa (af (aa (af (af h))))
theorem NQ{a b:Addr}{n:String}{wd:Bool}{Q:PySem.Fin->ah->Prop}{B:Sem PySem.Fin}(hn:(["clear","keys","values","items","popitem","__reversed__","__iter__","__repr__","pop","setdefault","update","__init__","__setitem__","__delitem__","__ior__"].contains n)=false)
  (eB:B=(do
   let x <-eZ n {pos:=[.ref a,.ref b]}
   match x with
  |(self,other)=>do
    let i <-PySem.isInstance other (Value.type "dict")
    if(!i)=true then do
     rule (toString "dict."++toString n++toString ".not-a-dict")
     ret Value.notImplemented
    else do
     let u <-Builtin.Dict.addrOf self
     let v <-Builtin.Dict.addrOf other
     let r <-cQ (toString "dict."++toString n) u v
     ret (Value.bool (r==wd))))
  (tb:s.TypeIs (.ref b) "dict") (h:∀id,wpAny (model P w) A (cQ id a b) (λr s'=>Q (.done (.ret (.bool (r==wd)))) s') E s):wpAny (model P w) A B Q E s:=by
 subst eB
 refine aa (Ra hn ?_)
 refine aa (fe tb isSubtype_dict_dict ?_)
 refine aa (af (aa (af (aa ?_))))
 exact dz (h _) (λr s' q=>af q) λ_ _ e=>e
end
section
variable {X:Cx}
def EqT(H:Hp)(x y:V):Prop:=∃(a b:Addr)(kvs kws:List (List Key×V)),x=.ref a/\y=.ref b/\H a=some (.dT kvs)/\H b=some (.dT kws)/\kvs.length=kws.length/\∀k v,valV kvs k=some v->∃n,v=.int n/\valV kws k=some v
theorem G1{pins:List (Addr×Obj)}{σ:St}{H:Hp}{s:ah}{E:Value->ah->Prop}{A:br}{x y:V}{u v:Value}(hu:(bG (Zv X.prog X.w)).room A)(I:Inv X pins σ H s)(h:EqT H x y)(rx:RelV x u)(ry:RelV y v):∃a b,u=.ref a/\v=.ref b/\s.TypeIs (.ref a) "dict"/\s.TypeIs (.ref b) "dict"/\∀(id:String)(Q:Bool->ah->Prop),Q true s->wpAny (model X.prog X.w) A (cQ id a b) Q E s:=by
 obtain⟨a,b,kvs,kws,rfl,rfl,ea,eb,hl,hk⟩:=h;cases rx;cases ry;obtain⟨z1,hd1,xs,rel1,dd1⟩:=Gh I.hok ea;obtain⟨z2,hd2,ys,rel2,dd2⟩:=Gh I.hok eb;have l1:=aR rel1;have l2:=aR rel2;have nd:(xs.map (·.1)).Nodup:=by obtain⟨_,_,_,_,_,_,_,_,n⟩:=dd1;exact n
 have nd2:(ys.map (·.1)).Nodup:=by obtain⟨_,_,_,_,_,_,_,_,n⟩:=dd2;exact n
 have key:∀x∈xs,∃v n t p u,atKey ys x.1=some p/\v=V.int n/\x.2.2=Value.int n t/\p.2=Value.int n u:=λx hx=>by
  have e1:atKey xs x.1=some x.2:=Md nd hx;have r1:=rel1.val x.1;rw[e1]at r1;obtain⟨v,hv,rv⟩:∃v,valV kvs x.1=some v/\RelV v x.2.2:=by
   cases q:valV kvs x.1 with
  |none=>rw[q]at r1;exact absurd r1 (by simp[RelO])
  |some v=>rw[q]at r1;exact⟨v,rfl,r1⟩
  obtain⟨n,rfl,hw⟩:=hk _ _ hv;have r2:=rel2.val x.1;rw[hw]at r2;obtain⟨p,hp,rp⟩:∃p,atKey ys x.1=some p/\RelV (.int n) p.2:=by
   cases q:atKey ys x.1 with
  |none=>rw[q]at r2;exact absurd r2 (by simp[RelO])
  |some p=>rw[q]at r2;exact⟨p,rfl,r2⟩
  obtain⟨t,et⟩:=rv;obtain⟨u,eu⟩:=rp;exact⟨_,n,t,p,u,hp,rfl,et,eu⟩
 refine⟨a,b,rfl,rfl,dd1.typeIs,dd2.typeIs,λid Q q=>Pk hu hd1 hd2 dd1 dd2 (by omega) (λx hx j p hj=>?_) (λx hx=>?_) q⟩
 ·obtain⟨v,n,t,p',u,h1,_,h3,h4⟩:=key x hx;have:atKey ys x.1=some p:=Md nd2 (a_ hj);rw[this]at h1;cases h1;exact⟨n,t,u,h3,h4⟩
 ·obtain⟨v,n,t,p',u,h1,_⟩:=key x hx;obtain⟨j,hj⟩:=aZ.mp (Rt h1);exact⟨j,p',hj⟩
def rEqT:R2:=λx y H Q=>EqT H x y/\Q (.bl true) H
def rNeT:R2:=λx y H Q=>EqT H x y/\Q (.bl false) H
theorem TJ(hu:X.A.units+1<cLine):OpR X (bA .Eq) rEqT:=by
 intro pins s σ H x y v u Q I rx ry h;obtain⟨h,q⟩:=h;obtain⟨a,b,rfl,rfl,ta,tb,go⟩:=G1 (E:=X.xe) (A:=X.A.in1) (cL hu) I h rx ry;show wpAny _ _ (richCompare .Eq (.ref a) (.ref b)) _ _ _;refine wpAny_richCompare_same_room (op:=.Eq) (T:="dict") (id:="dict.__eq__") ta tb F.slot_dict_eq ?_ (Nat.lt_of_succ_lt hu);refine a9 F.slot_dict_eq ta F.entry_dict_eq ?_ (F.args_dict_eq_2 _ _);have hb:(["clear","keys","values","items","popitem","__reversed__","__iter__","__repr__","pop","setdefault","update","__init__","__setitem__","__delitem__","__ior__"].contains "__eq__")=false:=by decide
 refine NQ (n:="__eq__") (wd:=true) hb rfl tb (λid=>?_);exact go id _ ⟨_,rfl,nofun,.bl true,H,I,rfl,q⟩
theorem LI(hu:X.A.units+1<cLine):OpR X (bA .NotEq) rNeT:=by
 intro pins s σ H x y v u Q I rx ry h;obtain⟨h,q⟩:=h;obtain⟨a,b,rfl,rfl,ta,tb,go⟩:=G1 (E:=X.xe) (A:=X.A.in1) (cL hu) I h rx ry;show wpAny _ _ (richCompare .NotEq (.ref a) (.ref b)) _ _ _;refine wpAny_richCompare_same_room (op:=.NotEq) (T:="dict") (id:="dict.__ne__") ta tb F.slot_dict_ne ?_ (Nat.lt_of_succ_lt hu);refine a9 F.slot_dict_ne ta F.entry_dict_ne ?_ (F.args_dict_ne_2 _ _);have hb:(["clear","keys","values","items","popitem","__reversed__","__iter__","__repr__","pop","setdefault","update","__init__","__setitem__","__delitem__","__ior__"].contains "__ne__")=false:=by decide
 refine NQ (n:="__ne__") (wd:=false) hb rfl tb (λid=>?_);exact go id _ ⟨_,rfl,nofun,.bl false,H,I,rfl,q⟩
def EnOk(l:Addr)(xs:List V)(H:Hp)(J:It):Prop:=(∀i H',H l=H' l->i<xs.length->J.go i H')/\(∀H',H l=H' l->J.stop xs.length H')/\∀(i:Nat)H' x H2,H l=H' l->J.yld i H' x H2->∃(t:Addr)(y:V),H' t=none/\xs[i]?=some y/\x=.ref t/\H2=upd H' t (.tup [.int i,y])
theorem DG{l:Addr}{xs:List V}{H:Hp}(hl:H l=some (.lst xs)):EnOk l xs H (N1 l):=by refine⟨λi H' e hi=>⟨xs,e▸hl,hi⟩,λH' e=>⟨xs,e▸hl,rfl⟩,λi H' x H2 e y=>?_⟩;obtain⟨t,ys,y,h1,h2,h3,h4,h5⟩:=y;rw[<-e,hl]at h2;cases h2;exact⟨t,y,h1,h3,h4,h5⟩
theorem DF{l:Addr}{xs:List V}{H:Hp}(hl:H l=some (.tup xs)):EnOk l xs H (Iten l):=by refine⟨λi H' e hi=>⟨xs,e▸hl,hi⟩,λH' e=>⟨xs,e▸hl,rfl⟩,λi H' x H2 e y=>?_⟩;obtain⟨t,ys,y,h1,h2,h3,h4,h5⟩:=y;rw[<-e,hl]at h2;cases h2;exact⟨t,y,h1,h3,h4,h5⟩
noncomputable def iEnB(ta:TA):TI:=λσ H R=>ta σ H λvs H1=>∃(l:Addr)(xs:List V),vs=[.ref l]/\(H1 l=some (.lst xs)\/H1 l=some (.tup xs))/\∀J,EnOk l xs H1 J->R J H1
theorem Tu{a:Expr}{ta:TA}{p pos pt:Pos}{es:List Expr}{k:Nat}(hg:Gl X "enumerate")(hm:X.mg "enumerate"=none)(ha:PA X [a] ta)(hb:bt "enumerate"=some (.type "enumerate"))(hs:az [a] X.env=[(false,eval a X.env)]:=by rfl):PI X (.Tuple es k pt) (.Call (.Name "enumerate" p) [a] [] pos) (iEnB ta):=by
 intro pins s σ H R I h;refine Call_ (Xp I hg hm hb (bc (thn (ha pos pins s σ H _ I h) λus s1 hZ=>?_) hs rfl));obtain⟨vs,H1,I1,r1,q1⟩:=hZ;obtain⟨l,xs,e,hq,qq⟩:=q1;subst e;cases r1 with
|cons r rr=>
  cases rr;cases r;rcases hq with hx|hx
  ·have q:=qq _ (DG hx);obtain⟨its,rv,pl,_⟩:=I1.list (SqL.of hx);refine call_enumerate_list pl.isList λh' he hst _ kk=>?_;have I2:Inv X pins σ H1 {s1 with heap:=h'}:=I1.kept (t':=s1.toks) kk;refine dM he ?_;have lt:l<s1.heap.objs.size:=I1.hok.lt hx;refine⟨s1.heap.objs.size+1,[s1.heap.objs.size+1,s1.heap.objs.size],_,_,H1,rfl,I2,UH l (s1.heap.objs.size+1) s1.heap.objs.size (Nat.succ_ne_self _) (Nat.ne_of_lt (Nat.lt_succ_of_lt lt)) (Nat.ne_of_lt lt),⟨⟨_,he⟩,hst⟩,λb hb=>?_,q⟩;have e:b=s1.heap.objs.size+1\/b=s1.heap.objs.size:=by simpa using hb
   rcases e with e|e<;>subst e
   ·exact I1.fpOk (Nat.le_succ _) (I1.hok.fresh (Nat.le_succ _))
   ·exact I1.fpOk (Nat.le_refl _) (I1.hok.fresh (Nat.le_refl _))
  ·have q:=qq _ (DF hx);obtain⟨its,rv,pl,_⟩:=I1.tuple (SqT.of hx);refine Gw pl λh' he hst kk=>?_;have I2:Inv X pins σ H1 {s1 with heap:=h'}:=I1.kept (t':=s1.toks) kk;refine dM he ?_;have lt:l<s1.heap.objs.size:=I1.hok.lt hx;refine⟨s1.heap.objs.size+1,[s1.heap.objs.size+1,s1.heap.objs.size],_,_,H1,rfl,I2,UG l (s1.heap.objs.size+1) s1.heap.objs.size (Nat.succ_ne_self _) (Nat.ne_of_lt (Nat.lt_succ_of_lt lt)) (Nat.ne_of_lt lt),⟨⟨_,he⟩,hst⟩,λb hb=>?_,q⟩;have e:b=s1.heap.objs.size+1\/b=s1.heap.objs.size:=by simpa using hb
   rcases e with e|e<;>subst e
   ·exact I1.fpOk (Nat.le_succ _) (I1.hok.fresh (Nat.le_succ _))
   ·exact I1.fpOk (Nat.le_refl _) (I1.hok.fresh (Nat.le_refl _))
end
end L2
namespace SX
open PySem L2 PySem.Spec PyProof.Rows TB WD
noncomputable abbrev KK:=List Key
noncomputable def cnt(k:KK)(Ks:List KK):Nat:=(Ks.filter λx=>decide (x=k)).length
theorem UB(k:KK)(A B:List KK):cnt k (A++B)=cnt k A+cnt k B:=by unfold cnt;rw[gT,av]
theorem KC(k x:KK):cnt k [x]=if k=x then 1 else 0:=by
 unfold cnt;by_cases e:k=x
 ·subst e;simp
 ·rw[if_neg e,List.filter_cons_of_neg (by simpa using λz:x=k=>e z.symm)];rfl
structure Cnt(kvs:List (KK×V))(Ks:List KK):Prop where
 nd:(kvs.map (·.1)).Nodup
 val:∀k,valV kvs k=if cnt k Ks=0 then none else some (.int (cnt k Ks))
 len:kvs.length<=Ks.length
theorem Cnt.nil:Cnt [] []:=⟨cW,λk=>rfl,Nat.le_refl _⟩
theorem Cnt.get{kvs:List (KK×V)}{Ks:List KK}(h:Cnt kvs Ks)(k:KK):(valV kvs k).getD (.int 0)=.int (cnt k Ks):=by
 rw[h.val k];by_cases e:cnt k Ks=0
 ·rw[if_pos e,e];rfl
 ·rw[if_neg e];rfl
theorem TU{kvs:List (KK×V)}{k:KK}{v:V}(h:(kvs.map (·.1)).Nodup):((putK kvs k v).map (·.1)).Nodup:=by
 cases e:valV kvs k with
|none=>exact Kk v h e
|some u=>
  unfold putK;rw[YC,e];have:(kvs.map λkv=>if kv.1=k then(kv.1,v)else kv).map (·.1)=kvs.map (·.1):=by rw[dI];congr 1;funext kv;show(if kv.1=k then(kv.1,v)else kv).1=kv.1;split<;>rfl
  rw[if_pos (show(some u).isSome=true from rfl),this];exact h
theorem UY{kvs:List (KK×V)}{k:KK}{v:V}:(putK kvs k v).length<=kvs.length+1:=by
 unfold putK;split
 ·rw[lm];omega
 ·simp
theorem Cnt.put{kvs:List (KK×V)}{Ks:List KK}(h:Cnt kvs Ks)(k:KK)(Bs:List KK){m:Int}(hm:m=(cnt k Ks:Int)+cnt k Bs)(hB:∀x∈Bs,x=k)(hne:Bs≠[]):Cnt (putK kvs k (.int m)) (Ks++Bs):=by
 have hc:∀j,cnt j Bs=if j=k then Bs.length else 0:=λj=>by
  unfold cnt;by_cases e:j=k
  ·rw[if_pos e,List.filter_eq_self.mpr λx hx=>decide_eq_true ((hB x hx).trans e.symm)]
  ·rw[if_neg e,fU.mpr λx hx=>by rw[hB x hx];simpa using λz:k=j=>e z.symm];rfl
 have hp:0<Bs.length:=List.length_pos_iff.mpr hne;refine⟨TU h.nd,λj=>?_,?_⟩
 ·rw[Yu,UB,hc j];by_cases e:j=k
  ·subst e;rw[if_pos rfl,if_pos rfl,if_neg (by omega),hm,hc j,if_pos rfl];push_cast;rfl
  ·rw[if_neg e,if_neg e,Nat.add_zero];exact h.val j
 ·rw[av];exact Nat.le_trans UY (by have:=h.len;omega)
theorem Cnt.add{kvs:List (KK×V)}{Ks:List KK}(h:Cnt kvs Ks)(k:KK):Cnt (putK kvs k (.int ((cnt k Ks:Int)+1))) (Ks++[k]):=h.put k [k] (by rw[KC,if_pos rfl];rfl) (by simp) (by simp)
theorem Cnt.mem{kvs:List (KK×V)}{Ks:List KK}(h:Cnt kvs Ks)(k:KK):k∈kvs.map (·.1)↔cnt k Ks≠0:=by
 constructor
 ·intro hk e;exact M4 (by rw[h.val k,if_pos e]) hk
 ·intro e;exact WN (v:=.int (cnt k Ks)) (by rw[h.val k,if_neg e])
theorem PX{H:Hp}{a b:Addr}{kvs kws:List (KK×V)}{Ks Js:List KK}(ha:H a=some (.dT kvs))(hb:H b=some (.dT kws))(h:Cnt kvs Ks)(h':Cnt kws Js)(e:∀k,cnt k Ks=cnt k Js):EqT H (.ref a) (.ref b):=by
 refine⟨a,b,kvs,kws,rfl,rfl,ha,hb,?_,λk v hv=>?_⟩
 ·have p:(kvs.map (·.1)).Perm (kws.map (·.1)):=(List.perm_ext_iff_of_nodup h.nd h'.nd).mpr λk=>by rw[h.mem,h'.mem,e k]
  have:=p.length_eq;rwa [bQ,bQ]at this
 ·rw[h.val k]at hv;by_cases z:cnt k Ks=0
  ·rw[if_pos z]at hv;cases hv
  ·rw[if_neg z]at hv;cases hv;exact⟨_,rfl,by rw[h'.val k,<-e k,if_neg z]⟩
def JA(H:Hp)(v:V)(j:JT):Prop:=∃t lk ks,v=.ref t/\H t=some (.tup [.str j.1,.int j.2.1,.ref lk])/\H lk=some (.lst ks)/\KeyL H ks j.2.2
theorem JA.same{H H':Hp}{v:V}{j:JT}(s:Same H H')(h:JA H v j):JA H' v j:=by obtain⟨t,lk,ks,e,ht,hl,kl⟩:=h;exact⟨t,lk,ks,e,s _ _ ht,s _ _ hl,kl.tup λc xs e=>s _ _ e⟩
noncomputable def Xr(J:List Sx):List KK:=J.map (·.key)
noncomputable def keysOf(JL:List JT):List KK:=JL.flatMap λj=>Xr j.2.2
theorem MJ{T:Tb}(o:OkTb T){j:JT}(h:JOk T j):j.2.2.length<=52:=by have:=h.jr.p.len o;have:=o.n1;omega
theorem Xq{T:Tb}(o:OkTb T):∀{JL:List JT},(∀j∈JL,JOk T j)->(keysOf JL).length<=52*JL.length
|[],_=>Nat.le_refl _
|j::JL,h=>by have h1:=Xq o (JL:=JL) λx hx=>h x (aq _ hx);have h2:=MJ o (h j aA);show(Xr j.2.2++keysOf JL).length<=_;rw[av];unfold Xr;rw[lm,aU];omega
def SG(C:Addr):Sp:=λvs H Q _=>∃(t l:Addr)(T:Tb)(xs:List V)(JL:List JT),vs=[.ref t,.ref l]/\Tel H C t T/\OkTb T/\(H l=some (.lst xs)\/H l=some (.tup xs))/\bS (JA H) xs JL/\JL.length<=40/\(JL.map prs_).Nodup/\(∀j∈JL,JOk T j) /\∀H' p kvs,Same H H'->H p=none->H' p=some (.dT kvs)->Cnt kvs (keysOf JL)->Q (.ref p) H'
section
variable {P:Program}{w:World}{K:ae}{mg:Str->Option Value}{base:Heap}{C:Addr}{Cs:Nat->Addr}
theorem Xl:FnScope ["table","journeys","persons","plan","at","journey","key"] ["table","journeys"] (Zf T.f_joined):=scO
theorem Wx(B:∀x∈Blts,mg x=none)(CJ:Can P w K mg base 7 "is_journey" ["table","thing"] (KY C))(D:Df K mg "joined" T.f_joined ["table","journeys"]):Can P w K mg base 8 "joined" ["table","journeys"] (SG C):=by
 refine D.cn Xl λf cdv A outer s H vs Q E hr h=>?_;obtain⟨t,l,T,xs,JL,rfl,tel,ok,hl,pj,hJ,ndJ,okJ,k⟩:=h;refine' ⟨_,(@Za _ _ _ _ _ ?h15 (@Za _ _ _ _ _ ?h16 (@Za _ _ _ _ _ ?h17 (@Za _ _ _ _ _ ?h18 (@Ze _ _ _ ?h19))))),?rd⟩;case' h19=>refine' (Zk (pv 3))
 case' h18=>refine' (ZW aD rfl (Tu rfl (bm B) (@pa1 _ _ _ (pv 1) (by rfl)) (by decide +kernel)) (YB rfl (Zn (nmT 4 Xl.nd) (Zn (nmT 5 Xl.nd) Yc))) (@Za _ _ _ _ _ ?h12 (@Za _ _ _ _ _ ?h13 (@Ze _ _ _ ?h14))))
 case' h17=>refine' (@st _ _ _ _ 3 _ _ Xl.nd Y9 (by rfl) (by exact aN rfl) (by rfl) (by exact .inl rfl))
 case' h16=>refine' (@st _ _ _ _ 2 _ _ Xl.nd Y9 (by rfl) (by exact aN rfl) (by rfl) (by exact .inl rfl))
 case' h15=>refine' (@ZD _ _ _ _ _ _ _ _ (ZH (ZA (Zy G8 rfl (bm B) d8 (@pa2 _ _ _ _ _ (pv 1) ?h1 (by rfl))))) (@Ze _ _ _ ?h2) Zo)
 case' h14=>refine' (ZW aD rfl (Z6 ?h10) (nmT 6 Xl.nd) (@Ze _ _ _ ?h11))
 case' h13=>refine' (Yx (ZT hr) (pv 2) ?h9 XB rfl)
 case' h12=>refine' (@ZD _ _ _ _ _ _ _ _ (PW.pt (Y8 (ZH (ZA (cn CJ hr (@pa2 _ _ _ _ _ (pv 0) (pv 5) (by rfl))))) (Yz (Zr (LJ (ZT hr)) ?h5 (pv 2) (by with_unfolding_all rfl))))) (@Ze _ _ _ ?h6) Zo)
 case' h11=>refine' (Yx (ZT hr) (pv 3) (pv 6) (Zt ZQ (Vk (ZT hr) (pv 3) (pv 6) Zb ⟨rfl,rfl,rfl,rfl⟩) Zb) rfl)
 case' h10=>refine' (@it _ _ _ _ _ _ K (pv 5) Zb (by rfl) (by exact λ_ _=>rfl))
 case' h9=>refine' (@ZE _ _ _ _ _ (@pa2 _ _ _ _ _ ?h8 ?h7 (by rfl)))
 case' h8=>refine' (@it _ _ _ _ _ _ K (pv 5) Zb (by rfl) (by exact λ_ _=>rfl))
 case' h7=>refine' (@it _ _ _ _ _ _ K (pv 5) Zb (by rfl) (by exact λ_ _=>rfl))
 case' h6=>refine' YF
 case' h5=>refine' (@ZE _ _ _ _ _ (@pa2 _ _ _ _ _ ?h4 ?h3 (by rfl)))
 case' h4=>refine' (@it _ _ _ _ _ _ K (pv 5) Zb (by rfl) (by exact λ_ _=>rfl))
 case' h3=>refine' (@it _ _ _ _ _ _ K (pv 5) Zb (by rfl) (by exact λ_ _=>rfl))
 case' h2=>refine' YF
 case' h1=>refine' (@ZE _ _ _ _ _ (@pa2 _ _ _ _ _ (Vm (v:=V.ty "list") rfl (bm B) UC rfl) (Vm (v:=V.ty "tuple") rfl (bm B) YR rfl) (by rfl)))
 case' rd=>
 refine⟨_,rfl,zl,λlt hlt=>?_⟩;have S1:Same H (upd H lt (.tup [V.ty "list",V.ty "tuple"])):=sameNew (Same.refl H) hlt;have e1:upd H lt (.tup [V.ty "list",V.ty "tuple"]) lt=some (.tup [V.ty "list",V.ty "tuple"]):=Zd;generalize upd H lt (.tup [V.ty "list",V.ty "tuple"])=H1 at S1 e1 ⊢;obtain⟨T',th,hT⟩:∃T',Th H1 (.ref l) T'/\(T'="list"\/T'="tuple"):=by
  rcases hl with hl|hl
  ·exact⟨_,.lst (S1 _ _ hl),.inl rfl⟩
  ·exact⟨_,.tup (S1 _ _ hl),.inr rfl⟩
 refine⟨.ref l,lt,["list","tuple"],T',_,rfl,th,e1,th.kitLT,_,rfl,?_⟩;rw[decide_eq_true hT];refine iteF ?_;refine λpd hpd=>?_;dsimp only[Zq,au];refine λpl hpl=>?_;dsimp only[Zq,au];have ndp:pd≠pl:=λz=>by rw[z,Zd]at hpl;cases hpl
 have hpl1:H1 pl=none:=by rw[Zc ndp.symm]at hpl;exact hpl
 have S3:Same H1 (upd (upd H1 pd (.dT [])) pl (.dT [])):=λc o e=>by rw[Zc (ne_of_none e hpl1),Zc (ne_of_none e hpd)];exact e
 have ed:upd (upd H1 pd (.dT [])) pl (.dT []) pd=some (.dT []):=by rw[Zc ndp];exact Zd
 have ep:upd (upd H1 pd (.dT [])) pl (.dT []) pl=some (.dT []):=Zd;generalize upd (upd H1 pd (.dT [])) pl (.dT [])=H3 at S3 ed ep ⊢;have hplH:H pl=none:=by
  cases e:H pl with
 |none=>rfl
 |some o=>rw[S1 _ _ e]at hpl1;cases hpl1
 clear hpl th;have xl:=aR pj;have hl3:H3 l=some (.lst xs)\/H3 l=some (.tup xs):=hl.imp (λe=>S3 _ _ (S1 _ _ e)) λe=>S3 _ _ (S1 _ _ e);have keepl:∀{H':Hp},Same H1 H'->H3 l=H' l:=λ{H'}s=>by
  rcases hl with e|e
  ·rw[S3 _ _ (S1 _ _ e),s _ _ (S1 _ _ e)]
  ·rw[S3 _ _ (S1 _ _ e),s _ _ (S1 _ _ e)]
 refine⟨_,rfl,l,xs,rfl,hl3,λJt hen=>?_⟩;obtain⟨hgo,hst,hyl⟩:=hen;refine Z8 (J:=Jt) xs.length (λi σ H'=>Same H1 H'/\(∃kd kp,H' pd=some (.dT kd)/\H' pl=some (.dT kp)/\Cnt kp (keysOf (JL.take i))/\kd.length<=i/\∀g n,(valV kd [.inr g,.inl n]).isSome=true↔(g,n)∈(JL.take i).map prs_)/\∃o:Nat->Option V,σ=[some (.ref t),some (.ref l),some (.ref pd),some (.ref pl),o 4,o 5,o 6]) ?_ (λi σ H' hi q=>hgo i H' (keepl q.1) hi) (λσ H' q=>hst H' (keepl q.1)) (λi σ H' v H4 hi q yl=>?_) (λσ H' q=>?_)
 ·exact⟨S3,⟨[],[],ed,ep,Cnt.nil,Nat.zero_le _,λg n=>by simp[valV]⟩,shp rfl⟩
 ·obtain⟨s1,⟨kd,kp,ed,ep,cn,hkl,kn⟩,o,rfl⟩:=q;obtain⟨t3,y,ht3,hy,rfl,rfl⟩:=hyl i H' _ _ (keepl s1) yl;have hi2:i<JL.length:=by omega
  have eJ:=gE hi2;have jok:=okJ _ (aL hi2);have hnot:prs_ JL[i]∉(JL.take i).map prs_:=λz=>by
   obtain⟨x,hx,e⟩:=ai.mp z;obtain⟨m,hm,em⟩:=List.mem_iff_getElem.mp hx;rw[aF]at hm;have e2:(JL.map prs_)[m]'(by rw[lm];omega)=(JL.map prs_)[i]'(by rw[lm];omega):=by rw[List.getElem_map,List.getElem_map,<-e,<-em,List.getElem_take]
   have:=(fL ndJ).mp e2;omega
  obtain⟨q,lk,ks,rfl,hq,elk,kl⟩:=ZK pj hy eJ;have htk:keysOf (JL.take (i+1))=keysOf (JL.take i)++Xr JL[i].2.2:=by unfold keysOf;rw[aV,eJ,dQ];congr 1;simp
  have hpt:(JL.take (i+1)).map prs_=(JL.take i).map prs_++[prs_ JL[i]]:=by rw[aV,eJ,aE];rfl
  generalize JL[i]=j at jok hnot hq kl htk hpt;have et:upd H' t3 (.tup [.int i,.ref q]) t3=some (.tup [.int i,.ref q]):=Zd;have S4:Same H' (upd H' t3 (.tup [.int i,.ref q])):=sameNew (Same.refl H') ht3;generalize upd H' t3 (.tup [.int i,.ref q])=H4 at et S4 ⊢;refine⟨t3,_,rfl,SqT.of et,rfl,?_⟩;dsimp only[Zq,au];refine⟨_,_,rfl,_,_,rfl,rfl,?_⟩;dsimp only[Zq,au];refine td λD' hdd=>?_;have s14:=s1.trans S4;have SH4:=S1.trans s14;refine tq λD1 hk1=>?_;refine⟨_,rfl,_,rfl,t,q,lk,T,j,ks,rfl,tel.same SH4,ok,SH4 _ _ hq,SH4 _ _ elk,kl.tup (λc xs e=>SH4 _ _ e),jok,λH5 S5=>?_⟩;refine⟨_,rfl,?_⟩;refine iteF ?_;have S15:=s14.trans S5;have SH5:=S1.trans S15;have hq5:=SH5 _ _ hq;refine⟨_,rfl,q,_,_,_,rfl,rfl,SqT.of hq5,Zl (j:=0) rfl,_,rfl,q,_,_,_,rfl,rfl,SqT.of hq5,Zl (j:=1) rfl,Nat.le_trans (by decide:2<=1000) (by decide),λq2 hq2=>?_⟩;have S6:Same H5 (upd H5 q2 (.tup [.str j.1,.int j.2.1])):=sameNew (Same.refl H5) hq2;have e6:upd H5 q2 (.tup [.str j.1,.int j.2.1]) q2=some (.tup [.str j.1,.int j.2.1]):=Zd;generalize upd H5 q2 (.tup [.str j.1,.int j.2.1])=H6 at S6 e6 ⊢;have S16:=S15.trans S6;have ed6:=S6 _ _ (S5 _ _ (S4 _ _ ed));have ep6:=S6 _ _ (S5 _ _ (S4 _ _ ep));have hno:valV kd [.inr j.1,.inl j.2.1]=none:=by
   cases e:valV kd [.inr j.1,.inl j.2.1]with
  |none=>rfl
  |some u=>exact absurd ((kn j.1 j.2.1).mp (by rw[e];rfl)) hnot
  refine⟨_,rfl,pd,none,rfl,(by rw[<-hno];exact DGet.t (k:=[.inr j.1,.inl j.2.1]) ed6 e6),_,rfl,?_⟩;refine iteF ?_;refine hk1 _ _ (tq λD2 hk2=>?_);have hq6:=(S1.trans S16) _ _ hq;refine⟨_,rfl,_,rfl,q,_,_,_,rfl,rfl,SqT.of hq6,Zl (j:=0) rfl,_,rfl,q,_,_,_,rfl,rfl,SqT.of hq6,Zl (j:=1) rfl,Nat.le_trans (by decide:2<=1000) (by decide),λq3 hq3=>?_⟩;have S7:Same H6 (upd H6 q3 (.tup [.str j.1,.int j.2.1])):=sameNew (Same.refl H6) hq3;have e7:upd H6 q3 (.tup [.str j.1,.int j.2.1]) q3=some (.tup [.str j.1,.int j.2.1]):=Zd;generalize upd H6 q3 (.tup [.str j.1,.int j.2.1])=H7 at S7 e7 ⊢;have ed7:=S7 _ _ ed6;have ep7:=S7 _ _ ep6;have S17:=S16.trans S7;refine⟨pd,_,rfl,DPut.t (k:=[.inr j.1,.inl j.2.1]) ed7 e7 (Nat.lt_of_le_of_lt (by omega:kd.length<=1000) (by decide)),?_⟩;have ed8:upd H7 pd (.dT (putK kd [.inr j.1,.inl j.2.1] (.bl true))) pd=some (.dT (putK kd [.inr j.1,.inl j.2.1] (.bl true))):=Zd;have ep8:upd H7 pd (.dT (putK kd [.inr j.1,.inl j.2.1] (.bl true))) pl=some (.dT kp):=by rw[Zc ndp.symm];exact ep7
  have S18:Same H1 (upd H7 pd (.dT (putK kd [.inr j.1,.inl j.2.1] (.bl true)))):=λc o e=>by rw[Zc (ne_of_none e hpd)];exact S17 _ _ e
  generalize upd H7 pd (.dT (putK kd [.inr j.1,.inl j.2.1] (.bl true)))=H8 at ed8 ep8 S18 ⊢;refine hk2 _ _ ?_;have hq8:=S18 _ _ (S1 _ _ hq);have elk8:=S18 _ _ (S1 _ _ elk);have ksl:=kl.len;refine⟨_,rfl,q,_,_,_,rfl,rfl,SqT.of hq8,Zl (j:=2) rfl,lk,rfl,⟨_,SqL.of elk8⟩,?_⟩;refine Z8 (J:=Itl K lk) ks.length (λm σ H'=>Same H1 H'/\H' pd=some (.dT (putK kd [.inr j.1,.inl j.2.1] (.bl true)))/\(∃kp,H' pl=some (.dT kp)/\Cnt kp (keysOf (JL.take i)++Xr (j.2.2.take m)))/\∃o:Nat->Option V,σ=[some (.ref t),some (.ref l),some (.ref pd),some (.ref pl),o 4,o 5,o 6]) ?_ (λm σ H' hm q=>⟨_,ks[m],SqL.of (q.1 _ _ (S1 _ _ elk)),gE hm⟩) (λσ H' q=>⟨_,SqL.of (q.1 _ _ (S1 _ _ elk)),Nat.le_refl _⟩) (λm σ H' v H9 hm q yl=>?_) (λσ H' q=>?_)
  ·exact⟨S18,ed8,⟨kp,ep8,by rw[List.take_zero];show Cnt kp (keysOf (JL.take i)++[]);rw[bp];exact cn⟩,shp rfl⟩
  ·obtain⟨s9,ed9,⟨kp9,ep9,cn9⟩,o9,rfl⟩:=q;obtain⟨rfl,hy9⟩:=yl;have hx9:=hy9 _ (SqL.of (s9 _ _ (S1 _ _ elk)));have hm2:m<j.2.2.length:=by omega
   have eS:=gE hm2;obtain⟨kb,rfl,hkb⟩:=ZK kl hx9 eS;have hkb9:=s9 _ _ (S1 _ _ hkb);have htk9:Xr (j.2.2.take (m+1))=Xr (j.2.2.take m)++[j.2.2[m].key]:=by unfold Xr;rw[aV,eS,aE];rfl
   generalize j.2.2[m]=S at hkb hkb9 htk9;dsimp only[Zq,au];refine td λD9 hd9=>?_;have dg9:=DGet.t (k:=S.key) ep9 hkb9;have hlen9:kp9.length<=100000:=by have h1:=cn9.len;have h2:=Xq ok (JL:=JL.take i) λx hx=>okJ x (cO hx);have h3:=MJ ok jok;unfold Xr at h1;rw[av,lm,aF]at h1;rw[aF]at h2;omega
   refine⟨_,rfl,pl,rfl,.inr ⟨_,.inl ep9⟩,_,rfl,_,dg9,_,_,cn9.get S.key,rfl,_,rfl,_,rfl,pl,_,rfl,DPut.t (k:=S.key) ep9 hkb9 (Nat.lt_of_le_of_lt hlen9 (by rw[dq];decide)),?_⟩;refine hd9 _ _ ⟨λc o e=>?_,?_,⟨_,Zd,?_⟩,shp rfl⟩
   ·rw[Zc (ne_of_none e hpl1)];exact s9 _ _ e
   ·rw[Zc ndp];exact ed9
   ·rw[htk9,<-bW];exact cn9.add S.key
  ·obtain⟨s9,ed9,⟨kp9,ep9,cn9⟩,o9,rfl⟩:=q;rw[ksl,aH]at cn9;refine hdd _ _ ⟨s9,⟨_,kp9,ed9,ep9,by rw[htk];exact cn9,Nat.le_trans UY (by omega),λg n=>?_⟩,shp rfl⟩;rw[Yu,hpt];by_cases e:([.inr g,.inl n]:List Key)=[.inr j.1,.inl j.2.1]
   ·rw[if_pos e];injection e with e1 e2;injection e1 with e1;injection e2 with e2 _;injection e2 with e2;subst e1 e2;simp[prs_]
   ·rw[if_neg e,kn g n];constructor
    ·exact λh=>bI _ h
    ·intro h;rcases aK.mp h with h|h
     ·exact h
     ·simp[prs_]at h;exact absurd (by rw[h.1,h.2]) e
 ·obtain⟨s1,⟨kd,kp,ed,ep,cn,hkl,kn⟩,o,rfl⟩:=q;rw[xl,aH]at cn;exact⟨_,rfl,k _ pl kp (S1.trans s1) hplH ep cn⟩
end
end SX
namespace L2
open PySem PySem.Spec PyProof.Rows
section
variable {prog:Program}{w:World}{A:br}{E:Value->ah->Prop}{s:ah}
theorem N3{it d:Addr}{o:Obj}{es:Array DictEntry}{i ep:Nat}{e:DictEntry}{Q:Fin->ah->Prop}(st:s.heap.IsValIter it d i es.size ep)(hd:s.heap.get? d=some o)(hdd:o.data=.dict es ep)(he:es[i]?=some e)(hQ:∀h',h'.IsValIter it d (i+1) es.size ep->Heap.SameBut it s.heap h'->Q (.done (.ret e.val)) {s with heap:=h'}):wpAny (model prog w) A (bL.«dict_valueiterator.__next__» ⟨[.ref it],[]⟩) Q E s:=by
 obtain⟨ob,h1,h2,h3⟩:=st;have hT:s.TypeIs (.ref it) "dict_valueiterator":=⟨ob,h1,h2⟩;unfold bL.«dict_valueiterator.__next__»;refine aa ?_;refine af ?_;refine aa ?_;refine aa ?_;refine aa (du hT ?_);refine af ?_;refine aa (eQ h1 h3 ?_);show wpAny _ _ (if(Value.ref d==Value.none)=true then _ else _) _ _ _;rw[if_neg (show ¬(Value.ref d==Value.none)=true from λz=>nomatch z)];refine aa ?_;refine af ?_;refine aa (aY hd hdd ?_);rw[if_neg (by simp)];refine aa ?_;refine af ?_;refine aa (bg hd hdd ?_);rw[if_neg (by simp)];refine af ?_;have ei:(if(i:Int)<0 then none else es[((i:Int)).toNat]?)=some e:=by rw[if_neg (by omega),Int.toNat_natCast];exact he
 show wpAny _ _ (match (if(i:Int)<0 then none else es[((i:Int)).toNat]?)with|some e=>_|none=>_) _ _ _
 rw[ei];refine aa ?_;refine aa (du hT ?_);refine af ?_;refine aa (gG hT ?_);refine aa (bT h1 h3 (show 0+1<4 by decide) ?_);have g:=Heap.get?_update_self (Obj.mapFields λx=>x.setIfInBounds 1 (bX ((i:Int)+1))) h1 (Obj.isFreed_of_fields (Obj.data_mapFields h3 _));have sb:Heap.SameBut it s.heap (s.heap.update it (Obj.mapFields λx=>x.setIfInBounds 1 (bX ((i:Int)+1)))):=Heap.SameBut.update ..;have hI:(s.heap.update it (Obj.mapFields λx=>x.setIfInBounds 1 (bX ((i:Int)+1)))).IsValIter it d (i+1) es.size ep:=by exact⟨_,g,(Obj.cls_mapFields ..).trans h2,by rw[Obj.data_mapFields h3];simp[bX]⟩
 have hT':gu {s with heap:=s.heap.update it (Obj.mapFields λx=>x.setIfInBounds 1 (bX ((i:Int)+1)))} (.ref it) "dict_valueiterator":=by obtain⟨ob',q1,q2,_⟩:=hI;exact⟨ob',q1,q2⟩
 refine aa (aX ?_);refine aa (gG hT' ?_);rw[if_neg (by decide)];refine aa (gG hT' ?_);exact af (af (hQ _ hI sb))
theorem Q7{it d:Addr}{o:Obj}{es:Array DictEntry}{i ep:Nat}{Q:Fin->ah->Prop}(hh:A.handled=none)(st:s.heap.IsValIter it d i es.size ep)(hd:s.heap.get? d=some o)(hdd:o.data=.dict es ep)(he:es[i]?=none)(hE:∀h' e,(∀c q,c≠it->s.heap.get? c=some q->h'.get? c=some q)->(∃o,h'.get? e=some o/\o.cls=.type "StopIteration")->E (.ref e) {s with heap:=h'}):wpAny (model prog w) A (bL.«dict_valueiterator.__next__» ⟨[.ref it],[]⟩) Q E s:=by
 obtain⟨ob,h1,h2,h3⟩:=st;have hT:s.TypeIs (.ref it) "dict_valueiterator":=⟨ob,h1,h2⟩;unfold bL.«dict_valueiterator.__next__»;refine aa ?_;refine af ?_;refine aa ?_;refine aa ?_;refine aa (du hT ?_);refine af ?_;refine aa (eQ h1 h3 ?_);show wpAny _ _ (if(Value.ref d==Value.none)=true then _ else _) _ _ _;rw[if_neg (show ¬(Value.ref d==Value.none)=true from λz=>nomatch z)];refine aa ?_;refine af ?_;refine aa (aY hd hdd ?_);rw[if_neg (by simp)];refine aa ?_;refine af ?_;refine aa (bg hd hdd ?_);rw[if_neg (by simp)];refine af ?_;have ei:(if(i:Int)<0 then none else es[((i:Int)).toNat]?)=none:=by rw[if_neg (by omega),Int.toNat_natCast];exact he
 show wpAny _ _ (match (if(i:Int)<0 then none else es[((i:Int)).toNat]?)with|some e=>_|none=>_) _ _ _
 rw[ei];refine aa ?_;refine aa (du hT ?_);refine af ?_;refine aa (bT h1 h3 (show 0<4 by decide) ?_);show wpAny (model prog w) _ (newExc (.type "StopIteration") [] >>= _) _ _ _;refine aa ?_;simp only[newTuple,newExc];refine aa (aO (aa (m:=di _ _) (wpAny_of_eq (a:=Value.none) (by first|rfl|(simp only[di];rfl)) (aO ?_ (by size_fits)))) (by size_fits))
 simp only[raiseNew];refine aa (ia ?_);rw[hh];refine aa (af (wpAny_throw ?_));exact hE _ _ (((Heap.SameBut.update ..).extBut.push _).push _) ⟨_,Heap.get?_push_size _ rfl,rfl⟩
noncomputable def V9(d:Addr):Obj:={cls:=.type "dict_values",data:=.fields #[.ref d]}
theorem Rq{d:Addr}(hs:(d==bu)=false):MeetsIn prog w (bL.«dict.values» ⟨[.ref d],[]⟩) (λA R s=>(∃es ep,RawD s.heap d es ep)/\R (.ok (.ret (.ref s.heap.objs.size))) {s with heap:=s.heap.push (V9 d)}):=.of_wp λA R s hZ=>by obtain⟨⟨es,ep,o,ho,ex,hd⟩,h⟩:=hZ;have hT:s.TypeIs (.ref d) "dict":=⟨o,ho,ex.1⟩;unfold bL.«dict.values»;refine aa ?_;unfold fN;refine aa (cM hT ?_);refine aa ?_;refine af ?_;refine aa ?_;refine af ?_;refine af ?_;refine aa ?_;unfold dX;rw[if_neg (by rw[hs];exact Bool.false_ne_true)];refine af ?_;unfold newFields;refine aa (aO ?_ (by size_fits));exact af ⟨_,rfl,h⟩
theorem RF{v d:Addr}{es:Array DictEntry}{ep:Nat}{Q:Value->ah->Prop}(hv:s.heap.get? v=some (V9 d))(h:RawD s.heap d es ep)(hQ:Q (.ref s.heap.objs.size) {s with heap:=s.heap.push {cls:=.type "dict_valueiterator",data:=.fields #[.ref d,.int 0 0,.int es.size 0,.int ep 0]}}):wpAny (model prog w) A (pyIter (.ref v)) Q E s:=by obtain⟨o,ho,ex,hd⟩:=h;have hT:s.TypeIs (.ref v) "dict_values":=⟨_,hv,rfl⟩;refine wpAny_pyIter_slot hT F.slot_dict_values_iter (a9 F.slot_dict_values_iter hT F.entry_dict_values_iter ?_ (F.args_dict_values_iter_1 _));unfold bL.«dict_values.__iter__»;refine aa ?_;refine af ?_;refine aa ?_;unfold gh;refine aa (cA hv rfl rfl ?_);refine af ?_;refine aa ?_;unfold fO;refine aa (aY ho hd ?_);refine aa (bg ho hd ?_);unfold newFields;refine aO ?_ (by show 4<=_;decide);refine af ⟨_,rfl,"dict_valueiterator",_,⟨_,Heap.get?_push_size _ rfl,rfl⟩,F.slot_dict_valueiterator_next.lookup,?_⟩;exact hQ
end
noncomputable def Itvl(a:Addr)(o:Obj)(kvs:List (List Key×V)):It:=⟨λi H=>i<kvs.length/\H a=some (.frz o (.dT kvs)),λi H x H'=>H'=H/\∃kv,kvs[i]?=some kv/\x=kv.2,λi H=>i=kvs.length/\H a=some (.frz o (.dT kvs))⟩
theorem N4{P:Program}{w:World}{K:ae}{tg:Expr}{a it:Addr}{o:Obj}{kvs:List (List Key×V)}{es:Array DictEntry}{ep:Nat}(hdd:o.data=.dict es ep)(hsz:es.size=kvs.length):
  Turn P w K tg (Itvl a o kvs) [it] it (λi h=>h.IsValIter it a i es.size ep) where
 mem:=by simp
 obj:=λi h st b hb=>by
  have e:b=it:=by simpa using hb
  subst e
  obtain⟨o,e,c,d⟩:=st
  exact⟨o,e,λv z=>by rw[d]at z;cases z⟩
 keep:=λi h h' st k=>by
  obtain⟨o,e,c,d⟩:=st
  exact⟨o,k it (by simp) o e,c,d⟩
 item:=by
  intro X hP hw hK hc i pins s σ H E I hf st hg
  subst hP hw hK
  obtain⟨hi,hq⟩:=hg
  obtain⟨ho,z,hd,xs,rel,o',es2,ep2,h1,h2,h3,h4,h5⟩:=I.hok a _ hq
  rw[ho]at h1
  cases h1
  rw[hdd]at h3
  cases h3
  have hl:=aR rel
  have hi':i<xs.length:=by omega
  obtain⟨e,he,ek,ev⟩:=PN h4 (gE hi')
  have hkv:=gE hi
  obtain⟨r1,r2,r3⟩:=ZK rel hkv (gE hi')
  obtain⟨f0,f1,f2,f3,f4,f5⟩:=hf it (by simp)
  have hT:s.TypeIs (.ref it) "dict_valueiterator":=by obtain⟨o,e,c,d⟩:=st;exact⟨o,e,c⟩
  unfold gU
  refine aa (fo (bf (name:=Str.ofString "__next__") hT F.slot_dict_valueiterator_next (a9 F.slot_dict_valueiterator_next hT F.entry_dict_valueiterator_next ?_ (F.args_dict_valueiterator_next_1 _))))
  refine N3 st ho hdd he λh' st' sb=>⟨_,rfl,af ?_⟩
  have I1:Inv X pins σ H {s with heap:=h'}:=I.turned (t':=s.toks) (λb o hb e=>(sb.2 b hb).trans e) f0 f1 f3 f4 f5
  obtain⟨o',e',c',d'⟩:=id st'
  exact⟨_,rfl,G0 (s:={s with heap:=h'}) e' c' d' (by decide) ⟨kvs[i].2,H,I1,by rw[ev];exact r3,⟨rfl,kvs[i],hkv,rfl⟩,st',λb hb=>(hf b hb).1⟩⟩
 done:=by
  intro X hP hw hK hc i pins s σ H E I hf st hg
  subst hP hw hK
  obtain⟨hi,hq⟩:=hg
  have ho:=(I.hok a _ hq).1
  obtain⟨f0,f1,f2,f3,f4,f5⟩:=hf it (by simp)
  have hT:s.TypeIs (.ref it) "dict_valueiterator":=by obtain⟨o,e,c,d⟩:=st;exact⟨o,e,c⟩
  unfold gU
  refine aa (fo (bf (name:=Str.ofString "__next__") hT F.slot_dict_valueiterator_next (a9 F.slot_dict_valueiterator_next hT F.entry_dict_valueiterator_next ?_ (F.args_dict_valueiterator_next_1 _))))
  refine Q7 (I.ok.hd hc) st ho hdd (by simp;omega) λh' e hk he=>?_
  obtain⟨o',ho',hc'⟩:=he
  refine aa (fe (T:="StopIteration") (b:=true) ⟨o',ho',hc'⟩ isSubtype_stop ?_)
  exact af ⟨rfl,I.turned (t':=s.toks) (λb o hb e=>hk b o hb e) f0 f1 f3 f4 f5⟩
 self:=λ_ _ _ _ _ st h=>wpAny_pyIter_valiter st h
section
variable {X:Cx}{tg:Expr}
noncomputable def Dx(tl:TE):TI:=λσ H R=>tl σ H λx H1=>∃a kvs,x=.ref a/\H1 a=some (.dT kvs)/\∀o,R (Itvl a o kvs) (upd H1 a (.frz o (.dT kvs)))
theorem Tr{o:Expr}{to:TE}{apos cpos:Pos}(ho:PE X o to)(hbase:c8 o "values" X.env (eval o X.env)=eval o X.env:=by rfl)(hline:(apos.endLine==cpos.line)=true:=by rfl):PI X tg (.Call (.Attribute o "values" apos) [] [] cpos) (Dx to):=by
 intro pins s σ H R I h;refine f_ hbase hline (thn (ho pins s σ H _ I h) λv s1 hZ=>?_);obtain⟨x,H1,I1,r1,a,kvs,ex,hq,q⟩:=hZ;subst ex;cases r1;obtain⟨z,hd,xs,rel,ob,es,ep,h1,h2,h3,h4,h5,h6⟩:=Gh I1.hok hq;have hT:s1.TypeIs (.ref a) "dict":=⟨ob,h1,h2.1⟩;refine⟨"dict",_,cS,PySem.F.slot_dict_values,PySem.F.type_dict_values,hT,λb e=>by cases e;exact⟨ob,h1,h2.2.1⟩,cv rfl (gw ?_)⟩;refine fC PySem.F.slot_dict_values hT PySem.F.entry_dict_values (PySem.F.args_dict_values_1 _) (Rq hd) ⟨⟨es,ep,ob,h1,h2,h3⟩,?_⟩;have hlen:=aR rel;have hsz:es.size=kvs.length:=by rw[<-bz,h4,lm,hlen]
 have I2:Inv X pins σ (upd H1 a (.frz ob (.dT kvs))) s1:=I1.write (x:=a) (e:=a) (h':=s1.heap) (t':=s1.toks) (o:=.frz ob (.dT kvs)) (by rw[hq];exact bB) (.inl rfl) (λb u _ z=>z) ⟨ob,h1⟩ ⟨h1,?_⟩
 ·refine RF (s:={s1 with heap:=s1.heap.push (V9 a)}) (v:=s1.heap.objs.size) (d:=a) (es:=es) (ep:=ep) (Heap.get?_push_size _ rfl) ⟨ob,Heap.get?_push_of_some _ h1,h2,h3⟩ ?_;have n1:(s1.heap.push (V9 a)).objs.size=s1.heap.objs.size+1:=Heap.size_push ..;have hle:s1.heap.objs.size<=(s1.heap.push (V9 a)).objs.size:=by rw[n1];exact Nat.le_succ _
  refine⟨(s1.heap.push (V9 a)).objs.size,[(s1.heap.push (V9 a)).objs.size],_,_,_,rfl,I2.kept (t':=s1.toks) λb o e=>Heap.get?_push_of_some _ (Heap.get?_push_of_some _ e),N4 h3 hsz,⟨_,Heap.get?_push_size _ rfl,rfl,rfl⟩,λb hb=>?_,q ob⟩;have e:b=(s1.heap.push (V9 a)).objs.size:=by simpa using hb
  subst e;exact I2.fpOk hle (I2.hok.fresh hle)
 ·have h0:ZY X.prog X.w H1 s1.heap a (.dT kvs):=I1.hok a _ hq;exact h0.stay (λ_ _ _ z=>z) (λc z=>by rw[Zc (ne_of z hq (λq=>nomatch q))];exact z) λc xs z=>by rw[Zc (ne_of z hq (λq=>nomatch q))];exact z
end
theorem QI{X:Cx}{K:ae}{e:Expr}{te:TE}{c:String}{cx:Str}{p p2 pos:Pos}(he:PE X e te)(hg:Gl X "isinstance")(hm:X.mg "isinstance"=none)(hg2:Gl X cx)(hm2:X.mg cx=none)(hb:bt cx=some (.type c))(hK:X.K=K:=by rfl)(hn:cx≠"__name__":=by decide)(hd:(cx==("__debug__":Str))=false:=by decide)(hs:az [e,.Name cx p2] X.env=(false,eval e X.env)::az [.Name cx p2] X.env:=by rfl):PE X (.Call (.Name "isinstance" p) [e,.Name cx p2] [] pos) (tIsi K c te):=by subst hK;exact YZ he hg hm hg2 hm2 hb hn hd hs
end L2
namespace SX
open PySem L2 PySem.Spec PyProof.Rows TB WD
theorem KL:bt "dict"=some (.type "dict"):=by decide +kernel
theorem Dk{K:ae}:ay K (.type "dict") (.type "dict")=some true:=by kernel_rfl
theorem PH{K:ae}:ay K (.type "int") (.type "int")=some true:=by kernel_rfl
theorem MH{K:ae}:ay K (.type "int") (.type "bool")=some false:=by kernel_rfl
theorem PF{K:ae}:ay K (.type "str") (.type "bool")=some false:=by kernel_rfl
def KU:Sp:=λvs H Q _=>∃(l:Addr)(T:Tb)(xs:List V)(JL:List JT),vs=[.ref l]/\OkTb T/\H l=some (.lst xs)/\bS (JA H) xs JL/\JL.length<=40/\(∀j∈JL,JOk T j) /\∀H' p kvs,Same H H'->H p=none->H' p=some (.dT kvs)->Cnt kvs (keysOf JL)->Q (.ref p) H'
def KZ:Sp:=λvs H Q _=>∃(a b:Addr)(kvs kws:List (KK×V))(Ks Js:List KK),vs=[.ref a,.ref b]/\a≠b/\H a=some (.dT kvs)/\H b=some (.dT kws)/\Cnt kvs Ks/\Cnt kws Js/\(∀k,cnt k Ks=cnt k Js)/\Ks.length<=100000/\(∀k∈Ks,k≠[])/\∀H',Same H H'->Q (.bl true) H'
section
variable {P:Program}{w:World}{K:ae}{mg:Str->Option Value}{base:Heap}{C:Addr}{Cs:Nat->Addr}
theorem Ye:FnScope ["_law_journeys_here","_law_plan","_law_group","_law_number","_law_keys","_law_key"] ["_law_journeys_here"] (Zf T.f__law_together):=scO
theorem KG(D:Df K mg "_law_together" T.f__law_together ["_law_journeys_here"]):Can P w K mg base 1 "_law_together" ["_law_journeys_here"] KU:=by
 refine D.cn Ye λf cdv A outer s H vs Q E hr h=>?_;obtain⟨l,T,xs,JL,rfl,ok,hl,pj,hJ,okJ,k⟩:=h;refine' ⟨_,(@Za _ _ _ _ _ ?h3 (@Za _ _ _ _ _ ?h4 (@Ze _ _ _ ?h5))),?rd⟩;case' h5=>refine' (Zk (pv 1))
 case' h4=>refine' (ZW aD rfl (Z6 (pv 0)) (YB rfl (Zn (nmT 2 Ye.nd) (Zn (nmT 3 Ye.nd) (Zn (nmT 4 Ye.nd) Yc)))) (@Ze _ _ _ ?h2))
 case' h3=>refine' (@st _ _ _ _ 1 _ _ Ye.nd Y9 (by rfl) (by exact aN rfl) (by rfl) (by exact .inl rfl))
 case' h2=>refine' (ZW aD rfl (Z6 (pv 4)) (nmT 5 Ye.nd) (@Ze _ _ _ ?h1))
 case' h1=>refine' (Yx (ZT hr) (pv 1) (pv 5) (Zt ZQ (Vk (ZT hr) (pv 1) (pv 5) Zb ⟨rfl,rfl,rfl,rfl⟩) Zb) rfl)
 case' rd=>
 refine λpl hpl=>?_;dsimp only[Zq,au];have S1:Same H (upd H pl (.dT [])):=sameNew (Same.refl H) hpl;have ep:upd H pl (.dT []) pl=some (.dT []):=Zd;generalize upd H pl (.dT [])=H1 at S1 ep ⊢;have xl:=aR pj;refine⟨_,rfl,l,rfl,⟨_,SqL.of (S1 _ _ hl)⟩,?_⟩;refine Z8 (J:=Itl K l) xs.length (λi σ H'=>Same H H'/\(∃kp,H' pl=some (.dT kp)/\Cnt kp (keysOf (JL.take i)))/\∃o:Nat->Option V,σ=[some (.ref l),some (.ref pl),o 2,o 3,o 4,o 5]) ?_ (λi σ H' hi q=>⟨_,xs[i],SqL.of (q.1 _ _ hl),gE hi⟩) (λσ H' q=>⟨_,SqL.of (q.1 _ _ hl),Nat.le_refl _⟩) (λi σ H' v H4 hi q yl=>?_) (λσ H' q=>?_)
 ·exact⟨S1,⟨[],ep,Cnt.nil⟩,shp rfl⟩
 ·obtain⟨s1,⟨kp,ep,cn⟩,o,rfl⟩:=q;obtain⟨rfl,hy⟩:=yl;have hx:=hy _ (SqL.of (s1 _ _ hl));have hi2:i<JL.length:=by omega
  have eJ:=gE hi2;have jok:=okJ _ (aL hi2);obtain⟨q,lk,ks,rfl,hq,elk,kl⟩:=ZK pj hx eJ;have htk:keysOf (JL.take (i+1))=keysOf (JL.take i)++Xr JL[i].2.2:=by unfold keysOf;rw[aV,eJ,dQ];congr 1;simp
  generalize JL[i]=j at jok hq kl htk;refine⟨q,_,rfl,SqT.of (s1 _ _ hq),rfl,?_⟩;dsimp only[Zq,au];refine⟨_,_,rfl,_,_,rfl,_,_,rfl,rfl,?_⟩;dsimp only[Zq,au];refine td λD' hdd=>?_;have ksl:=kl.len;refine⟨_,rfl,lk,rfl,⟨_,SqL.of (s1 _ _ elk)⟩,?_⟩;refine Z8 (J:=Itl K lk) ks.length (λm σ H'=>Same H H'/\(∃kp,H' pl=some (.dT kp)/\Cnt kp (keysOf (JL.take i)++Xr (j.2.2.take m)))/\∃o:Nat->Option V,σ=[some (.ref l),some (.ref pl),o 2,o 3,o 4,o 5]) ?_ (λm σ H' hm q=>⟨_,ks[m],SqL.of (q.1 _ _ elk),gE hm⟩) (λσ H' q=>⟨_,SqL.of (q.1 _ _ elk),Nat.le_refl _⟩) (λm σ H' v H9 hm q yl=>?_) (λσ H' q=>?_)
  ·exact⟨s1,⟨kp,ep,by rw[List.take_zero];show Cnt kp (keysOf (JL.take i)++[]);rw[bp];exact cn⟩,shp rfl⟩
  ·obtain⟨s9,⟨kp9,ep9,cn9⟩,o9,rfl⟩:=q;obtain⟨rfl,hy9⟩:=yl;have hx9:=hy9 _ (SqL.of (s9 _ _ elk));have hm2:m<j.2.2.length:=by omega
   have eS:=gE hm2;obtain⟨kb,rfl,hkb⟩:=ZK kl hx9 eS;have hkb9:=s9 _ _ hkb;have htk9:Xr (j.2.2.take (m+1))=Xr (j.2.2.take m)++[j.2.2[m].key]:=by unfold Xr;rw[aV,eS,aE];rfl
   generalize j.2.2[m]=S at hkb hkb9 htk9;dsimp only[Zq,au];refine td λD9 hd9=>?_;have dg9:=DGet.t (k:=S.key) ep9 hkb9;have hlen9:kp9.length<=100000:=by have h1:=cn9.len;have h2:=Xq ok (JL:=JL.take i) λx hx=>okJ x (cO hx);have h3:=MJ ok jok;unfold Xr at h1;rw[av,lm,aF]at h1;rw[aF]at h2;omega
   refine⟨_,rfl,pl,rfl,.inr ⟨_,.inl ep9⟩,_,rfl,_,dg9,_,_,cn9.get S.key,rfl,_,rfl,_,rfl,pl,_,rfl,DPut.t (k:=S.key) ep9 hkb9 (Nat.lt_of_le_of_lt hlen9 (by rw[dq];decide)),?_⟩;refine hd9 _ _ ⟨λc o e=>?_,⟨_,Zd,?_⟩,shp rfl⟩
   ·rw[Zc (ne_of_none e hpl)];exact s9 _ _ e
   ·rw[htk9,<-bW];exact cn9.add S.key
  ·obtain⟨s9,⟨kp9,ep9,cn9⟩,o9,rfl⟩:=q;rw[ksl,aH]at cn9;exact hdd _ _ ⟨s9,⟨kp9,ep9,by rw[htk];exact cn9⟩,shp rfl⟩
 ·obtain⟨s1,⟨kp,ep,cn⟩,o,rfl⟩:=q;rw[xl,aH]at cn;exact⟨_,rfl,k _ pl kp s1 hpl ep cn⟩
theorem GU:FnScope ["_law_found","_law_due","_law_many"] ["_law_found","_law_due"] (Zf T.f__law_is):=scO
noncomputable def Ul:Scope:=csx [(".0",.local),("_law_key",.local),("isinstance",.globalImplicit),("tuple",.globalImplicit),("bool",.globalImplicit)]
theorem Gj:CompScope Ul (Zf T.f__law_is):=⟨rfl,by decide +kernel,by decide +kernel,by decide +kernel⟩
theorem Gm:(["_law_key"]:List Str).Nodup:=by decide +kernel
theorem Gk:CompNames ["_law_found","_law_due","_law_many"] Ul ["_law_key"] [none]:=.mk' (by decide +kernel)
theorem KH(B:∀x∈Blts,mg x=none)(hdict:mg "dict"=none)(D:Df K mg "_law_is" T.f__law_is ["_law_found","_law_due"]):Can P w K mg base 1 "_law_is" ["_law_found","_law_due"] KZ:=by
 refine D.cn GU λf cdv A outer s H vs Q E hr h=>?_;obtain⟨a,b,kvs,kws,Ks,Js,rfl,nab,ha,hb,ca,cb,ec,hKl,hK0,k⟩:=h;refine' ⟨_,(@Za _ _ _ _ _ ?h5 (@Za _ _ _ _ _ ?h6 (@Ze _ _ _ ?h7))),?rd⟩;case' h7=>refine' (Zk (W9 (@YG _ _ _ _ _ _ _ _ (Nt hr.units) (JB rfl Gj Gk (U0 (pv 0)) (λC s H ex pn=>(nmT 0 Gm)) (λC s H ex pn=>(X5 (PW.pt (Y8 (ZH (ZA (QI (K:=K) (c:="tuple") (pv 0) (by rfl) (bm B) (by rfl) (bm B) YR))) (Yz (ZA (QI (K:=K) (c:="bool") (it K (pv 0) (QF Me Zb)) (by rfl) (bm B) (by rfl) (bm B) MU))))))) (λC s H ex pn=>(pv 0))) ?h4 (Zw _))))
 case' h6=>refine' (Uw (ZW aD rfl (Tr (pv 0)) (nmT 2 GU.nd) (@Ze _ _ _ ?h3)))
 case' h5=>refine' (@ZD _ _ _ _ _ _ _ _ (PW.pt (Y8 (ZH (ZA (YZ (c:="dict") (pv 0) rfl (bm B) rfl hdict KL))) (Yz (@Zr _ _ _ _ _ _ _ _ (LI (ZT hr)) (pv 0) (pv 1) (Zw _))))) (@Ze _ _ _ ?h1) Zo)
 case' h4=>refine' (@Z0 _ _ _ _ Zj)
 case' h3=>refine' (@ZD _ _ _ _ _ _ _ _ (PW.pt (Y8 (ZH (ZA (YZ (c:="int") (pv 2) rfl (bm B) rfl (bm B) V6))) (Yz (ZA (YZ (c:="bool") (pv 2) rfl (bm B) rfl (bm B) MU))))) (@Ze _ _ _ ?h2) Zo)
 case' h2=>refine' (Zk XB)
 case' h1=>refine' (Zk XB)
 case' rd=>
 have lk:=ca.len;have hno:∀o' u',H a≠some (.frz o' u'):=λo' u' z=>by rw[ha]at z;cases z
 refine⟨_,rfl,_,_,_,_,rfl,.dT ha,Dk,_,rfl,?_⟩;refine iteF ?_;refine⟨_,rfl,_,rfl,PX ha hb ca cb ec,_,rfl,?_⟩;refine iteF ?_;refine⟨_,rfl,a,kvs,rfl,ha,λob=>?_⟩;have ef:upd H a (.frz ob (.dT kvs)) a=some (.frz ob (.dT kvs)):=Zd;have back:Same H (upd (upd H a (.frz ob (.dT kvs))) a (.dT kvs)):=λc u e=>by
  by_cases h:c=a
  ·subst h;rw[ha]at e;cases e;exact Zd
  ·rw[Zc h,Zc h];exact e
 generalize upd H a (.frz ob (.dT kvs))=Hf at ef back ⊢;refine Z8 (J:=Itvl a ob kvs) kvs.length (λi σ H'=>H'=Hf/\∃o,σ=[some (.ref a),some (.ref b),o]) ⟨rfl,_,rfl⟩ (λi σ H' hi q=>⟨hi,q.1▸ef⟩) (λσ H' q=>⟨rfl,q.1▸ef⟩) (λi σ H' v H3 hi q yl=>?_) (λσ H' q=>?_)
 ·obtain⟨rfl,o,rfl⟩:=q;obtain⟨rfl,kv,hkv,rfl⟩:=yl;obtain⟨m,hm⟩:∃m,kv.2=.int m:=by
   have h1:=JS ca.nd hkv;rw[ca.val kv.1]at h1;by_cases z:cnt kv.1 Ks=0
   ·rw[if_pos z]at h1;cases h1
   ·rw[if_neg z]at h1;exact⟨_,(aB h1).symm⟩
  rw[hm];dsimp only[Zq,au];refine⟨_,rfl,_,_,_,_,rfl,.int m,PH,_,rfl,?_⟩;refine iteF ?_;refine⟨_,rfl,_,_,_,_,rfl,.int m,MH,_,rfl,?_⟩;refine iteF ?_;exact⟨rfl,_,rfl⟩
 ·obtain⟨rfl,o,rfl⟩:=q;refine⟨a,ob,.dT kvs,ef,hno,?_⟩;generalize upd H' a (.dT kvs)=H2 at back ⊢;have ha2:=back _ _ ha;refine⟨_,rfl,a,kvs,rfl,ha2,λob2=>?_⟩;have ef2:upd H2 a (.frz ob2 (.dT kvs)) a=some (.frz ob2 (.dT kvs)):=Zd;have kf2:∀c u,H2 c=some u->c≠a->upd H2 a (.frz ob2 (.dT kvs)) c=some u:=λc u e n=>by rw[Zc n];exact e
  generalize upd H2 a (.frz ob2 (.dT kvs))=Hg at ef2 kf2 ⊢;refine XD (J:=Itk a ob2 kvs) kvs.length (Nat.le_trans (by omega:kvs.length<=100000) (by rw[dq];decide)) (λi ys τ H'=>H'=Hg/\ys=[]/\∃v,τ=[v]) ⟨rfl,rfl,none,rfl⟩ (λi ys τ H' q=>by rw[q.2.1];exact Nat.zero_le _) (λi ys τ H' hi q=>⟨hi,q.1▸ef2⟩) (λys τ H' q=>⟨rfl,q.1▸ef2⟩) (λi ys τ H' x H3 hi q yl=>?_) (λys τ H' q lc hlc=>?_)
  ·obtain⟨rfl,rfl,v,rfl⟩:=q;obtain⟨rfl,kb,kv,hkv,hkb,rfl⟩:=yl;have hne:kv.1≠[]:=λz=>by
    have h1:=JS ca.nd hkv;rw[ca.val kv.1,z]at h1;by_cases e:cnt [] Ks=0
    ·rw[if_pos e]at h1;cases h1
    ·have:([]:KK)∈Ks:=by unfold cnt at e;obtain⟨x,hx⟩:=List.exists_mem_of_length_pos (Nat.pos_of_ne_zero e);have:=bP.mp hx;rw[<-of_decide_eq_true this.2];exact this.1
     exact hK0 _ this rfl
   obtain⟨ini,lst,el⟩:∃ini lst,kv.1=ini++[lst]:=⟨kv.1.dropLast,kv.1.getLast hne,(List.dropLast_concat_getLast hne).symm⟩;rw[el,aE]at hkb;dsimp only[Zq,au];refine⟨_,rfl,_,_,_,_,rfl,.tup hkb,MG,_,rfl,?_⟩;refine iteF ?_;have hat:atI (ini.map kV++[lst].map kV) (-1)=some (kV lst):=Q2;refine⟨_,rfl,_,rfl,kb,_,_,_,rfl,rfl,SqT.of hkb,hat,?_⟩;rcases lst with lst|lst
   ·refine⟨_,_,_,_,rfl,.int _,MH,_,rfl,?_⟩;refine iteF ?_;exact⟨rfl,rfl,_,rfl⟩
   ·refine⟨_,_,_,_,rfl,.str _,PF,_,rfl,?_⟩;refine iteF ?_;exact⟨rfl,rfl,_,rfl⟩
  ·obtain⟨rfl,rfl,v,rfl⟩:=q;refine⟨zl,λle he=>?_⟩;have nla:lc≠a:=λz=>by rw[z,ef2]at hlc;cases hlc
   have e1:upd H' lc (.lst []) lc=some (.lst []):=Zd;have nle:lc≠le:=ne_of_none e1 he;have hea:upd H' lc (.lst []) a=some (.frz ob2 (.dT kvs)):=by rw[Zc nla.symm];exact ef2
   have nae:a≠le:=ne_of_none hea he;refine⟨lc,le,[],rfl,rfl,SqL.of (by rw[Zc nle];exact e1),Zd,a,ob2,.dT kvs,by rw[Zc nae];exact hea,hno,?_⟩;refine k _ λc u e=>?_;by_cases h:c=a
   ·subst h;rw[ha]at e;cases e;exact Zd
   ·have e3:=kf2 _ _ (back _ _ e) h;have n1:c≠lc:=ne_of_none e3 hlc;have e4:upd H' lc (.lst []) c=some u:=by rw[Zc n1];exact e3
    rw[Zc h,Zc (ne_of_none e4 he)];exact e4
end
end SX
namespace L2
open PySem PySem.Spec PyProof.Rows
section
variable {prog:Program}{w:World}{A:br}{E:Value->ah->Prop}{s:ah}
theorem Rr{d:Addr}:MeetsIn prog w (bL.«dict.clear» ⟨[.ref d],[]⟩) (λA R s=>∃es ep o,s.heap.get? d=some o/\o.ExactDict/\o.data=.dict es ep/\es.size<=sizeLine/\R (.ok (.ret .none)) {s with heap:=s.heap.update d (Obj.mapDictKeys λ_=>#[])}):=.of_wp λA R s hZ=>by obtain⟨es,ep,o,ho,ex,hd,hz,h⟩:=hZ;have hT:s.TypeIs (.ref d) "dict":=⟨o,ho,ex.1⟩;unfold bL.«dict.clear»;refine aa ?_;unfold fN;refine aa (cM hT ?_);refine aa ?_;refine af ?_;refine aa ?_;refine af ?_;refine af ?_;refine aa (aY ho hd ?_);refine aa ?_;unfold bearsInstanceDictMark;refine aa (wpAny_load ho (af ?_));refine aa (gZ ho hd ?_ hz (Nat.zero_le _));rw[if_pos (by rw[ex.2.2];simp)];refine aa (wpAny_letGo ?_);exact af ⟨_,rfl,h⟩
end
section
variable {X:Cx}
noncomputable def W5:V->List V->Hp->VK->Prop:=λx vs H Q=>∃a kvs,x=.ref a/\vs=[]/\H a=some (.dT kvs)/\Q .non (upd H a (.dT []))
theorem Rp:MtR X "dict.clear" W5:=by
 intro pins s σ H x vs v us Q I rx rv h;obtain⟨a,kvs,rfl,rfl,ha,q⟩:=h;cases rx;have hus:=rv.zero;subst hus;obtain⟨z,hd,xs,rel,ob,es,ep,h1,h2,h3,h4,h5,h6⟩:=Gh I.hok ha;have hlen:=aR rel;have hsz:es.size=kvs.length:=by rw[<-bz,h4,lm,hlen]
 refine fC PySem.F.slot_dict_clear ⟨ob,h1,h2.1⟩ PySem.F.entry_dict_clear (PySem.F.args_dict_clear_1 _) Rr ⟨es,ep,ob,h1,h2,h3,by omega,?_⟩;obtain⟨c,dd,data,sl⟩:=ob;simp only at h3;subst h3;have g:=Heap.get?_update_self (Obj.mapDictKeys λ_=>#[]) h1 (by rfl);have sb:Heap.SameBut a s.heap (s.heap.update a (Obj.mapDictKeys λ_=>#[])):=Heap.SameBut.update ..;refine⟨.non,_,I.write (x:=a) (e:=a) (t':=s.toks) (o:=.dT []) (by rw[ha];exact bB) (.inl rfl) (λb u n e=>(sb.2 b n).trans e) ⟨_,g⟩ ⟨Nat.zero_le _,hd,[],.nil,_,_,_,g,h2,rfl,rfl,cW⟩,rfl,q⟩
end
section
variable {prog:Program}{w:World}{A:br}{E:Value->ah->Prop}{s:ah}
theorem NU{I l:Addr}{items:Array Value}{Q:List Value->ah->Prop}(hh:A.handled=none)(hne:l≠I)(st:s.heap.IsRevIter I l (items.size-1))(hl:s.heap.IsList l items)(hz:items.size<=sizeLine)(hQ:∀(h':Heap)(tk:Nat)(acc:Array Value),(∀b o,b≠I->s.heap.get? b=some o->h'.get? b=some o)->ItemsOf (λi v=>items[items.size-1-i]?=some v) acc items.size->Q acc.toList {s with heap:=h',toks:=tk}):wpAny (model prog w) A (collect (.ref I)) Q E s:=by
 unfold collect;refine aa (wpAny_runValue (codeAny_builtin F.entry_proto_collect ?_));unfold bL.«proto.collect»;show wpAny _ _ (newList [] >>= _) _ _ _;unfold newList;refine aa (aO ?_ (by size_fits));refine af ⟨plainId_quiet F.plain_list_iadd _,codeAny_builtin F.entry_list_iadd ?_⟩;unfold bL.«list.__iadd__»;refine aa (af ?_);have hT:s.TypeIs (.ref I) "list_reverseiterator":=st.typeIs;have hI:I<s.heap.objs.size:=by obtain⟨o,e,_⟩:=st;exact Heap.lt_size e
 generalize hS:s.heap.objs.size=S at *;have nSI:S≠I:=bR (Nat.ne_of_lt hI);show wpAny _ _ (gO (.ref S) (.ref I) (.ref S)) _ _ _;unfold gO;have hT1:gu {s with heap:=s.heap.push {cls:=.type "list",data:=.seq #[]}} (.ref I) "list_reverseiterator":=by obtain⟨o,e,c⟩:=hT;exact⟨o,Heap.get?_push_of_some _ e,c⟩
 refine aa (wpAny_typeOf hT1 ?_);rw[if_neg (by simp[Builtin.List.listSameRef,nSI])];have st1:Heap.IsRevIter (s.heap.push {cls:=.type "list",data:=.seq #[]}) I l (items.size-1):=st.at λo e=>Heap.get?_push_of_some _ e;have hl1:Heap.IsList (s.heap.push {cls:=.type "list",data:=.seq #[]}) l items:=by obtain⟨o,e,r⟩:=hl;exact⟨o,Heap.get?_push_of_some _ e,r⟩
 refine aa ((Walks.listRev (prog:=prog) (w:=w) (A:=A.under (Code.builtin "list.__iadd__" {pos:=[Value.ref S,Value.ref I]})) hh I l hne items).self 0 _ _ _ ⟨Nat.zero_le _,by simpa using st1,hl1⟩ ?_);refine aa (aX ?_);unfold Builtin.List.listLengthHint;refine aa (fw hT1 (r:=none) (by rfl) ?_);show wpAny _ _ (specialOf (.ref I) (Str.ofString "__length_hint__") >>= _) _ _ _;refine aa (fw hT1 (r:=some (.builtin "list_reverseiterator.__length_hint__")) (by rfl) ?_);show wpAny _ _ (isInstance (.ref I) (Value.type "list_reverseiterator") >>= _) _ _ _;refine aa (fe (b:=true) hT1 (by rfl) ?_);show wpAny (model prog w) _ (pure false:Sem Bool) _ _ _;refine af ?_;show wpAny (model prog w) _ (again (Code.builtin "list.extend.loop" {pos:=[Value.ref S,Value.ref I,Value.ref S]})) _ _ _;refine af ⟨plainId_quiet F.plain_extend_loop _,?_⟩;have W:=(Walks.listRev (prog:=prog) (w:=w) (A:=A.in1) hh I l hne items).toS;have hSn:¬S∈[I,l]:=by
  have hlS:l<S:=by obtain⟨o,e,_⟩:=hl;exact hS▸Heap.lt_size e
  simp only[ar,aP,or_false];rintro (z|z)
  ·exact nSI z
  ·exact Nat.lt_irrefl _ (z▸hlS)
 refine codeAny_extend_loopS W hz S hSn (.ref S) (items.size-0) 0 _ #[] 0 rfl (Nat.zero_le _) ⟨Nat.zero_le _,by simpa using st1,hl1⟩ (by rw[<-hS];exact Heap.get?_push_size _ rfl) ?_ λs' acc c' mv hS' it=>?_
 ·exact⟨rfl,λj v h=>by simp at h⟩
 ·show wpAny _ _ (load S >>= _) _ _ _;refine aa (wpAny_load hS' (af ?_));obtain⟨mh,mg,md,mo,_⟩:=mv;obtain⟨h',g',d',t',os'⟩:=s';simp only at mh mg md mo;subst mg md mo;refine hQ h' t' acc (λb o n e=>mh b o ?_ (Heap.get?_push_of_some _ e)) it;have hb:b<S:=hS▸Heap.lt_size e;simp only[ar,aP,or_false];rintro (z|z)
  ·exact Nat.lt_irrefl _ (z▸hb)
  ·exact n z
theorem MA{I l:Addr}{items:Array Value}(hne:l≠I)(hz:items.size<=sizeLine):MeetsIn prog w (bL.«tuple.__new__» ⟨[.type "tuple",.ref I],[]⟩) (λA R s=>A.handled=none/\s.heap.IsRevIter I l (items.size-1)/\s.heap.IsList l items /\∀(h':Heap)(tk:Nat)(acc:Array Value),(∀b o,b≠I->s.heap.get? b=some o->h'.get? b=some o)->ItemsOf (λi v=>items[items.size-1-i]?=some v) acc items.size->R (.ok (.ret (.ref h'.objs.size))) {s with heap:=h'.push {cls:=.type "tuple",data:=.seq acc},toks:=tk}):=.of_wp λA R s hZ=>by obtain⟨hh,st,hl,h⟩:=hZ;have hT:s.TypeIs (.ref I) "list_reverseiterator":=st.typeIs;unfold bL.«tuple.__new__»;refine aa (af ?_);show wpAny _ _ (isSubtype (Value.type "tuple") (Value.type "tuple") >>= _) _ _ _;rw[show isSubtype (Value.type "tuple") (Value.type "tuple")=pure true from by rfl];refine aa (af ?_);show wpAny _ _ (Bind.madeHere "tuple.__new__" (Value.type "tuple") >>= _) _ _ _;rw[show Bind.madeHere "tuple.__new__" (Value.type "tuple")=pure ()from madeHere_tuple];refine aa (af ?_);rw[show typeLookup (Value.type "tuple") (Str.ofString "__init__")=pure (some (Value.builtin "object.__init__"))from by rfl];refine aa (af ?_);show wpAny _ _ (checkCount "tuple" 0 1 [Value.ref I].length >>= _) _ _ _;refine aa (af ?_);show wpAny _ _ (gM (.ref I) >>= _) _ _ _;refine aa ?_;unfold gM;refine aa (wpAny_typeOf hT (af ?_));rw[if_neg (by decide)];refine aa (NU hh hne st hl hz λh' tk acc kp it=>?_);refine aa (af ?_);show wpAny _ _ (bY acc.toList.toArray >>= _) _ _ _;unfold bY;rw[Array.toArray_toList];refine aa (aO ?_ (by show acc.size<=sizeLine;have:=it.1;omega));exact af ⟨_,rfl,h h' tk acc kp it⟩
end
theorem MZ:∀{xs:List V}{us:List Value},Vals xs us->Vals xs.reverse us.reverse
|_,_,.nil=>.nil
|_,_,.cons h t=>by rw[d6,d6];exact(MZ t).append (.cons h .nil)
section
variable {X:Cx}{x y:Str}{p p2 pos pos2:Pos}{e:Expr}{te:TE}
def WQ(K:ae)(te:TE):TE:=λσ H Q=>te σ H λv H1=>∃l xs,v=.ref l/\SqL K H1 l xs/\∀a,H1 a=none->Q (.ref a) (upd H1 a (.tup xs.reverse))
theorem Rl(hc:X.calm=true)(hg:Gl X x)(hm:X.mg x=none)(hv:bt x=some (.type "tuple"))(hg2:Gl X y)(hm2:X.mg y=none)(hv2:bt y=some (.type "reversed"))(ha:PE X e te)(hn:x≠"__name__":=by decide)(hdb:(x==("__debug__":Str))=false:=by decide)(hn2:y≠"__name__":=by decide)(hdb2:(y==("__debug__":Str))=false:=by decide)(he:az [e] X.env=(false,eval e X.env)::az [] X.env:=by rfl):PE X (.Call (.Name x p) [.Call (.Name y p2) [e] [] pos2] [] pos) (WQ X.K te):=by
 intro pins s σ H Q I h;refine dA (Xp I hg hm hv ?_ hn hdb);refine bc ?_ (by rfl) (by rfl);rw[show az [Expr.Call (.Name y p2) [e] [] pos2] X.env=(false,eval (.Call (.Name y p2) [e] [] pos2) X.env)::az [] X.env from rfl];show wpAny _ _ (spliced ((false,eval (.Call (.Name y p2) [e] [] pos2) X.env)::b8 pos (az [] X.env))) _ _ s;refine dW ?_;refine dA (Xp I hg2 hm2 hv2 ?_ hn2 hdb2);refine bc ?_ he (by rfl);rw[he];show wpAny _ _ (spliced ((false,eval e X.env)::b8 pos2 (az [] X.env))) _ _ s;refine dW (thn (ha pins s σ H _ I h) λu s1 hZ=>?_);obtain⟨v,H1,I1,r1,l,xs,ev,hl,q⟩:=hZ;subst ev;cases r1;obtain⟨its,r',pl,hz⟩:=I1.list hl;have hlen:=r'.length;refine fA (call_reversed_list pl.isList ?_);refine fA ?_;have hlS:l<s1.heap.objs.size:=by obtain⟨o,e,_⟩:=pl.isList;exact Heap.lt_size e
 have hl2:Heap.IsList (s1.heap.push (revObj l ((its.toArray.size:Int)-1))) l its.toArray:=by obtain⟨o,e,r⟩:=pl.isList;exact⟨o,Heap.get?_push_of_some _ e,r⟩
 refine callType_newIn F.called_tuple (by decide) (F.typeCall_tuple_1 _) (F.newCall_tuple_1 _) (λobj=>?ok) F.entry_tuple_new (MA (I:=s1.heap.objs.size) (l:=l) (items:=its.toArray) (Nat.ne_of_lt hlS) (by simp only[ao];omega)) ?_;case ok=>exact F.args_object_init_2 obj _
 refine⟨?hh,⟨_,Heap.get?_push_size _ rfl,rfl,rfl⟩,hl2,λh' tk acc kp it=>?_⟩;case hh=>exact I1.ok.hd hc
 have kp':∀b o,s1.heap.get? b=some o->h'.get? b=some o:=λb o e=>kp b o (Nat.ne_of_lt (Heap.lt_size e)) (Heap.get?_push_of_some _ e);have I2:Inv X pins σ H1 {s1 with heap:=h',toks:=tk}:=I1.kept kp';have ea:acc.toList=its.reverse:=by
  refine List.ext_getElem? λi=>?_;have h1:=it.1;simp only[ao]at h1;by_cases hi:i<acc.size
  ·have h2:=it.2 i acc[i] (by simp[hi]);simp only[ao,List.getElem?_toArray]at h2;rw[d_,Array.getElem?_eq_getElem hi,List.getElem?_reverse (by omega),h2]
  ·rw[dr (by rw[bz];omega),dr (by rw[fh];omega)]
 have ea':acc=its.reverse.toArray:=by rw[<-ea,Array.toArray_toList]
 subst ea';have I3:Inv X pins σ (upd H1 h'.objs.size (.tup xs.reverse)) {s1 with heap:=h'.push {cls:=.type "tuple",data:=.seq its.reverse.toArray},toks:=tk}:=I2.laid (t':=tk) (λb o e=>Heap.get?_push_of_some _ e) (Nat.le_refl _) (show ZY X.prog X.w _ _ _ (.tup xs.reverse)from⟨by rw[fh];exact hz,its.reverse,MZ r',IsTup.new _ _⟩);exact⟨⟨_,Heap.get?_push_size _ rfl,rfl⟩,.ref h'.objs.size,_,I3,rfl,q _ (I2.hok.fresh (Nat.le_refl _))⟩
end
noncomputable def K4(K:ae):List V->Hp->VK->Prop:=λxs H Q=>∃p ys,xs=[.ref p]/\(SqL K H p ys\/SqT K H p ys)/\∀l,H l=none->Q (.ref l) (upd H l (.lst ys))
theorem Qf{X:Cx}:Xx X (.type "list") (K4 X.K):=MS
theorem Uc{α β:Type}{R:α->β->Prop}:∀{a:List α}{c:List β},bS R a c->∀n,bS R (a.take n) (c.take n)
|_,_,.nil,n=>by rw[List.take_nil,List.take_nil];exact .nil
|_,_,.cons h t,0=>.nil
|_,_,.cons h t,n+1=>.cons h (Uc t n)
theorem Ud{α β:Type}{R:α->β->Prop}:∀{a:List α}{c:List β},bS R a c->∀n,bS R (a.drop n) (c.drop n)
|_,_,.nil,n=>by rw[List.drop_nil,List.drop_nil];exact .nil
|_,_,.cons h t,0=>.cons h t
|_,_,.cons h t,n+1=>Ud t n
theorem J1{α β:Type}{R:α->β->Prop}:∀{a b:List α}{c d:List β},bS R a c->bS R b d->bS R (a++b) (c++d)
|_,_,_,_,.nil,h=>h
|_,_,_,_,.cons h t,h2=>.cons h (J1 t h2)
theorem U1{α β:Type}{R:α->β->Prop}:∀{a:List α}{c:List β},bS R a c->bS R a.reverse c.reverse
|_,_,.nil=>.nil
|_,_,.cons h t=>by rw[d6,d6];exact J1 (U1 t) (.cons h .nil)
theorem DK(xs:List V){i:Int}(h0:0<=i):cutV xs none (some i)=xs.take i.toNat:=by
 obtain⟨n,rfl⟩:=Int.eq_ofNat_of_zero_le h0;show(xs.drop 0).take (HT.sIx xs.length xs.length (some (n:Int))-0)=_;rw[HT.sIx_nat,gk,Nat.sub_zero,Int.toNat_natCast];by_cases h:n<=xs.length
 ·rw[Nat.min_eq_left h]
 ·rw[Nat.min_eq_right (by omega),bj (Nat.le_refl _),bj (by omega)]
theorem Wo(xs:List V){i:Int}(h0:0<=i):cutV xs (some i) none=xs.drop i.toNat:=by
 obtain⟨n,rfl⟩:=Int.eq_ofNat_of_zero_le h0;show(xs.drop (HT.sIx xs.length 0 (some (n:Int)))).take (xs.length-HT.sIx xs.length 0 (some (n:Int)))=_;rw[HT.sIx_nat,Int.toNat_natCast];by_cases h:n<=xs.length
 ·rw[Nat.min_eq_left h,bj (by rw[c6];exact Nat.le_refl _)]
 ·rw[Nat.min_eq_right (by omega),List.drop_of_length_le (Nat.le_refl _),List.drop_of_length_le (by omega),List.take_nil]
end L2
namespace SX
open PySem L2 PySem.Spec PyProof.Rows TB WD
noncomputable def keyD(S:Sx):PyData:=.tuple ((S.key.map kV).map dF)
noncomputable def jouD(j:JT):PyData:=.tuple [.str j.1,.int j.2.1,.list (j.2.2.map keyD)]
theorem Xj{α:Type}{H:Hp}{R:V->α->Prop}{D:α->PyData}:∀{xs:List V}{ys:List α},bS R xs ys->(∀x y,y∈ys->R x y->Is H x (D y))->IsAll H xs (ys.map D)
|_,_,.nil,_=>.nil
|_,_,.cons h t,f=>.cons (f _ _ aA h) (Xj t λx y hy=>f x y (aq _ hy))
theorem GX{T:Tb}(o:OkTb T){j:JT}(h:JOk T j):GS j.1/\∀S∈j.2.2,RowG (S.key.map kV):=by obtain⟨y,hy,e,_⟩:=h.gr;refine⟨e▸(XU o (j:=4) (.inr (.inr (.inr rfl))) hy).2,λS hS=>?_⟩;obtain⟨i,hi⟩:=YS o (h.jr.p.all S hS);exact(hi.small o).key
theorem JA.is{H:Hp}{T:Tb}(o:OkTb T){v:V}{j:JT}(h:JA H v j)(ok:JOk T j):Is H v (jouD j):=by obtain⟨t,lk,ks,rfl,ht,hl,kl⟩:=h;refine .tup ht (.cons (.str _) (.cons (.int _) (.cons (.lst hl (Xj kl λx S hS q=>?_)) .nil)));obtain⟨k,rfl,hk⟩:=q;exact .tup hk (GZ (((GX o ok).2 S hS).2))
theorem X0{k:Nat}:∀{ds:List PyData},(∀d∈ds,d.depth<=k)->PyData.depthAll ds<=k
|[],_=>Nat.zero_le _
|d::ds,h=>Nat.max_le.mpr ⟨h d aA,X0 λe he=>h e (aq _ he)⟩
theorem QQ{S:Sx}(h:RowG (S.key.map kV)):(keyD S).canLay0=true/\(keyD S).depth<=1:=by refine⟨W3 h,Nat.succ_le_succ (X0 (k:=0) λd hd=>?_)⟩;obtain⟨y,hy,rfl⟩:=ai.mp hd;exact(h.2 y hy).sm.dp
theorem QR{T:Tb}(o:OkTb T){j:JT}(ok:JOk T j):(jouD j).canLay0=true/\(jouD j).depth<=3:=by
 obtain⟨g,hS⟩:=GX o ok;have h1:(PyData.list (j.2.2.map keyD)).canLay0=true:=JD (ds:=j.2.2.map keyD) λd hd=>by obtain⟨S,h,rfl⟩:=ai.mp hd;exact(QQ (hS S h)).1
 have h2:(PyData.list (j.2.2.map keyD)).depth<=2:=Nat.succ_le_succ (X0 (k:=1) λd hd=>by obtain⟨S,h,rfl⟩:=ai.mp hd;exact(QQ (hS S h)).2);refine⟨JD (ds:=[.str j.1,.int j.2.1,.list (j.2.2.map keyD)]) λd hd=>?_,Nat.succ_le_succ (X0 (k:=2) λd hd=>?_)⟩
 ·simp only[ar,aP,or_false]at hd;rcases hd with rfl|rfl|rfl
  ·exact Mg g
  ·rfl
  ·exact h1
 ·simp only[ar,aP,or_false]at hd;rcases hd with rfl|rfl|rfl
  ·exact Nat.zero_le _
  ·exact Nat.zero_le _
  ·exact h2
theorem T9{T:Tb}(o:OkTb T){JL:List JT}(ok:∀j∈JL,JOk T j):bJ (.list (JL.map jouD))=true/\PyData.eqv (.list (JL.map jouD)) (.list (JL.map jouD))=true:=by
 have h1:(PyData.list (JL.map jouD)).canLay0=true:=JD (ds:=JL.map jouD) λd hd=>by obtain⟨S,h,rfl⟩:=ai.mp hd;exact(QR o (ok S h)).1
 refine⟨?_,PySem.SeqAt.eqv_refl _ h1⟩;unfold bJ;have h2:(PyData.list (JL.map jouD)).depth<=64:=Nat.le_trans (Nat.succ_le_succ (X0 (k:=3) λd hd=>by obtain⟨S,h,rfl⟩:=ai.mp hd;exact(QR o (ok S h)).2)) (by decide);rw[h1,decide_eq_true h2];rfl
theorem GW{H H':Hp}(s:Same H H'){a:Addr}(h:H' a=none):H a=none:=Option.eq_none_iff_forall_ne_some.mpr λo e=>by rw[s _ _ e]at h;cases h
def Hnd(N:Addr->Prop)(H:Hp)(v:V)(j:JT):Prop:=∃t lk ks,v=.ref t/\H t=some (.tup [.str j.1,.int j.2.1,.ref lk])/\H lk=some (.lst ks)/\N lk/\KeyL H ks j.2.2
theorem Hnd.ja{N:Addr->Prop}{H:Hp}{v:V}{j:JT}(h:Hnd N H v j):JA H v j:=by obtain⟨t,lk,ks,e,h1,h2,_,h3⟩:=h;exact⟨t,lk,ks,e,h1,h2,h3⟩
theorem Hnd.same{N:Addr->Prop}{H H':Hp}{v:V}{j:JT}(s:Same H H')(h:Hnd N H v j):Hnd N H' v j:=by obtain⟨t,lk,ks,e,h1,h2,h0,h3⟩:=h;exact⟨t,lk,ks,e,s _ _ h1,s _ _ h2,h0,h3.tup λc xs e=>s _ _ e⟩
theorem U6(A B:List JT):keysOf (A++B)=keysOf A++keysOf B:=by unfold keysOf;rw[dQ]
theorem NI(k:KK):∀JL:List JT,cnt k (keysOf JL.reverse)=cnt k (keysOf JL)
|[]=>rfl
|j::JL=>by rw[d6,U6,UB,NI k JL];have:keysOf (j::JL)=keysOf [j]++keysOf JL:=U6 [j] JL;rw[this,UB,Nat.add_comm]
theorem QP{T:Tb}(o:OkTb T){JL:List JT}(ok:∀j∈JL,JOk T j):∀k∈keysOf JL,k≠[]:=λk hk=>by unfold keysOf at hk;obtain⟨j,hj,h⟩:=cy.mp hk;obtain⟨S,hS,rfl⟩:=ai.mp h;intro z;obtain⟨i,hi⟩:=YS o ((ok j hj).jr.p.all S hS);rcases hi with⟨y,hy,i,e,h1,h2,_,rfl⟩|⟨y,hy,e,_,rfl⟩|⟨y,hy,i,e,h1,h2,_,rfl⟩|⟨y,hy,i,e,h0,h1,h2,_,rfl⟩<;>exact nomatch z
noncomputable def part(Js:List KK)(kws:List (KK×V))(i:Nat)(k:KK):Nat:=(fz (k∈(kws.take i).map λkv=>kv.1)).casesOn (λ_=>0) (λ_=>cnt k Js)
theorem Vn{Js:List KK}{kws:List (KK×V)}{i:Nat}{k:KK}(h:k∈(kws.take i).map λkv=>kv.1):part Js kws i k=cnt k Js:=by
 unfold part;cases fz (k∈(kws.take i).map λkv=>kv.1)with
|isTrue _=>rfl
|isFalse z=>exact absurd h z
theorem Je{Js:List KK}{kws:List (KK×V)}{i:Nat}{k:KK}(h:k∉(kws.take i).map λkv=>kv.1):part Js kws i k=0:=by
 unfold part;cases fz (k∈(kws.take i).map λkv=>kv.1)with
|isTrue z=>exact absurd z h
|isFalse z=>rfl
structure CntI(Ks:List KK)(Js:List KK)(kws:List (KK×V))(i:Nat)(kvs:List (KK×V)):Prop where
 nd:(kvs.map (·.1)).Nodup
 val:∀k:KK,valV kvs k=if cnt k Ks+part Js kws i k=0 then none else some (.int ((cnt k Ks+part Js kws i k:Nat):Int))
 len:kvs.length<=Ks.length+i
theorem Cnt.begin{kvs kws:List (KK×V)}{Ks Js:List KK}(h:Cnt kvs Ks):CntI Ks Js kws 0 kvs:=by refine⟨h.nd,λk=>?_,h.len⟩;rw[Je (by rw[List.take_zero];simp),Nat.add_zero];exact h.val k
theorem CntI.get{kvs kws:List (KK×V)}{Ks Js:List KK}{i:Nat}(h:CntI Ks Js kws i kvs)(c:Cnt kws Js){kv:KK×V}(e:kws[i]?=some kv):(valV kvs kv.1).getD (.int 0)=.int (cnt kv.1 Ks)/\kv.2=.int (cnt kv.1 Js)/\cnt kv.1 Js≠0:=by
 have hm:kv.1∉(kws.take i).map (·.1):=λhm=>by
  have nd:=c.nd;have hi:i<kws.length:=(aj.mp e).1;have e2:kws=kws.take i++kv::kws.drop (i+1):=by have:=aj.mp e;obtain⟨_,rfl⟩:=this;rw[List.getElem_cons_drop,eI]
  rw[e2,aE,List.nodup_append]at nd;exact nd.2.2 _ hm _ (by simp) rfl
 refine⟨?_,?_⟩
 ·rw[h.val,Je hm,Nat.add_zero];by_cases z:cnt kv.1 Ks=0
  ·rw[if_pos z,z];rfl
  ·rw[if_neg z];rfl
 ·have h1:=JS c.nd e;rw[c.val kv.1]at h1;by_cases z:cnt kv.1 Js=0
  ·rw[if_pos z]at h1;cases h1
  ·rw[if_neg z]at h1;exact⟨(aB h1).symm,z⟩
theorem CntI.step{kvs kws:List (KK×V)}{Ks Js:List KK}{i:Nat}(h:CntI Ks Js kws i kvs)(c:Cnt kws Js){kv:KK×V}(e:kws[i]?=some kv):CntI Ks Js kws (i+1) (putK kvs kv.1 (.int ((cnt kv.1 Ks:Int)+cnt kv.1 Js))):=by
 obtain⟨_,_,hn⟩:=h.get c e;refine⟨TU h.nd,λk=>?_,Nat.le_trans UY (by have:=h.len;omega)⟩;rw[Yu];by_cases z:k=kv.1
 ·subst z;rw[if_pos rfl,Vn (by rw[aV,e];simp),if_neg (by omega)];push_cast;rfl
 ·have hm:(k∈(kws.take (i+1)).map λkv=>kv.1)↔k∈(kws.take i).map λkv=>kv.1:=by
   rw[aV,e,aE,aK];constructor
   ·rintro (q|q)
    ·exact q
    ·simp at q;exact absurd q z
   ·exact .inl
  rw[if_neg z,h.val k];by_cases y:k∈(kws.take i).map λkv=>kv.1
  ·rw[Vn y,Vn (hm.mpr y)]
  ·rw[Je y,Je λq=>y (hm.mp q)]
theorem CntI.done{kvs kws:List (KK×V)}{Ks Js:List KK}(h:CntI Ks Js kws kws.length kvs)(c:Cnt kws Js):Cnt kvs (Ks++Js):=by
 refine⟨h.nd,λk=>?_,?_⟩
 ·rw[h.val k,UB];by_cases z:k∈kws.map (·.1)
  ·rw[Vn (by rw[aH];exact z)]
  ·have:cnt k Js=0:=by
    by_cases q:cnt k Js=0
    ·exact q
    ·exact absurd ((c.mem k).mpr q) z
   rw[Je (by rw[aH];exact z),this]
 ·have:=h.len;have:=c.len;rw[av];omega
def Na(K:ae):Sp:=λvs H Q _=>∃(a:Addr)(ns:List Int),vs=[.ref a]/\SqL K H a (ns.map V.int)/\ns.length<=63/\∀H',Q (.bl true) H'
section
variable {P:Program}{w:World}{K:ae}{mg:Str->Option Value}{base:Heap}{C Cb:Addr}
theorem YW:FnScope ["_law_script",q_w,"_law_steps_here","_law_journeys_here","_law_table","_law_due","_law_handed","_law_found","_law_one","_law_at","_law_first","_law_key","_law_many"] ["_law_script"] (Zf T.f_law):=scO
noncomputable def Gn:Scope:=csx [(".0",.local),("_law_group",.local),("_law_number",.local),("_law_keys",.local),("list",.globalImplicit)]
theorem NR:CompScope Gn (Zf T.f_law):=⟨rfl,by decide +kernel,by decide +kernel,by decide +kernel⟩
theorem Jr:(["_law_group","_law_number","_law_keys"]:List Str).Nodup:=by decide +kernel
theorem NS:CompNames ["_law_script",q_w,"_law_steps_here","_law_journeys_here","_law_table","_law_due","_law_handed","_law_found","_law_one","_law_at","_law_first","_law_key","_law_many"] Gn ["_law_group","_law_number","_law_keys"] [none,none,none]:=.mk' (by decide +kernel)
theorem LL{f:Addr}{fd:b_}(B:∀x∈Blts,mg x=none)(hrev:mg "reversed"=none)(M:TMkG P w K mg base C)(CC:Can P w K mg base 1 "_law_cell" ["_law_script","_law_k"] (Ml K))(CW:Can P w K mg base 4 "_law_world" ["_law_script"] (Qo K))(CS:Can P w K mg base 1 "_law_steps" [q_w] Nb)(CJs:Can P w K mg base 3 "_law_journeys" ["_law_script",q_w,"_law_steps_here"] (Qt P w K))(CT:Can P w K mg base 1 "_law_together" ["_law_journeys_here"] KU)(CJ:Can P w K mg base 8 "joined" ["table","journeys"] (SG C))(CI:Can P w K mg base 1 "_law_is" ["_law_found","_law_due"] KZ)(F:Fun K "law" "law" T.f_law f fd):FnOk P w K mg base CX0 9 f fd ["_law_script"] (Na K):=by
 obtain⟨fm,fdm,hM,FM,bM⟩:=M.made;refine F.ok YW (λvs H Q E h=>?_) (λcdv A outer s H vs Q E hr h=>?_)
 ·obtain⟨a,ns,rfl,_⟩:=h;rfl
 ·obtain⟨a,ns,rfl,hS,hlen,k⟩:=h;refine' ⟨_,(@Za _ _ _ _ _ ?h14 (@Za _ _ _ _ _ ?h15 (@Za _ _ _ _ _ ?h16 (@Za _ _ _ _ _ ?h17 (@Za _ _ _ _ _ ?h18 (@Za _ _ _ _ _ ?h19 (@Za _ _ _ _ _ ?h20 (@Za _ _ _ _ _ ?h21 (@Za _ _ _ _ _ ?h22 (@Za _ _ _ _ _ ?h23 (@Za _ _ _ _ _ ?h24 (@Za _ _ _ _ _ ?h25 (@Za _ _ _ _ _ ?h26 (@Za _ _ _ _ _ ?h27 (@Za _ _ _ _ _ ?h28 (@Za _ _ _ _ _ ?h29 (@Ze _ _ _ ?h30))))))))))))))))),?rd⟩;case' h30=>refine' (Zk (XE (cn CI hr (@pa2 _ _ _ _ _ (pv 10) (pv 5) (by rfl))) (XE (@YG _ _ _ _ _ _ _ _ (TJ (ZT hr)) (cn CJ hr (@pa2 _ _ _ _ _ (pv 4) ?h13 (by rfl))) Y9 (Zw _)) (Xd (@YG _ _ _ _ _ _ _ _ (TJ (ZT hr)) (cn CJ hr (@pa2 _ _ _ _ _ (pv 4) ?h12 (by rfl))) Y9 (Zw _))))))
  case' h29=>refine' (Uw (ZW aD rfl (Ts (cn CJ hr (@pa2 _ _ _ _ _ (pv 4) (XS (r:=rSlL K) Qv (pv 3) (Jy (pv 9)) Jz) (by rfl)))) (YB rfl (Zn (nmT 11 YW.nd) (Zn (nmT 12 YW.nd) Yc))) (@Ze _ _ _ ?h11)))
  case' h28=>refine' (@st _ _ _ _ 10 _ _ YW.nd (cn CJ hr (@pa2 _ _ _ _ _ (pv 4) (XS (r:=rSlL K) Qv (pv 3) Jz (Jy (pv 9))) (by rfl))) (by rfl) (by exact aN rfl) (by rfl) (by exact .inl rfl))
  case' h27=>refine' (@st _ _ _ _ 9 _ _ YW.nd (Zt Y0 (cn CC hr (@pa2 _ _ _ _ _ (pv 0) Zb (by rfl))) (Zt ZQ (Zy (r:=rLen K) ZI rfl (bm B) aT (@pa1 _ _ _ (pv 3) (by rfl))) Zb)) (by rfl) (by exact aN rfl) (by rfl) (by exact .inl rfl))
  case' h26=>refine' (@ZD _ _ _ _ _ _ _ _ (ZH (ZA (cn CI hr (@pa2 _ _ _ _ _ (cn CJ hr (@pa2 _ _ _ _ _ (pv 4) (Rl rfl rfl (bm B) YR rfl hrev boot_reversed (pv 3)) (by rfl))) (pv 5) (by rfl))))) (@Ze _ _ _ ?h10) Zo)
  case' h25=>refine' (ZX (Pt cS PySem.F.slot_dict_clear PySem.F.type_dict_clear Rp (pv 7)))
  case' h24=>refine' (@ZD _ _ _ _ _ _ _ _ (ZH (ZA (cn CI hr (@pa2 _ _ _ _ _ (pv 7) (pv 5) (by rfl))))) (@Ze _ _ _ ?h9) Zo)
  case' h23=>refine' (ZX (Pt bq PySem.F.slot_list_clear PySem.F.type_list_clear Nz (pv 6)))
  case' h22=>refine' (ZW aD rfl (Z6 (pv 6)) (nmT 8 YW.nd) (@Ze _ _ _ ?h8))
  case' h21=>refine' (@ZD _ _ _ _ _ _ _ _ (PW.pt (Y8 (ZH (ZA (cn CI hr (@pa2 _ _ _ _ _ (pv 7) (pv 5) (by rfl))))) (Yz (@Zr _ _ _ _ _ _ _ _ (TF hr.units) (pv 6) (pv 3) (Zw _))))) (@Ze _ _ _ ?h6) Zo)
  case' h20=>refine' (@st _ _ _ _ 7 _ _ YW.nd (cn CJ hr (@pa2 _ _ _ _ _ (pv 4) (pv 6) (by rfl))) (by rfl) (by exact aN rfl) (by rfl) (by exact .inl rfl))
  case' h19=>refine' (Vf (i:=6) YW.nd rfl (aN rfl) (scope:=Gn) (N:=["_law_group","_law_number","_law_keys"]) (cp:=[none,none,none]) rfl NR NS (Z6 (pv 3)) (λC s H ex pn=>(QD (K:=K) (n:=3) rfl rfl (Zn (nmT 0 Jr) (Zn (nmT 1 Jr) (Zn (nmT 2 Jr) Yc))))) (λC s H ex pn=>Uv) (λC s H ex pn=>(ZE (Zh (pv 0) (Zh (pv 1) (Zh (Xn (r:=K4 K) Qf rfl (bm B) UC (Zh (pv 2) Zj)) Zj))))))
  case' h18=>refine' (@st _ _ _ _ 5 _ _ YW.nd (cn CT hr (@pa1 _ _ _ (pv 3) (by rfl))) (by rfl) (by exact aN rfl) (by rfl) (by exact .inl rfl))
  case' h17=>refine' (@st _ _ _ _ 4 _ _ YW.nd (Vh hM FM hr rfl M.mg bM .nil Z1 (@Zh _ _ _ _ _ ?h5 (@Zh _ _ _ _ _ ?h4 (@pa3 _ _ _ _ _ _ _ ?h3 ?h2 ?h1 (by rfl)) (by rfl)) (by rfl))) (by rfl) (by exact aN rfl) (by rfl) (by exact .inl rfl))
  case' h16=>refine' (@st _ _ _ _ 3 _ _ YW.nd (cn CJs hr (@pa3 _ _ _ _ _ _ _ (pv 0) (pv 1) (pv 2) (by rfl))) (by rfl) (by exact aN rfl) (by rfl) (by exact .inl rfl))
  case' h15=>refine' (@st _ _ _ _ 2 _ _ YW.nd (cn CS hr (@pa1 _ _ _ (pv 1) (by rfl))) (by rfl) (by exact aN rfl) (by rfl) (by exact .inl rfl))
  case' h14=>refine' (@st _ _ _ _ 1 _ _ YW.nd (cn CW hr (@pa1 _ _ _ (pv 0) (by rfl))) (by rfl) (by exact aN rfl) (by rfl) (by exact .inl rfl))
  case' h13=>refine' (@Z0 _ _ _ _ Zj)
  case' h12=>refine' (@ZE _ _ _ _ _ Zj)
  case' h11=>refine' (Yx (ZT hr) (pv 10) (pv 11) (Zt ZQ (Vk (ZT hr) (pv 10) (pv 11) Zb ⟨rfl,rfl,rfl,rfl⟩) (pv 12)) rfl)
  case' h10=>refine' (Zk XB)
  case' h9=>refine' (Zk XB)
  case' h8=>refine' (ZX (Pt bq PySem.F.slot_list_clear PySem.F.type_list_clear Nz ?h7))
  case' h7=>refine' (@it _ _ _ _ _ _ K (pv 8) Zb (by rfl) (by exact λ_ _=>rfl))
  case' h6=>refine' (Zk XB)
  case' h5=>refine' (@il _ _ _ _ _ _ K (pv 1) Zb (by rfl) (by exact λ_ _=>rfl))
  case' h4=>refine' (@il _ _ _ _ _ _ K (pv 1) Zb (by rfl) (by exact λ_ _=>rfl))
  case' h3=>refine' (@il _ _ _ _ _ _ K (pv 1) Zb (by rfl) (by exact λ_ _=>rfl))
  case' h2=>refine' (@il _ _ _ _ _ _ K (pv 1) Zb (by rfl) (by exact λ_ _=>rfl))
  case' h1=>refine' (@il _ _ _ _ _ _ K (pv 1) Zb (by rfl) (by exact λ_ _=>rfl))
  case' rd=>
  rw[show L2.start (["_law_script",q_w,"_law_steps_here","_law_journeys_here","_law_table","_law_due","_law_handed","_law_found","_law_one","_law_at","_law_first","_law_key","_law_many"]:List Str) [V.ref a]=[some (.ref a),none,none,none,none,none,none,none,none,none,none,none,none]from rfl];refine tq λD1 hk1=>?_;refine⟨_,rfl,a,ns,rfl,hS,by omega,λH1 b pw T l1 l2 l3 l4 S1 hb bx tb ok=>?_⟩;refine hk1 _ _ (tq λD2 hk2=>?_);try dsimp only[Zq,au]
  refine⟨_,rfl,b,pw,l1,l2,l3,l4,T,rfl,tb,ok,λH2 d S2 hd dc=>?_⟩;refine hk2 _ _ (tq λD3 hk3=>?_);try dsimp only[Zq,au]
  have tb2:=tb.sameS S2;have S02:=S1.trans S2;refine⟨_,rfl,_,rfl,_,rfl,a,b,pw,l1,l2,l3,l4,d,T,ns,rfl,SqL.same S02 hS,by omega,tb2,ok,dc,λH3 l xs JL S3 hl el pj hJ nd okJ=>?_⟩;refine hk3 _ _ (tq λD4 hk4=>?_);try dsimp only[Zq,au]
  have tb3:=tb2.sameS S3;have S03:=S02.trans S3;have pj3:bS (JA H3) xs JL:=Paired.mapP pj λv j⟨t,lk,ks,e,h1,h2,_,h3⟩=>⟨t,lk,ks,e,h1,h2,h3⟩;clear tb tb2 S02 S1 S2 hd pj;obtain⟨x1,_,h1,_,r1⟩:=tb3.pl.part (ok.flat (.inl rfl));obtain⟨x2,_,h2,_,r2⟩:=tb3.rd.part (ok.flat (.inr (.inl rfl)));obtain⟨x3,_,h3,_,r3⟩:=tb3.wy.part (ok.flat (.inr (.inr (.inl rfl))));obtain⟨x4,_,h4,_,r4⟩:=tb3.gr.part (ok.flat (.inr (.inr (.inr rfl))));refine ixL 0 tb3.at_ rfl (ixL 1 tb3.at_ rfl (ixL 2 tb3.at_ rfl (ixL 3 tb3.at_ rfl (ixL 4 tb3.at_ rfl ?_))));simp only[tNil,bp];refine Rv ok h1 h2 h3 h4 r1 r2 r3 r4 λH4 t S4 ht tel=>?_;refine hk4 _ _ (tq λD5 hk5=>?_);try dsimp only[Zq,au]
  clear r1 r2 r3 r4 h1 h2 h3 h4 tb3 bM FM hM;have pj4:=Paired.mapP pj3 λv j q=>q.same S4;have S04:=S03.trans S4;refine⟨_,rfl,l,T,xs,JL,rfl,ok,S4 _ _ el,pj4,hJ,okJ,λH5 pd kd S5 hpd ed cd=>?_⟩;refine hk5 _ _ (tq λD6 hk6=>?_);try dsimp only[Zq,au]
  have el5:=S5 _ _ (S4 _ _ el);have tel5:=tel.same S5;have pj5:=Paired.mapP pj4 λv j q=>q.same S5;have S05:=S04.trans S5;have hS5:=SqL.same S05 hS;have xl:=aR pj5;clear hk1 hk2 hk3 hk4 hk5 pj4 pj3 S03 S04 S3 S4 S5 el tel dc hS;refine⟨_,rfl,l,rfl,⟨_,SqL.of el5⟩,?_⟩;refine VI (J:=Itl K l) xs.length (Nat.le_trans (by omega:_<=1000) (by decide)) (λi us τ H'=>Same H5 H'/\bS (Hnd (λz=>H5 z=none) H') us (JL.take i)/\∃o:Nat->Option V,τ=[o 0,o 1,o 2]) ?_ (λi us τ H' p=>by rw[aR p.2.1,aF];exact Nat.min_le_left _ _) (λi us τ H' hi p=>⟨_,xs[i],SqL.of (p.1 _ _ el5),gE hi⟩) (λus τ H' p=>⟨_,SqL.of (p.1 _ _ el5),Nat.le_refl _⟩) (λi us τ H' x H6 hi p yl=>?_) (λus τ H' p lh hlh=>?_)
  ·exact⟨Same.refl _,.nil,shp rfl⟩
  ·obtain⟨s1,pa,o,rfl⟩:=p;obtain⟨rfl,hy⟩:=yl;have hx:=hy _ (SqL.of (s1 _ _ el5));have hi2:i<JL.length:=by omega
   have eJ:=gE hi2;obtain⟨q,lk,ks,rfl,hq,elk,kl⟩:=ZK pj5 hx eJ;rw[aV,eJ];generalize JL[i]=j at hq kl;refine⟨q,_,rfl,SqT.of (s1 _ _ hq),rfl,?_⟩;try dsimp only[Zq,au]
   refine⟨_,_,rfl,_,_,rfl,_,_,rfl,rfl,?_⟩;try dsimp only[Zq,au]
   refine⟨_,rfl,_,rfl,_,rfl,lk,ks,rfl,.inl (SqL.of (s1 _ _ elk)),λc1 hc1=>?_⟩;refine⟨Nat.le_trans (by decide:3<=1000) (by decide),λc2 hc2=>?_⟩;have n12:c1≠c2:=ne_of_none Zd hc2;have S6:=sameNew (o:=.tup [.str j.1,.int j.2.1,.ref c1]) (sameNew (o:=.lst ks) (Same.refl H6) hc1) hc2;exact⟨s1.trans S6,J1 (Paired.mapP pa λv j q=>q.same S6) (.cons ⟨c2,c1,ks,rfl,Zd,by rw[Zc n12];exact Zd,GW s1 hc1,kl.tup λc xs e=>S6 _ _ (s1 _ _ e)⟩ .nil),shp rfl⟩
  obtain⟨s6,pa,o,rfl⟩:=p;rw[xl,aH]at pa;have S6:Same H' (upd H' lh (.lst us)):=sameNew (Same.refl H') hlh;have hn:bS (Hnd (λz=>H5 z=none/\z≠lh) (upd H' lh (.lst us))) us JL:=Paired.mapP pa λv j⟨t,lk,ks,e,h1,h2,h0,h3⟩=>⟨t,lk,ks,e,S6 _ _ h1,S6 _ _ h2,⟨h0,ne_of_none h2 hlh⟩,h3.tup λc xs e=>S6 _ _ e⟩;have elh:upd H' lh (.lst us) lh=some (.lst us):=Zd;have n5:=GW s6 hlh;have S56:=s6.trans S6;generalize upd H' lh (.lst us)=H6 at S56 hn elh;clear S6 s6 hlh pa o H';refine hk6 _ _ (tq λD7 hk7=>?_);try dsimp only[Zq,au]
  clear hk6 D6;refine⟨_,rfl,_,rfl,t,lh,T,us,JL,rfl,tel5.same S56,ok,.inl elh,Paired.mapP hn λ_ _ q=>q.ja,hJ,nd,okJ,λH7 pf kf S7 hpf ef cf=>?_⟩;refine hk7 _ _ (tq λD8 hk8=>?_);try dsimp only[Zq,au]
  clear hk7 D7;have S57:=S56.trans S7;have hn7:=Paired.mapP hn λ_ _ q=>q.same S7;have elh7:=S7 _ _ elh;have n5f:=GW S56 hpf;have ndf:pf≠pd:=bR (ne_of_none (S56 _ _ ed) hpf);have hkl:=Xq ok okJ;have hkn:=QP ok okJ;obtain⟨js1,js2⟩:=T9 ok okJ;clear hn elh S7 S56 hpf;refine⟨_,rfl,_,rfl,pf,pd,kf,kd,_,_,rfl,ndf,ef,S57 _ _ ed,cf,cd,λ_=>rfl,by omega,hkn,λH8 S8=>⟨true,rfl,?_⟩⟩;refine iteF ?_;have S58:=S57.trans S8;have hn8:=Paired.mapP hn7 λ_ _ q=>q.same S8;have elh8:=S8 _ _ elh7;have ef8:=S8 _ _ ef;refine⟨_,rfl,_,rfl,_,_,.lst elh8 (Xj hn8 λv j hj q=>q.ja.is ok (okJ j hj)),.lst (S58 _ _ el5) (Xj pj5 λv j hj q=>(q.same S58).is ok (okJ j hj)),js1,js1,?_⟩;rw[js2];refine⟨_,rfl,?_⟩;refine iteF ?_;refine hk8 _ _ (tq λD9 hk9=>?_);clear hk8 D8 js1 js2 ef elh7 hn7 S8 S57;have all8:∀v∈us,∃t lk z g n,v=.ref t/\H8 t=some (.tup [g,n,.ref lk])/\H8 lk=some (.lst z)/\H5 lk=none/\lk≠lh:=λv hv=>by
   obtain⟨i,hi⟩:=aZ.mp hv;have hlt:i<JL.length:=by rw[<-aR hn8];exact(aj.mp hi).1
   obtain⟨t,lk,ks,e,h1,h2,h0,_⟩:=ZK hn8 hi (gE hlt);exact⟨t,lk,ks,_,_,e,h1,h2,h0.1,h0.2⟩
  clear hn8;refine⟨_,rfl,lh,rfl,⟨_,SqL.of elh8⟩,?_⟩;refine Z8 (J:=Itl K lh) us.length (λi σ H'=>Same H5 H'/\H' lh=some (.lst us)/\H' pf=some (.dT kf)/\(∀v∈us,∃t lk z g n,v=.ref t/\H' t=some (.tup [g,n,.ref lk])/\H' lk=some (.lst z)/\H5 lk=none/\lk≠lh)/\∃o:Nat->Option V,σ=[some (.ref a),some (.ref pw),some (.ref d),some (.ref l),some (.ref t),some (.ref pd),some (.ref lh),some (.ref pf),o 8,none,none,none,none]) ?_ (λi σ H' hi q=>⟨_,us[i],SqL.of q.2.1,gE hi⟩) (λσ H' q=>⟨_,SqL.of q.2.1,Nat.le_refl _⟩) (λi σ H' v H9 hi q yl=>?_) (λσ H' q=>?_)
  ·exact⟨S58,elh8,ef8,all8,shp rfl⟩
  ·obtain⟨s9,el9,ef9,all9,o,rfl⟩:=q;obtain⟨rfl,hy⟩:=yl;obtain⟨q,lk,z,g,n,rfl,hq,elk,n0,nlh⟩:=all9 v (a_ (hy _ (SqL.of el9)));try dsimp only[Zq,au]
   refine td λD' hdd=>?_;refine ixT 2 hq rfl ⟨.inl ⟨rfl,_,SqL.of elk⟩,lk,z,rfl,rfl,elk,?_⟩;refine hdd _ _ ⟨λc o e=>by rw[Zc (ne_of_none e n0)];exact s9 _ _ e,by rw[Zc nlh.symm];exact el9,by rw[Zc (ne_of ef9 elk (λz=>nomatch z))];exact ef9,λv hv=>?_,shp rfl⟩;obtain⟨q2,lk2,z2,g2,n2,rfl,hq2,elk2,n02,nlh2⟩:=all9 v hv;refine⟨q2,lk2,_,g2,n2,rfl,by rw[Zc (ne_of hq2 elk (λz=>nomatch z))];exact hq2,(?_:_=some (HO.lst (if lk2=lk then[]else z2))),n02,nlh2⟩;by_cases e:lk2=lk
   ·rw[if_pos e,e];exact Zd
   ·rw[if_neg e,Zc e];exact elk2
  obtain⟨s9,el9,ef9,_,o,rfl⟩:=q;generalize H'=H9 at s9 el9 ef9;clear all8 ef8 elh8 S58;refine hk9 _ _ (tq λDa hka=>?_);clear hk9 D9;refine⟨_,rfl,.inl ⟨rfl,_,SqL.of el9⟩,lh,us,rfl,rfl,el9,?_⟩;have S5a:Same H5 (upd H9 lh (.lst [])):=λc o e=>by rw[Zc (ne_of_none e n5)];exact s9 _ _ e
  have efa:upd H9 lh (.lst []) pf=some (.dT kf):=by rw[Zc (ne_of ef9 el9 (λz=>nomatch z))];exact ef9
  generalize upd H9 lh (.lst [])=Ha at S5a efa;refine hka _ _ (tq λDb hkb=>?_);clear hka Da s9 el9 ef9;refine⟨_,rfl,_,rfl,pf,pd,kf,kd,_,_,rfl,ndf,efa,S5a _ _ ed,cf,cd,λ_=>rfl,by omega,hkn,λHb Sb=>⟨true,rfl,?_⟩⟩;refine iteF ?_;have S5b:=S5a.trans Sb;have efb:=Sb _ _ efa;refine hkb _ _ (tq λDc hkc=>?_);clear hkb Db S5a efa Sb;refine⟨_,rfl,.inr (.inr (.inl ⟨rfl,.inr ⟨_,efb⟩⟩)),pf,kf,rfl,rfl,efb,?_⟩;have S5c:Same H5 (upd Hb pf (.dT [])):=λc o e=>by rw[Zc (ne_of_none e n5f)];exact S5b _ _ e
  generalize upd Hb pf (.dT [])=Hc at S5c;refine hkc _ _ (tq λDd hkd=>?_);clear hkc Dc S5b efb;refine⟨_,rfl,_,rfl,l,xs,rfl,SqL.of (S5c _ _ el5),λq hq=>?_⟩;have Sd:Same Hc (upd Hc q (.tup xs.reverse)):=sameNew (Same.refl Hc) hq;have eqd:upd Hc q (.tup xs.reverse) q=some (.tup xs.reverse):=Zd;generalize upd Hc q (.tup xs.reverse)=Hd at Sd eqd;have S5d:=S5c.trans Sd;refine⟨t,q,T,xs.reverse,JL.reverse,rfl,tel5.same S5d,ok,.inr eqd,U1 (Paired.mapP pj5 λ_ _ q=>q.same S5d),by rw[fh];exact hJ,by rw[List.map_reverse];exact List.pairwise_reverse.mpr (fY (λh=>bR h) nd),λj hj=>okJ j (ib.mp hj),λHe p2 k2 Se hp2 e2 c2=>?_⟩;have S5e:=S5d.trans Se;refine⟨_,rfl,p2,pd,k2,kd,_,_,rfl,bR (ne_of_none (S5d _ _ ed) hp2),e2,S5e _ _ ed,c2,cd,λk=>NI k JL,?_,?_,λHf Sf=>⟨true,rfl,?_⟩⟩
  ·have:=Xq ok (JL:=JL.reverse) λj hj=>okJ j (ib.mp hj);rw[fh]at this;omega
  ·exact QP ok λj hj=>okJ j (ib.mp hj)
  refine iteF ?_;have S5f:=S5e.trans Sf;refine hkd _ _ (tq λDg hkg=>?_);clear hkd Dd S5c S5d S5e Sd Se Sf eqd hq hp2 e2 c2;refine⟨_,rfl,a,ns,4,rfl,SqL.same S5f hS5,by omega,by decide,λc=>?_⟩;have elf:=S5f _ _ el5;refine⟨_,rfl,l,xs,rfl,.inl (SqL.of elf),_,_,rfl,rfl,_,_,rfl,rfl,?_,?_⟩
  ·show(0:Int)<(xs.length:Int)+1;omega
  have m0:0<=c % ((xs.length:Int)+1):=Int.emod_nonneg _ (by omega);refine hkg _ _ (tq λDh hkh=>?_);clear hkg Dg;try dsimp only[Zq,au]
  generalize c % ((xs.length:Int)+1)=m at m0 ⊢;clear c;refine⟨_,rfl,_,rfl,_,rfl,_,rfl,l,xs,rfl,SqL.of elf,λq hq=>?_⟩;rw[DK xs m0];have Sg:Same Hf (upd Hf q (.lst (xs.take m.toNat))):=sameNew (Same.refl Hf) hq;have eqg:upd Hf q (.lst (xs.take m.toNat)) q=some (.lst (xs.take m.toNat)):=Zd;generalize upd Hf q (.lst (xs.take m.toNat))=Hg at Sg eqg;have S5g:=S5f.trans Sg;have okT:∀j∈JL.take m.toNat,JOk T j:=λj hj=>okJ j (cO hj);have okD:∀j∈JL.drop m.toNat,JOk T j:=λj hj=>okJ j (gn hj);refine⟨t,q,T,_,JL.take m.toNat,rfl,tel5.same S5g,ok,.inl eqg,Uc (Paired.mapP pj5 λ_ _ q=>q.same S5g) _,by rw[aF];omega,by rw[List.map_take];exact nd.sublist (List.take_sublist _ _),okT,λHh pg kg Sh hpg eg cg=>?_⟩;have S5h:=S5g.trans Sh;have n5g:=GW S5g hpg;refine hkh _ _ (tq λDi hki=>?_);clear hkh Dh Sg eqg hq hpg;try dsimp only[Zq,au]
  refine⟨_,rfl,_,rfl,_,rfl,_,rfl,l,xs,rfl,SqL.of (S5h _ _ el5),λq hq=>?_⟩;rw[Wo xs m0];have Si:Same Hh (upd Hh q (.lst (xs.drop m.toNat))):=sameNew (Same.refl Hh) hq;have eqi:upd Hh q (.lst (xs.drop m.toNat)) q=some (.lst (xs.drop m.toNat)):=Zd;generalize upd Hh q (.lst (xs.drop m.toNat))=Hi at Si eqi;have S5i:=S5h.trans Si;refine⟨t,q,T,_,JL.drop m.toNat,rfl,tel5.same S5i,ok,.inl eqi,Ud (Paired.mapP pj5 λ_ _ q=>q.same S5i) _,by rw[c6];omega,by rw[List.map_drop];exact nd.sublist (List.drop_sublist _ _),okD,λHj p3 k3 Sj hp3 e3 c3=>?_⟩;have S5j:=S5i.trans Sj;have n53:=GW S5i hp3;have egj:=Sj _ _ (Si _ _ eg);have n3g:p3≠pg:=bR (ne_of_none (Si _ _ eg) hp3);have hno:∀o' u',H p3≠some (.frz o' u'):=λo' u' z=>by rw[GW S05 n53]at z;cases z
  clear Si eqi hq Sh S5h S5i Sj hp3 S5g S5f elf;refine⟨p3,k3,rfl,e3,λob=>?_⟩;have ef3:upd Hj p3 (.frz ob (.dT k3)) p3=some (.frz ob (.dT k3)):=Zd;have egk:upd Hj p3 (.frz ob (.dT k3)) pg=some (.dT kg):=by rw[Zc n3g.symm];exact egj
  have S5k:Same H5 (upd Hj p3 (.frz ob (.dT k3))):=λc o e=>by rw[Zc (ne_of_none e n53)];exact S5j _ _ e
  generalize upd Hj p3 (.frz ob (.dT k3))=Hk at ef3 egk S5k ⊢;refine Z8 (J:=Iti p3 ob k3) k3.length (λi σ H'=>Same H5 H'/\H' p3=some (.frz ob (.dT k3))/\(∃kp,H' pg=some (.dT kp)/\CntI (keysOf (JL.take m.toNat)) (keysOf (JL.drop m.toNat)) k3 i kp)/\∃o:Nat->Option V,σ=[some (.ref a),some (.ref pw),some (.ref d),some (.ref l),some (.ref t),some (.ref pd),some (.ref lh),some (.ref pf),o 8,o 9,some (.ref pg),o 11,o 12]) ?_ (λi σ H' hi q=>⟨hi,q.2.1⟩) (λσ H' q=>⟨rfl,q.2.1⟩) (λi σ H' v H9 hi q yl=>?_) (λσ H' q=>?_)
  ·exact⟨S5k,ef3,⟨kg,egk,cg.begin⟩,shp rfl⟩
  ·obtain⟨s9,ef9,⟨kp,ep,ci⟩,o',rfl⟩:=q;obtain⟨T',b',kv,hT',hkv,hb',rfl,rfl⟩:=yl;obtain⟨hg,hv,_⟩:=ci.get c3 hkv;have st:=ci.step c3 hkv;have hl3:=c3.len;have hlp:=ci.len;have hq1:=Xq ok okT;have hq2:=Xq ok okD;rw[aF]at hq1;rw[c6]at hq2;rw[hv];generalize cnt kv.1 (keysOf (JL.drop m.toNat))=n2 at hv st ⊢;generalize cnt kv.1 (keysOf (JL.take m.toNat))=n1 at hg st ⊢;have S9:Same H' (upd H' T' (.tup [.ref b',.int n2])):=sameNew (Same.refl H') hT';have e9:upd H' T' (.tup [.ref b',.int n2]) T'=some (.tup [.ref b',.int n2]):=Zd;generalize upd H' T' (.tup [.ref b',.int n2])=Hl at S9 e9 ⊢;refine⟨T',_,rfl,SqT.of e9,rfl,?_⟩;try dsimp only[Zq,au]
   refine⟨_,_,rfl,_,_,rfl,rfl,?_⟩;try dsimp only[Zq,au]
   refine td λD' hdd=>?_;have epl:=S9 _ _ ep;have hbl:=S9 _ _ hb';refine⟨_,rfl,pg,rfl,.inr ⟨_,.inl epl⟩,_,rfl,_,DGet.t (k:=kv.1) epl hbl,_,rfl,_,_,hg,rfl,_,rfl,_,rfl,pg,_,rfl,DPut.t (k:=kv.1) epl hbl (Nat.lt_of_le_of_lt (by omega:_<=100000) (by rw[dq];decide)),?_⟩;refine hdd _ _ ⟨λc o e=>?_,?_,⟨_,Zd,st⟩,shp rfl⟩
   ·rw[Zc (ne_of_none e n5g)];exact S9 _ _ (s9 _ _ e)
   ·rw[Zc n3g];exact S9 _ _ ef9
  obtain⟨s9,ef9,⟨kp,ep,ci⟩,o',rfl⟩:=q;refine⟨p3,ob,.dT k3,ef9,hno,?_⟩;have S5m:Same H5 (upd H' p3 (.dT k3)):=λc o e=>by rw[Zc (ne_of_none e n53)];exact s9 _ _ e
  have epm:upd H' p3 (.dT k3) pg=some (.dT kp):=by rw[Zc n3g.symm];exact ep
  generalize upd H' p3 (.dT k3)=Hm at S5m epm ⊢;have cF:=ci.done c3;rw[<-U6,eI]at cF;refine hki _ _ ?_;clear hki Di s9 ef9 ep ci ef3 egk S5k egj e3 c3 hno;refine⟨_,rfl,_,rfl,pg,pd,kp,kd,_,_,rfl,bR (ne_of_none ed n5g),epm,S5m _ _ ed,cF,cd,λ_=>rfl,by omega,hkn,λHn Sn=>⟨true,rfl,?_⟩⟩;refine iteT ?_;have S5n:=S5m.trans Sn;have k0:(0:Nat)<=sizeLine:=Nat.zero_le _;refine⟨_,rfl,k0,λq hq=>?_⟩;have So:Same Hn (upd Hn q (.lst [])):=sameNew (Same.refl Hn) hq;have eo:upd Hn q (.lst []) q=some (.lst []):=Zd;generalize upd Hn q (.lst [])=Ho at So eo ⊢;have S5o:=S5n.trans So;refine⟨t,q,T,[],[],rfl,tel5.same S5o,ok,.inl eo,.nil,Nat.zero_le _,cW,(λ_ h=>nomatch h),λHp p5 k5 Sp hp5 e5 c5 r hr=>?_⟩;have S5p:=(S5o.trans Sp).trans (sameNew (o:=.dT []) (Same.refl Hp) hr);refine⟨PX (by rw[Zc (ne_of_none e5 hr)];exact e5) Zd c5 Cnt.nil λ_=>rfl,true,rfl,?_⟩;generalize upd Hp r (.dT [])=Hq at S5p ⊢;refine iteT ?_;clear hq hr So Sp eo S5n S5m epm e5 c5 hp5 S5o;refine⟨_,rfl,k0,λq hq=>?_⟩;have So:Same Hq (upd Hq q (.tup [])):=sameNew (Same.refl Hq) hq;have eo:upd Hq q (.tup []) q=some (.tup []):=Zd;generalize upd Hq q (.tup [])=Ho at So eo ⊢;have S5o:=S5p.trans So;refine⟨t,q,T,[],[],rfl,tel5.same S5o,ok,.inr eo,.nil,Nat.zero_le _,cW,(λ_ h=>nomatch h),λHp p5 k5 Sp hp5 e5 c5 r hr=>?_⟩;exact⟨PX (by rw[Zc (ne_of_none e5 hr)];exact e5) Zd c5 Cnt.nil λ_=>rfl,k _⟩
end
end SX
namespace L2
open PySem PySem.Spec PyProof.Rows
section
variable {K:ae}{h:Heap}{mg:Str->Option Value}{x:Str}
theorem Ey{st:Stmt}{ps:List Str}{f:Addr}{oc:Value}{od an:Option Addr}{osl:Array (Option Value)}{kV doc pm cdv ct:Value}(X:K.In h)(G:h.Ns a8 mg)(a:bZ K a8 x=some (some (.ref f)))(l:K.lookup f=some ⟨oc,od,.func (bF x x (Yt st) (Z9 st) (Zf st) .none kV doc pm an cdv ct),osl⟩)(c:cw K cdv x=true)(k:bw K (.ref f)=true)(hb:∀(kV doc pm:Value)(an:Option Addr)(cdv ct:Value)(us:List Value),us.length=ps.length->bindArgs (bF x x (Yt st) (Z9 st) (Zf st) .none kV doc pm an cdv ct) ⟨us,[]⟩=pure (ps.zip us)):Df K mg x st ps:=⟨f,_,Jh l c k,dh X G a,(Jh l c k).binds hb⟩
theorem Wm{C:Addr}{m qual:Str}{st:Stmt}{ps:List Str}{f:Addr}{oc:Value}{od an:Option Addr}{osl:Array (Option Value)}{kV doc pm cdv ct:Value}(a:aG K (.ref C) m=some (some (.ref f)))(i:e_ K (.ref f)=true)(l:K.lookup f=some ⟨oc,od,.func (bF m qual (Yt st) (Z9 st) (Zf st) .none kV doc pm an cdv ct),osl⟩)(c:cw K cdv qual=true)(k:bw K (.ref f)=true)(hb:∀(kV doc pm:Value)(an:Option Addr)(cdv ct:Value)(us:List Value),us.length=ps.length->bindArgs (bF m qual (Yt st) (Z9 st) (Zf st) .none kV doc pm an cdv ct) ⟨us,[]⟩=pure (ps.zip us)):DfM K C m qual st ps:=⟨f,_,Jh l c k,⟨a,i,k⟩,(Jh l c k).binds hb⟩
theorem str_mk{z:Str}{t:Tok}(X:K.In h)(G:h.Ns a8 mg)(a:bZ K a8 x=some (some (.str z t))):∃t,mg x=some (.str z t):=⟨t,dh X G a⟩
theorem int_mk{z:Int}{t:Tok}(X:K.In h)(G:h.Ns a8 mg)(a:bZ K a8 x=some (some (.int z t))):∃t,mg x=some (.int z t):=⟨t,dh X G a⟩
theorem QX{w:World}{a:Addr}{es:Array DictEntry}{n:Nat}{n1 n2 n3 n4:Int}{t1 t2 t3 t4:Tok}(X:K.In h)(G:h.Ns a8 mg)(ha:bZ K a8 x=some (some (.ref a)))(hl:K.lookup a=some ⟨.type "dict",none,.dict es n,#[]⟩)(hk:PySem.W.KeysLit w.params es.toList)(h1:bZ K a "places"=some (some (.int n1 t1)))(h2:bZ K a "rides"=some (some (.int n2 t2)))(h3:bZ K a "ways"=some (some (.int n3 t3)))(h4:bZ K a "groups"=some (some (.int n4 t4))):∃a,mg x=some (.ref a)/\Xw K w a "places" (.int n1)/\Xw K w a "rides" (.int n2)/\Xw K w a "ways" (.int n3)/\Xw K w a "groups" (.int n4):=⟨a,dh X G ha,⟨es,n,_,hl,hk,h1,⟨t1,rfl⟩⟩,⟨es,n,_,hl,hk,h2,⟨t2,rfl⟩⟩,⟨es,n,_,hl,hk,h3,⟨t3,rfl⟩⟩,⟨es,n,_,hl,hk,h4,⟨t4,rfl⟩⟩⟩
end
end L2
namespace SX
open PySem L2 PySem.Spec PyProof.Rows TB WD
section
variable {P:Program}{w:World}{K:ae}{mg:Str->Option Value}{base:Heap}{C:Addr}
structure Meths(K:ae)(C:Addr):Prop where
 take_places:DfM K C "take_places" "Table.take_places" T.m_Table_take_places ["self","places"]
 take_rides:DfM K C "take_rides" "Table.take_rides" T.m_Table_take_rides ["self","rides"]
 take_ways:DfM K C "take_ways" "Table.take_ways" T.m_Table_take_ways ["self","ways"]
 take_groups:DfM K C "take_groups" "Table.take_groups" T.m_Table_take_groups ["self","groups"]
 is_place:DfM K C "is_place" "Table.is_place" T.m_Table_is_place ["self","thing"]
 is_home:DfM K C "is_home" "Table.is_home" T.m_Table_is_home ["self","thing"]
 is_ride:DfM K C "is_ride" "Table.is_ride" T.m_Table_is_ride ["self","thing"]
 is_way:DfM K C "is_way" "Table.is_way" T.m_Table_is_way ["self","thing"]
 is_group:DfM K C "is_group" "Table.is_group" T.m_Table_is_group ["self","thing"]
 room_of:DfM K C "room_of" "Table.room_of" T.m_Table_room_of ["self","name"]
 ride_row:DfM K C "ride_row" "Table.ride_row" T.m_Table_ride_row ["self","name"]
 way_row:DfM K C "way_row" "Table.way_row" T.m_Table_way_row ["self","name"]
 group_row:DfM K C "group_row" "Table.group_row" T.m_Table_group_row ["self","name"]
structure TabF(K:ae)(mg:Str->Option Value)(C:Addr):Prop where
 cl:TCl K C
 init:∃f fd,Mk K C f/\Fun K "__init__" "Table.__init__" T.m_Table___init__ f fd/\Binds K fd ["self","turns","places","rides","ways","groups"] []
 mg:mg "Table"=some (.ref C)
 ms:Meths K C
structure SMeths(K:ae)(C:Addr):Prop where
 tail:DfM K C "tail" "Step.tail" T.m_Step_tail ["self"]
 head:DfM K C "head" "Step.head" T.m_Step_head ["self"]
structure StF(K:ae)(mg:Str->Option Value)(x qual:Str)(st:Stmt)(ps:List Str)(C:Addr):Prop where
 cl:SCl K C
 init:∃f fd,Mk K C f/\Fun K "__init__" qual st f fd/\Binds K fd ps []
 mg:mg x=some (.ref C)
 ms:SMeths K C
structure AllSt(K:ae)(mg:Str->Option Value)(c0 c1 c2 c3 cb:Addr):Prop where
 s0:StF K mg "SetOut" "SetOut.__init__" T.m_SetOut___init__ ["self","row","turn"] c0
 s1:StF K mg "Ride" "Ride.__init__" T.m_Ride___init__ ["self","row"] c1
 s2:StF K mg "Walk" "Walk.__init__" T.m_Walk___init__ ["self","row","turn"] c2
 s3:StF K mg "Wait" "Wait.__init__" T.m_Wait___init__ ["self","row","turn"] c3
 base:∃f fd,Fun K "__init__" "Step.__init__" T.m_Step___init__ f fd/\BaseM K cb "__init__" f/\Binds K fd ["self","key","tail","head","room","price"] []
 mb:mg "Step"=some (.ref cb)
structure Defs(K:ae)(mg:Str->Option Value):Prop where
 is_whole:Df K mg "is_whole" T.f_is_whole ["thing"]
 is_within:Df K mg "is_within" T.f_is_within ["thing","low","high"]
 is_text_of:Df K mg "is_text_of" T.f_is_text_of ["thing","longest","signs"]
 is_name:Df K mg "is_name" T.f_is_name ["thing"]
 is_group_name:Df K mg "is_group_name" T.f_is_group_name ["thing"]
 is_person:Df K mg "is_person" T.f_is_person ["table","thing"]
 set_out_of:Df K mg "set_out_of" T.f_set_out_of ["table","name","turn"]
 walk_of:Df K mg "walk_of" T.f_walk_of ["table","name","turn"]
 wait_of:Df K mg "wait_of" T.f_wait_of ["table","name","turn"]
 step_or_none:Df K mg "step_or_none" T.f_step_or_none ["table","key"]
 leads_home:Df K mg "leads_home" T.f_leads_home ["table","group","keys"]
 is_journey:Df K mg "is_journey" T.f_is_journey ["table","thing"]
 joined:Df K mg "joined" T.f_joined ["table","journeys"]
 is_known:Df K mg "is_known" T.f_is_known ["thing","names"]
 rows_of:Df K mg "rows_of" T.f_rows_of ["part","rows"]
 wrong_beginning:Df K mg "wrong_beginning" T.f_wrong_beginning ["part","row","names_ahead"]
 wrong_ends:Df K mg "wrong_ends" T.f_wrong_ends ["table","start","goal"]
 wrong_place:Df K mg "wrong_place" T.f_wrong_place ["row"]
 wrong_ride:Df K mg "wrong_ride" T.f_wrong_ride ["table","row"]
 wrong_way:Df K mg "wrong_way" T.f_wrong_way ["table","row"]
 wrong_group:Df K mg "wrong_group" T.f_wrong_group ["table","row","people_ahead"]
 refuse_row:Df K mg "refuse_row" T.f_refuse_row ["part","at","why"]
 _law_cell:Df K mg "_law_cell" T.f__law_cell ["_law_script","_law_k"]
 _law_box:Df K mg "_law_box" T.f__law_box ["_law_cell_here"]
 _law_take:Df K mg "_law_take" T.f__law_take [q_b,"_law_many"]
 _law_names:Df K mg "_law_names" T.f__law_names [q_b,"_law_many"]
 _law_rides:Df K mg "_law_rides" T.f__law_rides [q_b,"_law_turns","_law_names_here","_law_starts","_law_most"]
 _law_ways:Df K mg "_law_ways" T.f__law_ways [q_b,"_law_turns","_law_names_here","_law_starts"]
 _law_groups:Df K mg "_law_groups" T.f__law_groups [q_b,"_law_turns","_law_names_here","_law_most"]
 _law_world:Df K mg "_law_world" T.f__law_world ["_law_script"]
 _law_steps:Df K mg "_law_steps" T.f__law_steps [q_w]
 _law_hopeful:Df K mg "_law_hopeful" T.f__law_hopeful [q_w,"_law_steps_here"]
 _law_onward:Df K mg "_law_onward" T.f__law_onward [q_w,"_law_steps_here"]
 _law_journey:Df K mg "_law_journey" T.f__law_journey [q_b,"_law_onward_here","_law_steps_here","_law_group","_law_plan"]
 _law_journeys:Df K mg "_law_journeys" T.f__law_journeys ["_law_script",q_w,"_law_steps_here"]
 _law_together:Df K mg "_law_together" T.f__law_together ["_law_journeys_here"]
 _law_is:Df K mg "_law_is" T.f__law_is ["_law_found","_law_due"]
theorem N8(W:K1.Txt K mg)(G:TB.Txt K mg)(Zs:Sizes K w mg)(Zm:Mosts K w mg)(B:∀x∈Blts,mg x=none)(D:Defs K mg)(t:TabF K mg C):TMkG P w K mg base C:=by obtain⟨f,fd,M,F,bd⟩:=t.init;have he:=B "enumerate" (by decide +kernel);have cI:=K1.Gs (P:=P) (w:=w) (base:=base) D.is_within (K1.G5 W D.is_whole);have cX:=K1.P2 (P:=P) (w:=w) (base:=base) W D.is_text_of;have cK:=G6 (P:=P) (w:=w) (base:=base) G D.is_known;have cP:=Um (P:=P) (w:=w) (base:=base) t.cl t.ms.is_place cK;have cE:=Wz (P:=P) (w:=w) (base:=base) t.cl D.wrong_ends cP (Gv t.cl t.ms.is_home cP);have cB:=P1 (P:=P) (w:=w) (base:=base) G Zs D.wrong_beginning (K1.Wv W D.is_name cX) (K1.R3 W D.is_group_name cX);have cR:=NX (P:=P) (w:=w) (base:=base) D.refuse_row;exact⟨⟨f,fd,M,TL G t.cl cI (RU B Zm D.rows_of) (P6 t.cl he t.ms.take_places cB (PZ G D.wrong_place cI) cR) (P5 t.cl he t.ms.take_rides cB (Wu G t.cl D.wrong_ride cI cE) cR) (P4 t.cl he t.ms.take_ways cB (KD G t.cl D.wrong_way cI cE) cR) (P7 t.cl he t.ms.take_groups cB (P0 G t.cl D.wrong_group cI cP) cR) F,bd⟩,t.mg⟩
theorem all4{R:Nat->Prop}(h0:R 0)(h1:R 1)(h2:R 2)(h3:R 3):∀j,j<4->R j:=λj hj=>by
 have e:j=0\/j=1\/j=2\/j=3:=by omega
 rcases e with rfl|rfl|rfl|rfl<;>assumption
noncomputable def c4(c0 c1 c2 c3:Addr)(i:Nat):Addr:=[c0,c1,c2,c3].getD i 0
structure Nn(mg:Str->Option Value):Prop where
 n1:mg "min"=none
 n2:mg "dict"=none
 n3:mg "reversed"=none
theorem Kw{f c0 c1 c2 c3 cb:Addr}{fd:b_}(W:K1.Txt K mg)(G:TB.Txt K mg)(Zs:Sizes K w mg)(Zm:Mosts K w mg)(B:∀x∈Blts,mg x=none)(D:Defs K mg)(t:TabF K mg C)(N:Nn mg)(a:AllSt K mg c0 c1 c2 c3 cb)(F:Fun K "law" "law" T.f_law f fd):FnOk P w K mg base CX0 9 f fd ["_law_script"] (Na K):=by have tm:=N8 (P:=P) (base:=base) W G Zs Zm B D t;have Z:=t.cl;have cC:=WA (P:=P) (w:=w) (base:=base) (mg:=mg) B D._law_cell;have cB:=KJ (P:=P) (w:=w) (base:=base) (mg:=mg) B D._law_box;have cT:=Ws (P:=P) (w:=w) (base:=base) (mg:=mg) D._law_take;have cN:=RV (P:=P) (w:=w) (base:=base) (mg:=mg) B cT D._law_names;have cWo:=Qa (P:=P) (w:=w) (base:=base) (mg:=mg) B cC cB cT cN (Qc B cT cN D._law_rides) (RW B cT cN D._law_ways) (NY B cT cN D._law_groups) D._law_world;have cJs:=Qd (P:=P) (w:=w) (base:=base) (mg:=mg) B N.n1 cC cB cT (Ww (RY B D._law_hopeful) D._law_onward) (RX B cT D._law_journey) D._law_journeys;have cI:=K1.Gs (P:=P) (w:=w) (base:=base) (mg:=mg) D.is_within (K1.G5 W D.is_whole);have cK:=G6 (P:=P) (w:=w) (base:=base) (mg:=mg) G D.is_known;have cP:=Um (P:=P) (w:=w) (base:=base) (mg:=mg) Z t.ms.is_place cK;have cH:=Gv (P:=P) (w:=w) (base:=base) (mg:=mg) Z t.ms.is_home cP;have cR:=NZ (P:=P) (w:=w) (base:=base) (mg:=mg) Z t.ms.is_ride cK;have cY:=Qe (P:=P) (w:=w) (base:=base) (mg:=mg) Z t.ms.is_way cK;have cG:=MR (P:=P) (w:=w) (base:=base) (mg:=mg) Z t.ms.is_group cK;have ZS:∀j,j<4->SCl K (c4 c0 c1 c2 c3 j):=all4 a.s0.cl a.s1.cl a.s2.cl a.s3.cl;obtain⟨fb,fdb,Fb,bm,bb⟩:=a.base;have CB:CanB P w K mg base cb:=⟨⟨fb,fdb,TM Fb,bm,bb⟩,a.mb⟩;obtain⟨f0,g0,M0,F0,b0⟩:=a.s0.init;obtain⟨f1,g1,M1,F1,b1⟩:=a.s1.init;obtain⟨f2,g2,M2,F2,b2⟩:=a.s2.init;obtain⟨f3,g3,M3,F3,b3⟩:=a.s3.init;have m0:SMk P w K mg base "SetOut" (c4 c0 c1 c2 c3 0) ["self","row","turn"] (spMk K (c4 c0 c1 c2 c3) 0 Te):=⟨⟨f0,g0,M0,LK CB F0,b0⟩,a.s0.mg⟩;have m1:SMk P w K mg base "Ride" (c4 c0 c1 c2 c3 1) ["self","row"] (spMk K (c4 c0 c1 c2 c3) 1 Po):=⟨⟨f1,g1,M1,Kh CB F1,b1⟩,a.s1.mg⟩;have m2:SMk P w K mg base "Walk" (c4 c0 c1 c2 c3 2) ["self","row","turn"] (spMk K (c4 c0 c1 c2 c3) 2 Pm):=⟨⟨f2,g2,M2,Kf CB F2,b2⟩,a.s2.mg⟩;have m3:SMk P w K mg base "Wait" (c4 c0 c1 c2 c3 3) ["self","row","turn"] (spMk K (c4 c0 c1 c2 c3) 3 Pn):=⟨⟨f3,g3,M3,Kg CB F3,b3⟩,a.s3.mg⟩;have gR:=Gu (P:=P) (w:=w) (base:=base) (mg:=mg) Z cG t.ms.group_row;have w1:=P8 (P:=P) (w:=w) (base:=base) (mg:=mg) Z ZS m0 cG gR cI D.set_out_of;have w2:=Wq (P:=P) (w:=w) (base:=base) (mg:=mg) Z ZS m2 cY (MP Z cY t.ms.way_row) cI D.walk_of;have w3:=Wr (P:=P) (w:=w) (base:=base) (mg:=mg) Z ZS m3 cP cH (MQ Z cP t.ms.room_of) cI D.wait_of;have sn:=RT (P:=P) (w:=w) (base:=base) (mg:=mg) B Z ZS m1 cR (GC Z cR t.ms.ride_row) w1 w2 w3 D.step_or_none;have le:=RZ (P:=P) (w:=w) (base:=base) (mg:=mg) B Z ZS cH sn (all4 (JI a.s0.ms.tail) (JI a.s1.ms.tail) (JI a.s2.ms.tail) (JI a.s3.ms.tail)) (all4 (JJ a.s0.ms.head) (JJ a.s1.ms.head) (JJ a.s2.ms.head) (JJ a.s3.ms.head)) D.leads_home;have jo:=Wx (P:=P) (w:=w) (base:=base) (mg:=mg) B (KI B (P9 B Z cG gR cI D.is_person) le D.is_journey) D.joined;exact LL B N.n3 tm cC cWo (Qb B D._law_steps) cJs (KG D._law_together) jo (KH B N.n2 D._law_is) F
theorem law_fd{l:hV}{h:Heap}{fa f:Addr}(X:K.In h)(G:h.Ns a8 mg)(hfa:mg "law"=some (.ref fa))(Wt:K1.Txt K mg)(Gt:TB.Txt K mg)(Zs:Sizes K w mg)(Zm:Mosts K w mg)(B:∀x∈Blts,mg x=none)(D:Defs K mg)(ht:∃C,TabF K mg C)(hN:Nn mg)(hS:∃c0 c1 c2 c3 cb,AllSt K mg c0 c1 c2 c3 cb){oc:Value}{od an:Option Addr}{osl:Array (Option Value)}{kV doc pm cdv ct:Value}(a:bZ K a8 "law"=some (some (.ref f)))(lk:K.lookup f=some ⟨oc,od,.func (bF "law" "law" (Yt T.f_law) (Z9 T.f_law) (Zf T.f_law) .none kV doc pm an cdv ct),osl⟩)(c:cw K cdv "law"=true)(k:bw K (.ref f)=true):∃fd:b_,(∀(s:ah)(v:Value),BindsTo s fd ⟨[v],[]⟩ [("_law_script",v)])/\∀base:Heap,K.In base->base.Ns a8 mg->FnOk l.prog w K mg base CX0 9 fa fd ["_law_script"] (Na K):=by have e:=hfa.symm.trans (dh X G a);cases e;obtain⟨C,t⟩:=ht;obtain⟨c0,c1,c2,c3,cb,sa⟩:=hS;have F:=Jh (st:=T.f_law) lk c k;exact⟨bF "law" "law" (Yt T.f_law) (Z9 T.f_law) (Zf T.f_law) .none kV doc pm an cdv ct,λs v=>.of_eq rfl,λbase _ _=>Kw Wt Gt Zs Zm B D t hN sa F⟩
end
theorem tab_mk{K:ae}{h:Heap}{mg:Str->Option Value}{C f1:Addr}{oc1:Value}{od1 an1:Option Addr}{osl1:Array (Option Value)}{kV1 doc1 pm1 cdv1 ct1:Value}(X:K.In h)(G:h.Ns a8 mg)(aC:bZ K a8 "Table"=some (some (.ref C)))(pg:dD K C Str.empty=true)(hd:dY K C=true)(po:fv K C=true)(sa:aG K (.ref C) "__setattr__"=some (some (.builtin "object.__setattr__")))(mk:fK K C=true)(kc:bw K (.ref C)=true)(y1:aG K (.ref C) "turns"=some none)(y2:aG K (.ref C) "places"=some none)(y3:aG K (.ref C) "room_by_place"=some none)(y4:aG K (.ref C) "rides"=some none)(y5:aG K (.ref C) "ride_by_name"=some none)(y6:aG K (.ref C) "ways"=some none)(y7:aG K (.ref C) "way_by_name"=some none)(y8:aG K (.ref C) "groups"=some none)(y9:aG K (.ref C) "group_by_name"=some none)(a1:aG K (.ref C) "__init__"=some (some (.ref f1)))(i1:e_ K (.ref f1)=true)(l1:K.lookup f1=some ⟨oc1,od1,.func (bF "__init__" "Table.__init__" (Yt T.m_Table___init__) (Z9 T.m_Table___init__) (Zf T.m_Table___init__) .none kV1 doc1 pm1 an1 cdv1 ct1),osl1⟩)(c1:cw K cdv1 "Table.__init__"=true)(k1:bw K (.ref f1)=true)(ms:Meths K C):∃C,TabF K mg C:=by have F:=Jh (st:=T.m_Table___init__) l1 c1 k1;refine⟨C,⟨⟨pg,hd,po,sa⟩,λf hf=>?_⟩,⟨f1,_,⟨mk,a1,i1,kc⟩,F,F.binds λ_ _ _ _ _ _ us hl=>by obtain⟨_,_,_,_,_,_,rfl⟩:=len6 hl;rfl⟩,dh X G aC,ms⟩;unfold fields at hf;simp only[ar,aP,or_false]at hf;rcases hf with rfl|rfl|rfl|rfl|rfl|rfl|rfl|rfl|rfl<;>assumption
theorem st_mk{K:ae}{h:Heap}{mg:Str->Option Value}{x qual:Str}{st:Stmt}{ps:List Str}{C f1:Addr}{oc1:Value}{od1 an1:Option Addr}{osl1:Array (Option Value)}{kV1 doc1 pm1 cdv1 ct1:Value}(X:K.In h)(G:h.Ns a8 mg)(aC:bZ K a8 x=some (some (.ref C)))(pg:dD K C Str.empty=true)(hd:dY K C=true)(po:fv K C=true)(sa:aG K (.ref C) "__setattr__"=some (some (.builtin "object.__setattr__")))(mk:fK K C=true)(kc:bw K (.ref C)=true)(y1:aG K (.ref C) "its_key"=some none)(y2:aG K (.ref C) "its_tail"=some none)(y3:aG K (.ref C) "its_head"=some none)(y4:aG K (.ref C) "its_room"=some none)(y5:aG K (.ref C) "its_price"=some none)(a1:aG K (.ref C) "__init__"=some (some (.ref f1)))(i1:e_ K (.ref f1)=true)(l1:K.lookup f1=some ⟨oc1,od1,.func (bF "__init__" qual (Yt st) (Z9 st) (Zf st) .none kV1 doc1 pm1 an1 cdv1 ct1),osl1⟩)(c1:cw K cdv1 qual=true)(k1:bw K (.ref f1)=true)(hb:∀(kV doc pm:Value)(an:Option Addr)(cdv ct:Value)(us:List Value),us.length=ps.length->bindArgs (bF "__init__" qual (Yt st) (Z9 st) (Zf st) .none kV doc pm an cdv ct) ⟨us,[]⟩=pure (ps.zip us))(ms:SMeths K C):StF K mg x qual st ps C:=by have F:=Jh (st:=st) l1 c1 k1;refine⟨⟨⟨pg,hd,po,sa⟩,λf hf=>?_⟩,⟨f1,_,⟨mk,a1,i1,kc⟩,F,F.binds hb⟩,dh X G aC,ms⟩;unfold fnames at hf;simp only[ar,aP,or_false]at hf;rcases hf with rfl|rfl|rfl|rfl|rfl<;>assumption
theorem base_mk{K:ae}{C f1:Addr}{oc1:Value}{od1 an1:Option Addr}{osl1:Array (Option Value)}{kV1 doc1 pm1 cdv1 ct1 mc:Value}(ga:gH K (.ref C) "__getattribute__"=some (some (.builtin "type.__getattribute__")))(rd:PySem.W.readsIn K C mc=true)(fc:PySem.W.findCls K (.ref C) mc "__init__"=some (.val (.ref f1)))(l1:K.lookup f1=some ⟨oc1,od1,.func (bF "__init__" "Step.__init__" (Yt T.m_Step___init__) (Z9 T.m_Step___init__) (Zf T.m_Step___init__) .none kV1 doc1 pm1 an1 cdv1 ct1),osl1⟩)(c1:cw K cdv1 "Step.__init__"=true)(k1:bw K (.ref f1)=true):∃f fd,Fun K "__init__" "Step.__init__" T.m_Step___init__ f fd/\BaseM K C "__init__" f/\Binds K fd ["self","key","tail","head","room","price"] []:=by have F:=Jh (st:=T.m_Step___init__) l1 c1 k1;exact⟨f1,_,F,⟨ga,⟨mc,rd,fc⟩,k1⟩,F.binds λ_ _ _ _ _ _ us hl=>by obtain⟨_,_,_,_,_,_,rfl⟩:=len6 hl;rfl⟩
theorem walk{l:hV}{q:Program}{loose:List Str}{XP:(Str->Option Value)->Heap->Prop}{YP:World->Heap->Prop}{d:DefRec}{K:Params->ae}(hn:l.most=some 63)(hdf:d.params.defaults=[])(hY:∀(w:World)(h:Heap),YP w h->(K w.params).In h)(F:∀(w:World)(mg:Str->Option Value)(fa:Addr)(h:Heap),(K w.params).In h->h.Ns a8 mg->mg d.name=some (.ref fa) ->∃fd:b_,(∀(s:ah)(u:Value),BindsTo s fd ⟨[u],[]⟩ [("_law_script",u)])/\∀base:Heap,(K w.params).In base->base.Ns a8 mg->FnOk l.prog w (K w.params) mg base CX0 9 fa fd ["_law_script"] (Na (K w.params))):PySem.W.WalkO q loose XP YP l.row.toRowW d [] (λf vs=>PySem.call f vs):=L2.walk_of (n:=63) (k:=9) (x:="_law_script") (CX:=λ_=>CX0) (sp:=λw=>Na (K w.params)) hn (by decide) hdf ⟨rfl,by decide,by decide,rfl⟩ hY F (λ_ _ a ns hl _ hS=>⟨a,ns,rfl,hS,hl,λ_=>rfl⟩) λ_ _ _ _ _ z=>z
end SX
open PySem PySem.W PyProof.Rows
set_option hygiene false in
local macro_rules
|`(tactic| o_head $H)=>`(tactic| (
   refine holds_open (q:=RG.QV) (loose:=RG.LO) (Xt:=RG.XT) (XP:=XL RG.QV [])
    (Yf:=Hook.obs $H) (Ya:=Hook.val $H) (YP:=Hook.says $H) (N:=12000) ?hl (Hook.of $H) (Hook.keeps $H) (λs e=>xl_of s (Bool.and_eq_true_iff.mp e).1)
    XL.keeps (by rfl) (by rfl) (by rfl) (λs e=>recFacts_of (Bool.and_eq_true_iff.mp e).2) (by rfl) (by first|assumption|decide +kernel) (by decide +kernel)
    ⟨rfl,rfl,rfl,rfl,rfl,by decide +kernel⟩ ?hw ?hc
   case' hl=>exact RG.Eo (by kernel_rfl) (λs=>by kernel_rfl) RG.kfE (λw=>rfl)))
set_option maxRecDepth 100000 in
set_option maxHeartbeats 0 in
theorem PySem.Challenge.cw_homequay_k52_journeys_joined_holds : PySem.Challenge.rw_homequay_k52_journeys_joined.Holds := by
 w_on;o_law;o_head (kHook RG.hk.heap_39 RG.AS RG.eK);(case hw=>w_witness2);k_fill;refine SX.walk (l:=bH) rfl rfl (λw h Y=>PySem.W.kIn_of Y) ?F;case F=>
  intro w mg fa h KX G hmg;have D:SX.Defs (L2.KOf KX) mg:=by dsimp only[L2.KOf];constructor<;>(refine' L2.Ey KX G ?a ?l ?c ?k ?b;(case a|l|c|k=>k_is);(case b=>exact λ_ _ _ _ _ _ us hl=>by first|(obtain⟨_,rfl⟩:=L2.len1 hl;rfl)|(obtain⟨_,_,rfl⟩:=L2.len2 hl;rfl)|(obtain⟨_,_,_,rfl⟩:=L2.len3 hl;rfl)|(obtain⟨_,_,_,_,rfl⟩:=L2.len4 hl;rfl)|(obtain⟨_,_,_,_,_,rfl⟩:=L2.len5 hl;rfl)))
  have B:∀x∈WD.Blts,mg x=none:=by intro x hx;unfold WD.Blts at hx;simp only[ar,aP,or_false]at hx;rcases hx with rfl|rfl|rfl|rfl|rfl|rfl|rfl|rfl|rfl|rfl|rfl|rfl|rfl<;>(refine' ff KX G ?a;(case a=>k_is))
  have W:K1.Txt (L2.KOf KX) mg:=by constructor<;>((first|refine' ff KX G ?a|refine' L2.str_mk KX G ?a|refine' L2.int_mk KX G ?a);(case a=>k_is))
  have Gt:TB.Txt (L2.KOf KX) mg:=by constructor<;>((first|refine' ff KX G ?a|refine' L2.str_mk KX G ?a|refine' L2.int_mk KX G ?a);(case a=>k_is))
  have Zs:TB.Sizes (L2.KOf KX) w mg:=by refine⟨?_⟩;dsimp only[L2.KOf];refine' L2.QX KX G ?a ?l ?k ?h1 ?h2 ?h3 ?h4;(case a|l=>k_is);(case k=>k_keys);(case h1|h2|h3|h4=>k_is)
  have Zm:TB.Mosts (L2.KOf KX) w mg:=by refine⟨?_⟩;dsimp only[L2.KOf];refine' L2.QX KX G ?a ?l ?k ?h1 ?h2 ?h3 ?h4;(case a|l=>k_is);(case k=>k_keys);(case h1|h2|h3|h4=>k_is)
  have hN:SX.Nn mg:=by constructor<;>(refine' ff KX G ?a;(case a=>k_is))
  have ht:∃C,SX.TabF (L2.KOf KX) mg C:=by
   dsimp only[L2.KOf];refine' SX.tab_mk KX G ?aC ?pg ?hd ?po ?sa ?mk ?kc ?y1 ?y2 ?y3 ?y4 ?y5 ?y6 ?y7 ?y8 ?y9 ?a1 ?i1 ?l1 ?c1 ?k1 ?ms;(case aC|pg|hd|po|sa|mk|kc|y1|y2|y3|y4|y5|y6|y7|y8|y9|a1|i1|l1|c1|k1=>k_is)
   (case ms=>constructor<;>(refine' L2.Wm ?za ?zi ?zl ?zc ?zk ?zb;(case za|zi|zl|zc|zk=>k_is);(case zb=>exact λ_ _ _ _ _ _ us hl=>by first|(obtain⟨_,rfl⟩:=L2.len1 hl;rfl)|(obtain⟨_,_,rfl⟩:=L2.len2 hl;rfl)|(obtain⟨_,_,_,rfl⟩:=L2.len3 hl;rfl)|(obtain⟨_,_,_,_,rfl⟩:=L2.len4 hl;rfl)|(obtain⟨_,_,_,_,_,rfl⟩:=L2.len5 hl;rfl))))
  have hS:∃c0 c1 c2 c3 cb,SX.AllSt (L2.KOf KX) mg c0 c1 c2 c3 cb:=by
   dsimp only[L2.KOf];refine' ⟨_,_,_,_,_,⟨SX.st_mk KX G ?aC_0 ?pg_0 ?hd_0 ?po_0 ?sa_0 ?mk_0 ?kc_0 ?y1_0 ?y2_0 ?y3_0 ?y4_0 ?y5_0 ?a1_0 ?i1_0 ?l1_0 ?c1_0 ?k1_0 ?bb_0 ?ms_0,SX.st_mk KX G ?aC_1 ?pg_1 ?hd_1 ?po_1 ?sa_1 ?mk_1 ?kc_1 ?y1_1 ?y2_1 ?y3_1 ?y4_1 ?y5_1 ?a1_1 ?i1_1 ?l1_1 ?c1_1 ?k1_1 ?bb_1 ?ms_1,SX.st_mk KX G ?aC_2 ?pg_2 ?hd_2 ?po_2 ?sa_2 ?mk_2 ?kc_2 ?y1_2 ?y2_2 ?y3_2 ?y4_2 ?y5_2 ?a1_2 ?i1_2 ?l1_2 ?c1_2 ?k1_2 ?bb_2 ?ms_2,SX.st_mk KX G ?aC_3 ?pg_3 ?hd_3 ?po_3 ?sa_3 ?mk_3 ?kc_3 ?y1_3 ?y2_3 ?y3_3 ?y4_3 ?y5_3 ?a1_3 ?i1_3 ?l1_3 ?c1_3 ?k1_3 ?bb_3 ?ms_3,SX.base_mk (mc:=.type "type") ?bga ?brd ?bfc ?bl1 ?bc1 ?bk1,dh KX G ?mb⟩⟩;(case aC_0|aC_1|aC_2|aC_3|mb=>k_is)
   (case ms_0|ms_1|ms_2|ms_3=>constructor<;>(refine' L2.Wm ?za ?zi ?zl ?zc ?zk ?zb;(case za|zi|zl|zc|zk=>k_is);(case zb=>exact λ_ _ _ _ _ _ us hl=>by first|(obtain⟨_,rfl⟩:=L2.len1 hl;rfl)|(obtain⟨_,_,rfl⟩:=L2.len2 hl;rfl)|(obtain⟨_,_,_,rfl⟩:=L2.len3 hl;rfl)|(obtain⟨_,_,_,_,rfl⟩:=L2.len4 hl;rfl)|(obtain⟨_,_,_,_,_,rfl⟩:=L2.len5 hl;rfl))))
   (case bb_0|bb_1|bb_2|bb_3=>exact λ_ _ _ _ _ _ us hl=>by first|(obtain⟨_,rfl⟩:=L2.len1 hl;rfl)|(obtain⟨_,_,rfl⟩:=L2.len2 hl;rfl)|(obtain⟨_,_,_,rfl⟩:=L2.len3 hl;rfl)|(obtain⟨_,_,_,_,rfl⟩:=L2.len4 hl;rfl)|(obtain⟨_,_,_,_,_,rfl⟩:=L2.len5 hl;rfl))
   (case pg_0|hd_0|po_0|sa_0|mk_0|kc_0|y1_0|y2_0|y3_0|y4_0|y5_0|a1_0|i1_0|l1_0|c1_0|k1_0|pg_1|hd_1|po_1|sa_1|mk_1|kc_1|y1_1|y2_1|y3_1|y4_1|y5_1|a1_1|i1_1|l1_1|c1_1|k1_1|pg_2|hd_2|po_2|sa_2|mk_2|kc_2|y1_2|y2_2|y3_2|y4_2|y5_2|a1_2|i1_2|l1_2|c1_2|k1_2|pg_3|hd_3|po_3|sa_3|mk_3|kc_3|y1_3|y2_3|y3_3|y4_3|y5_3|a1_3|i1_3|l1_3|c1_3|k1_3|bga|brd|bfc|bl1|bc1|bk1=>k_is)
  refine' SX.law_fd KX G hmg W Gt Zs Zm B D ht hN hS ?fa ?fl ?fc ?fk;(case fa|fl|fc|fk=>k_is)
