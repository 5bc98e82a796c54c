import PyProof.Rows.All
import Wide.All
import OpenK.AllK
import Wide.FinOn
import Lean
import PyProof.EqAt
import PyProof.EqKinds
import PyProof.TupleCall
import KE.KIntText
import KE.IntTextLaws
import PyProof.ExcClass3
import PyProof.InstStoreFacts
import PyProof.ExcBaseAll.ValueError
import PyProof.NsDelKeeps
import PyProof.ExcAttrAll.ValueError
import OpenK.KTop
import PyProof.ZipIter
import PyProof.ListNew
import PyProof.ListRange
import PyProof.ReprRoads
import PyProof.Rows.FactsT3
import PyProof.Rows.SumAny
import PyProof.CompUse
import PyProof.EqLayable
import PyProof.CallFns
import PyProof.StrBlock
import PyProof.EnumMake
import PyProof.ReprLen
import PyProof.MeetsDict
import PyProof.DictWalks
import PySem.Challenge.RW_homequay_k24_what_is_a_line
open PySem.W renaming Frag→aa,kitOne→aH,findIn→aO,keepIn→bu,fnOf→bE,kia_one→bL,emptyDict→bP,nsIn→bS,codeIn→b8,instObj→cj,kia_tup→cS,mg_of→cU,plainGet→c5,callWith_K→dj,hasDictIn→du,methodCall_KW→dw,isFn→dR,mg_none_of→dW,plainOver→d_,makesIn→e_,lookIn→ft,plainGet_of→fA,specialIn→fT,methodObj→fU,kitx_list→fV,kitx_dict→fW,takerIn→gy,OpenLaw→gA,kitAny→gP
open PySem.Challenge renaming pw_homequay_k24_what_is_a_line→ab,rw_homequay_k24_what_is_a_line→bG
open PySem renaming wpAny_bind→ae,Shared→ag,wpAny_pure→ai,Spec→aA,starEach→aN,boot_len→aZ,mainGlobals→bc,wpAny_holding→bh,Paired→bo,compareOp→bp,wpAny_truthy_bool→bt,Around→bz,bootBuiltins→bF,OsState→bI,FuncData→bW,wpAny_callSpecial?_slot→bZ,wpAny_dictEpoch→b7,backTo→cf,tupleKind→ck,assignEach→cq,mem_of_lookup→cz,wpAny_call_entry→cV,keywordEach→cW,wpAny_typeNameOfWhole_keyiter→cZ,behindInMarks→c6,wpAny_newObj_type→c8,wpAny_dictEntries→c9,NameKind→dh,sliceBounds→di,wpAny_rule→dB,wpAny_mono→dC,wpAny_Call_Name_kw→dD,wpAny_getItem_str_slice→dE,wpAny_ite_true→dM,wpAny_pyIter_list→dN,holding→dY,Builtin→dZ,binaryOp→d6,backToKw→d8,wpAny_passesOwn→eh,getMethod→eU,wpAny_pyIter_enum→fh,foldedSetIterable→fj,attributeBase→fo,swapsWith→fz,rawInt→fF,codeAny→fG,wpAny_loadPart'→fJ,wpAny_ite_false→fK,post_val_or_str→fM,letOwnedTupleGo→fN,wpAny_notOrdered_dict→fS,Thread→f9,callWith→f_,wpAny_of_eq→gc,strIterType→gf,wpAny_setField→gg,placesWithHash→gh,firstArgMember→gi,standAt→gm,wpAny_standAt→gC,wpAny_attempt→gD,wpAny_pyIter_tuple→gM,tupleKind_room_in1→gN,slot_dict_contains→gO
open List renaming mem_map→af,length_append→ah,getElem?_eq_some_iff→aj,mem_cons→ao,size_toArray→aq,map_cons→ar,mem_of_getElem?→au,mem_cons_of_mem→av,mem_append→aw,getD_eq_getElem?_getD→ax,mem_singleton→ay,set→az,getElem_mem→aD,mem_cons_self→aE,not_mem_nil→aF,length_take→aG,map_append→aI,getElem?_map→aJ,mem_append_right→aR,range→aT,mem_iff_getElem?→aU,take_length→aV,length_cons→aW,take_of_length_le→aX,getElem?_append_right→a6,mem_filter→a7,getElem?_append_left→a8,take_succ→a9,length_range→a_,all_eq_true→ba,length_drop→bf,length_filter_le→bg,mem_range→bj,mem_append_left→bq,append_nil→br,length_map→bw,map_map→bA,nodup_cons→bB,any_eq_true→bC,mem_flatMap→bJ,sum_cons→bQ,range_succ→bR,append_assoc→bU,find?_cons→bV,any_cons→b6,take_append_drop→cg,nodup_append→cw,nodup_nil→cD,lookup_cons→cF,filter_cons_of_pos→cL,filter_cons_of_neg→cM,getElem?_eq_none→cY,mem_of_mem_take→c7,map_congr_left→de,filterMap_cons→df,sublist_append_left→dq,foldl_cons→dr,filter_eq_nil_iff→dz,drop_of_length_le→dA,lookup→dQ,filter_sublist→dX,map_nil→d5,pairwise_iff_getElem→eQ,drop_eq_getElem_cons→eR,any_eq_false→eT,getElem?_take_of_lt→eV,nodup_range→fe,getElem_map→ff,of_mem_zip→fu,length_nil→fv,pairwise_flatMap→fw,drop_zero→fC,pairwise_append→fD,mem_of_mem_drop→fE,length_reverse→fO,getElem?_range→fP,zip_cons_cons→fZ,mem_filterMap→f6,filter_append→f7,any_map→gu,pairwise_map→gv,foldl_append→gw,getElem_inj→gG,range'→gL,eq_nil_of_length_eq_zero→gR
open Option.some renaming inj→aB
open Or renaming inl→aK,inr→b9
open PySem.Paired renaming length→aL,snoc→dH
open PySem.W.Fast renaming tw5923862056798008813→aP,tw4187177175401517315→aQ
open PySem.PassesOwn renaming never→aY
open Ne renaming symm→bD
open True renaming intro→bK
open PySem.F renaming plainAttrs_list→bN,type_list_append→cu,slot_list_append→cv
open PySem.NameKind renaming free→bO,cell→d9
open PyProof.Rows renaming callWith_type1→bT,boot_sum→cJ,envOfC→dI,boot_max→eJ,boot_any→eM,boot_all→eO,AllBare→fH,boot_isinstance→fR,subscriptTail→gF,boot_repr→gH,boot_min→gQ
open Option renaming map_eq_some_iff→bY,isSome_iff_exists→cy,isSome_map→dv,map_some→fg
open False renaming elim→b_
open Sum renaming inr→cA,inl→fI
open PySem.Builtin.SmallTypes renaming nextOf→cO
open PySem.Builtin.Str renaming strSliceIndices→cQ,occurrences→gK
open ForInStep renaming yield→c_
open Array renaming length_toList→da,mem_toList_iff→dO
open List.Sublist renaming refl→dS
open PySem.Builtin.List renaming listTooLong→dU
open PySem.WalksT renaming enumerateD→eI
open Prod.mk renaming injEq→fB
open PySem.StrLaws renaming glued_eq_join→fQ
open PySem.Around renaming under→fX
open PySem.SeqAt.EqAt renaming same→fY
open PySem.SeqAt renaming shaped→gj
open PySem.Builtin.Dict renaming addKeywords→gx,updateFrom→gB
open Classical renaming byContradiction→gI
open List.Pairwise renaming of_map→gS
open PySem in
abbrev q_b:Str:="_law_box_here"
open PySem in
abbrev q_w:Str:="_law_world_here"
open PySem in
abbrev q_p:Str:="_law_places_here"
open PySem in
abbrev q_s:Str:="_law_strange"
open PySem in
abbrev q_n:Str:="_law_name_here"
open PySem in
abbrev q_t:Str:="_law_table_here"
namespace RG
open PySem PySem.W PyProof.Rows
noncomputable def runG(thr ok:f9->Bool)(st:SharedT->f9->Option (SharedT×f9))(n:Nat):SharedT->f9->Option SharedT:=@Nat.rec (λ_=>SharedT->f9->Option SharedT) (λ_ _=>none) (λ_ ih s t=>@Bool.rec (λ_=>Option SharedT) (@Bool.rec (λ_=>Option SharedT) none (@Option.rec (SharedT×f9) (λ_=>Option SharedT) none (λx=>@Prod.rec SharedT f9 (λ_=>Option SharedT) (λs' t'=>ih s' t') x) (st s t)) (ok t)) (some s) (thr t)) n
theorem Qb{tb:String->Option dZ}{p:Program}{w:World}{m:Nat}{ann:Option Value}:∀{n:Nat}{s r:SharedT}{t:f9},runG through (stepOk m ann) (stepT (denote tb) p w) n s t=some r->topRun tb p w m ann n s.abs t=some r.abs
|0,_,_,_,h=>by cases h
|n+1,s,r,t,h=>by
  have h':@Bool.rec (λ_=>Option SharedT) (@Bool.rec (λ_=>Option SharedT) none (@Option.rec (SharedT×f9) (λ_=>Option SharedT) none (λx=>@Prod.rec SharedT f9 (λ_=>Option SharedT) (λs' t'=>runG through (stepOk m ann) (stepT (denote tb) p w) n s' t') x) (stepT (denote tb) p w s t)) (stepOk m ann t)) (some s) (through t)=some r:=h;unfold topRun;cases ht:through t with
 |true=>rw[ht]at h';cases h';rfl
 |false=>
   rw[ht]at h';cases ho:stepOk m ann t with
  |false=>rw[ho]at h';cases h'
  |true=>
    rw[ho]at h';cases hs:stepT (denote tb) p w s t with
   |none=>rw[hs]at h';cases h'
   |some x=>obtain⟨s',t'⟩:=x;rw[hs]at h';rw[stepT_spec hs];exact Qb (n:=n) h'
noncomputable def mkT(l:List Obj):BT:=(l.foldl (λ(x:BT×Nat)o=>(x.1.ins x.2 o,x.2+1)) (BT.nil,0)).1
noncomputable def T0(w:World)(os:bI):SharedT:=⟨mkT (boot_heap w.params).objs.toList,11,(boot_heap w.params).life,⟨[]⟩,boot_drawn,boot_toks,os⟩
theorem EK(w:World)(os:bI):(T0 w os).abs=⟨boot_heap w.params,⟨[]⟩,boot_drawn,boot_toks,os⟩:=by kernel_rfl
theorem sz(w:World):((boot_heap w.params).isNs bc&&((⟨[]⟩:Array GenState).size==0),(boot_heap w.params).objs.size,(boot_heap w.params).nsMap bc "__annotations__")=(true,11,some (.ref 6)):=by kernel_rfl
noncomputable def go(p:Program)(n:Nat)(w:World)(os:bI):Option SharedT:=runG through (PySem.W.Fast.tw6613529449190102663 11 (some (.ref 6))) (PySem.W.Fast.tw10156331382660048174 (PySem.W.Fast.tw11892475500146522536 PySem.W.Fast.tw14364793385576792824) p w) n (T0 w os) (topStub p)
theorem go_eq(p:Program)(n:Nat)(w:World)(os:bI):go p n w os=runG through (stepOk 11 (some (.ref 6))) (stepT (denote treeTable) p w) n (T0 w os) (topStub p):=by unfold go;rw[PySem.W.Fast.te6613529449190102663,PySem.W.Fast.te10156331382660048174,PySem.W.Fast.te11892475500146522536,PySem.W.Fast.te14364793385576792824]
noncomputable def chk(p:Program)(w:World)(s:ag):Bool:=staticsOk (importedModules p.main.body) (boot_heap w.params) s.heap&&namesBound p s.heap&&gensDone s&&laidKept (boot_heap w.params) s.heap
noncomputable def lk(p:Program){α:Type}(F:ag->α)(n:Nat)(w:World)(os:bI):Option α:=@Option.rec SharedT (λ_=>Option α) none (λr=>some (F r.abs)) (go p n w os)
noncomputable abbrev lkS(p q:Program)(loose:List Str)(Xt:ag->Bool)(n:Nat)(w:World)(os:bI):=lk p (λs=>(chk p w s,aQ q loose (aP p.main.body) Xt true s)) n w os
theorem left{p q:Program}{loose:List Str}{Xt:ag->Bool}{α:Type}{Yf:ag->α}{Ya:World->α}{N:Nat}(row:String)(e1:opening p=plainProg p.main.scope.names)(e2:Nat.ble 600 N=true)(e3:∀s:ag,fenceModules? p s=some s)(hf:∀(w:World)(os:bI),lkS p q loose Xt N (w.withFollow row false) os=some (true,openGood q loose))(ht:∀(w:World)(os:bI),lkS p q loose Xt N (w.withFollow row true) os=some (true,openGood q loose))(kf:∀(w:World)(os:bI),lk p Yf N (w.withFollow row false) os=some (Ya (w.withFollow row false)))(kt:∀(w:World)(os:bI),lk p Yf N (w.withFollow row true) os=some (Ya (w.withFollow row true))):LeftO p q loose Xt Yf Ya N:=λw=>by
 have hw:∀os:bI,lkS p q loose Xt N w os=some (true,openGood q loose):=byRow2 row (P:=λw=>∀os:bI,lkS p q loose Xt N w os=some (true,openGood q loose)) hf ht w;have kw:∀os:bI,lk p Yf N w os=some (Ya w):=byRow2 row (P:=λw=>∀os:bI,lk p Yf N w os=some (Ya w)) kf kt w;obtain⟨⟨h,gs,d,k,os⟩,e,e'⟩:=bY.mp (boot_open e1 e2 e3 w);obtain⟨rfl,rfl,rfl,rfl⟩:h=boot_heap w.params/\gs=⟨[]⟩/\d=boot_drawn/\k=boot_toks:=by simpa using e'
 obtain⟨z1,z2,z3⟩:_/\_/\_:=by simpa only[fB]using sz w
 have hl:=hw os;have kl:=kw os;unfold lkS lk at hl;unfold lk at kl;rw[<-PySem.W.Fast.te4187177175401517315,<-PySem.W.Fast.te5923862056798008813]at hl;cases hg:go p N w os with
|none=>rw[hg]at hl;cases hl
|some r=>
  rw[hg]at hl kl;have hl':(chk p w r.abs,openSeen q loose (importedModules p.main.body) Xt true r.abs)=(true,openGood q loose):=aB hl;have kl':Yf r.abs=Ya w:=aB kl;obtain⟨l1,l2⟩:=Prod.mk.inj hl';rw[go_eq]at hg;have hr:=Qb hg;rw[EK]at hr;have t:topFrom treeTable p w N ⟨boot_heap w.params,⟨[]⟩,boot_drawn,boot_toks,os⟩=some r.abs:=by
   unfold topFrom;dsimp only;rw[z1,z2,z3,hr];show(match chk p w r.abs with|true=>some r.abs|false=>none)=_
   rw[l1]
  unfold openEnds;rw[e];show(topFrom treeTable p w N _).map _=_;rw[t];exact congrArg some (Prod.ext l2 kl')
end RG
set_option Elab.async false
set_option linter.all false
set_option maxRecDepth 100000
set_option maxHeartbeats 4000000
namespace RG
open PySem PySem.W PyProof.Rows
noncomputable def tp(i:Nat):Stmt:=ab.main.body.getD i (.Pass ⟨0,0,0,0⟩)
noncomputable def QV:Program:={ab with main:={ab.main with body:=[tp 0,tp 2,tp 3,tp 4,tp 5,tp 7,tp 8,tp 9,tp 10,tp 11,tp 12,tp 13,tp 14,tp 15,tp 16,tp 18,tp 19,tp 20,tp 21,tp 22,tp 23,tp 24,tp 26,tp 28,tp 29,tp 30,tp 31,tp 32,tp 33,tp 34,tp 35,tp 36,tp 38,tp 39,tp 40,tp 41,tp 42,tp 43,tp 44,tp 45,tp 46,tp 47,tp 48,tp 49,tp 50,tp 51,tp 52,tp 53,tp 55,tp 56,tp 57,tp 58,tp 59,tp 60,tp 61,tp 62,tp 63,tp 64,tp 65,tp 66,tp 67,tp 68,tp 69,tp 70,tp 71,tp 72,tp 73]}}
noncomputable abbrev LO:List Str:=["MOST_ROWS","ROW_SIZES"]
noncomputable abbrev XT:ag->Bool:=λs=>xlAt QV [] s&&recOk (RowW.records (OpenRow.toRowW (bG.row))) s
noncomputable def p1{α β:Type}(x:α×β):α:=@Prod.rec α β (λ_=>α) (λa _=>a) x
noncomputable def p2{α β:Type}(x:α×β):β:=@Prod.rec α β (λ_=>β) (λ_ b=>b) x
theorem u5(w:World)(os:bI):lk ab (λs=>p1 (p2 (p2 (p2 (p2 (p2 (aQ QV LO (aP ab.main.body) XT true s))))))) 14000 (w.withFollow "special-get-raises" false) os=some ((openGood QV LO).2.2.2.2.2.1):=by kernel_rfl
theorem u2(w:World)(os:bI):lk ab (λs=>p1 (p2 (p2 (aQ QV LO (aP ab.main.body) XT true s)))) 14000 (w.withFollow "special-get-raises" false) os=some ((openGood QV LO).2.2.1):=by kernel_rfl
theorem u0(w:World)(os:bI):lk ab (λs=>p1 (aQ QV LO (aP ab.main.body) XT true s)) 14000 (w.withFollow "special-get-raises" false) os=some ((openGood QV LO).1):=by kernel_rfl
theorem u3(w:World)(os:bI):lk ab (λs=>p1 (p2 (p2 (p2 (aQ QV LO (aP ab.main.body) XT true s))))) 14000 (w.withFollow "special-get-raises" false) os=some ((openGood QV LO).2.2.2.1):=by kernel_rfl
theorem u7(w:World)(os:bI):lk ab (λs=>p1 (p2 (p2 (p2 (p2 (p2 (p2 (p2 (aQ QV LO (aP ab.main.body) XT true s))))))))) 14000 (w.withFollow "special-get-raises" false) os=some ((openGood QV LO).2.2.2.2.2.2.2.1):=by kernel_rfl
theorem uA(w:World)(os:bI):lk ab (λs=>(p1 (p2 (p2 (p2 (p2 (aQ QV LO (aP ab.main.body) XT true s))))),p1 (p2 (p2 (p2 (p2 (p2 (p2 (aQ QV LO (aP ab.main.body) XT true s))))))),p2 (p2 (p2 (p2 (p2 (p2 (p2 (p2 (aQ QV LO (aP ab.main.body) XT true s)))))))))) 14000 (w.withFollow "special-get-raises" false) os=some (((openGood QV LO).2.2.2.2.1,(openGood QV LO).2.2.2.2.2.2.1,(openGood QV LO).2.2.2.2.2.2.2.2)):=by kernel_rfl
theorem uB(w:World)(os:bI):lk ab (λs=>(chk ab (w.withFollow "special-get-raises" false) s,p1 (p2 (aQ QV LO (aP ab.main.body) XT true s)))) 14000 (w.withFollow "special-get-raises" false) os=some ((true,(openGood QV LO).2.1)):=by kernel_rfl
theorem gE(w:World)(os:bI):go ab 14000 (w.withFollow "special-get-raises" true) os=go ab 14000 (w.withFollow "special-get-raises" false) os:=by kernel_rfl
theorem nine{A B C D E F G H I:Type}(x y:A×B×C×D×E×F×G×H×I)(h0:p1 x=y.1)(h1:p1 (p2 x)=y.2.1)(h2:p1 (p2 (p2 x))=y.2.2.1)(h3:p1 (p2 (p2 (p2 x)))=y.2.2.2.1)(h4:p1 (p2 (p2 (p2 (p2 x))))=y.2.2.2.2.1)(h5:p1 (p2 (p2 (p2 (p2 (p2 x)))))=y.2.2.2.2.2.1)(h6:p1 (p2 (p2 (p2 (p2 (p2 (p2 x))))))=y.2.2.2.2.2.2.1)(h7:p1 (p2 (p2 (p2 (p2 (p2 (p2 (p2 x)))))))=y.2.2.2.2.2.2.2.1)(h8:p2 (p2 (p2 (p2 (p2 (p2 (p2 (p2 x)))))))=y.2.2.2.2.2.2.2.2):x=y:=by obtain⟨a,b,c,d,e,f,g,h,i⟩:=x;obtain⟨a',b',c',d',e',f',g',h',i'⟩:=y;obtain rfl:a=a':=h0;obtain rfl:b=b':=h1;obtain rfl:c=c':=h2;obtain rfl:d=d':=h3;obtain rfl:e=e':=h4;obtain rfl:f=f':=h5;obtain rfl:g=g':=h6;obtain rfl:h=h':=h7;obtain rfl:i=i':=h8;rfl
section
variable {p:Program}{n:Nat}{w:World}{os:bI}{α β:Type}
theorem DK{F:ag->α}{G:ag->β}{x:α}{y:β}(h1:lk p F n w os=some x)(h2:lk p G n w os=some y):lk p (λs=>(F s,G s)) n w os=some (x,y):=by
 unfold lk at h1 h2 ⊢;cases hg:go p n w os with
|none=>rw[hg]at h1;cases h1
|some r=>rw[hg]at h1 h2;exact congrArg some (congr (congrArg Prod.mk (aB h1)) (aB h2))
theorem Rn{F:ag->α}{G:ag->β}{x:α}{y:β}(h:lk p (λs=>(F s,G s)) n w os=some (x,y)):lk p F n w os=some x:=by
 unfold lk at h ⊢;cases hg:go p n w os with
|none=>rw[hg]at h;cases h
|some r=>rw[hg]at h;exact congrArg some (Prod.mk.inj (aB h)).1
theorem Pr{F:ag->α}{G:ag->β}{x:α}{y:β}(h:lk p (λs=>(F s,G s)) n w os=some (x,y)):lk p G n w os=some y:=by
 unfold lk at h ⊢;cases hg:go p n w os with
|none=>rw[hg]at h;cases h
|some r=>rw[hg]at h;exact congrArg some (Prod.mk.inj (aB h)).2
theorem DL{A B C D E F G H I:Type}{X:ag->A×B×C×D×E×F×G×H×I}{y:A×B×C×D×E×F×G×H×I}(h0:lk p (λs=>p1 (X s)) n w os=some y.1)(h1:lk p (λs=>p1 (p2 (X s))) n w os=some y.2.1)(h2:lk p (λs=>p1 (p2 (p2 (X s)))) n w os=some y.2.2.1)(h3:lk p (λs=>p1 (p2 (p2 (p2 (X s))))) n w os=some y.2.2.2.1)(h4:lk p (λs=>p1 (p2 (p2 (p2 (p2 (X s)))))) n w os=some y.2.2.2.2.1)(h5:lk p (λs=>p1 (p2 (p2 (p2 (p2 (p2 (X s))))))) n w os=some y.2.2.2.2.2.1)(h6:lk p (λs=>p1 (p2 (p2 (p2 (p2 (p2 (p2 (X s)))))))) n w os=some y.2.2.2.2.2.2.1)(h7:lk p (λs=>p1 (p2 (p2 (p2 (p2 (p2 (p2 (p2 (X s))))))))) n w os=some y.2.2.2.2.2.2.2.1)(h8:lk p (λs=>p2 (p2 (p2 (p2 (p2 (p2 (p2 (p2 (X s))))))))) n w os=some y.2.2.2.2.2.2.2.2):lk p X n w os=some y:=by
 unfold lk at *;cases hg:go p n w os with
|none=>rw[hg]at h0;cases h0
|some r=>rw[hg]at h0 h1 h2 h3 h4 h5 h6 h7 h8;exact congrArg some (nine _ _ (aB h0) (aB h1) (aB h2) (aB h3) (aB h4) (aB h5) (aB h6) (aB h7) (aB h8))
end
theorem lg(w:World)(os:bI):lk ab (λs=>aQ QV LO (aP ab.main.body) XT true s) 14000 (w.withFollow "special-get-raises" false) os=some (openGood QV LO):=DL (u0 w os) (Pr (uB w os)) (u2 w os) (u3 w os) (Rn (uA w os)) (u5 w os) (Rn (Pr (uA w os))) (u7 w os) (Pr (Pr (uA w os)))
theorem lf(w:World)(os:bI):lkS ab QV LO XT 14000 (w.withFollow "special-get-raises" false) os=some (true,openGood QV LO):=DK (Rn (uB w os)) (lg w os)
theorem HP{p:Program}{n:Nat}{w w':World}{os:bI}{α:Type}{F:ag->α}(h:go p n w os=go p n w' os):lk p F n w os=lk p F n w' os:=by unfold lk;rw[h]
theorem lkE{α:Type}(F:ag->α)(w:World)(os:bI):lk ab F 14000 (w.withFollow "special-get-raises" true) os=lk ab F 14000 (w.withFollow "special-get-raises" false) os:=HP (gE w os)
theorem chkE(w:World):chk ab (w.withFollow "special-get-raises" true)=chk ab (w.withFollow "special-get-raises" false):=rfl
theorem lt(w:World)(os:bI):lkS ab QV LO XT 14000 (w.withFollow "special-get-raises" true) os=some (true,openGood QV LO):=by have h:=lf w os;unfold lkS at h ⊢;rw[lkE,chkE];exact h
theorem HQ{α:Type}{Yf:ag->α}{Ya:World->α}(e1:opening ab=plainProg ab.main.scope.names)(e3:∀s:ag,fenceModules? ab s=some s)(kf:∀(w:World)(os:bI),lk ab Yf 14000 (w.withFollow "special-get-raises" false) os=some (Ya (w.withFollow "special-get-raises" false)))(hv:∀w:World,Ya (w.withFollow "special-get-raises" true)=Ya (w.withFollow "special-get-raises" false)):LeftO ab QV LO XT Yf Ya 14000:=left "special-get-raises" e1 (by decide) e3 lf lt kf λw os=>by rw[lkE,kf w os,hv w]
end RG
section
open PySem PySem.W PyProof.Rows
set_option hygiene false in
local macro_rules
|`(tactic| o_head $H)=>`(tactic| (have HH:=$H;exact z.elim))
set_option maxRecDepth 100000 in
set_option maxHeartbeats 0 in
theorem RG.hk(z:False):bG.Holds:=by w_on;o_law;k_head
end
namespace RG
open PySem PySem.W PyProof.Rows
noncomputable def AS:List Addr:=[2,3,15,17,18,20,21,22,29,30,31,32,35,42,44,45,47,48,49,50,51,54,61,63,64,66,67,68,69,70,73,80,82,83,85,86,87,88,89,92,94,95,97,98,99,101,102,104,105,106,109,110,111,113,114,116,117,118,120,121,123,124,132,134,135,137,138,139,141,142,144,145,146,148,149,151,152,153,155,156,158,159,160,162,163,165,166,167,169,170,172,173,174,175,176,177,178,181,188,190,191,193,194,195,196,197,200,207,209,210,212,213,214,215,216,219,226,228,229,231,232,233,234,235,238,241,242,243,246,247,248,251,252,253,255,256,258,259,260,262,263,265,266,267,269,270,272,273,274,276,277,279,280,281,284,285,286,289,290,291,294,295,296,299,300,301,304,305,306,308,309,311,312,313,314,315,317,318,320,321,322,324,325,327,328,329,331,332,334,335,336,338,339,341,342,343,345,346,348,349,350,352,353,355,356,357,359,360,362,363,364,366,367,369,370,371,373,374,376,377,385,387,388,390,391,392,394,395,397,398,399,401,402,404,405,406,408,409,411,412,413,415,416,418,419,420,422,423,425,426,427,429,430,432,433,434,436,437,439,440,441,443,444,446,447,448,450,451,453,454,455,457,458,460,461,462,464,465,467,468,469,471,472,474,475,476,478,479,481,482,483,485,486,488,489,490,492,493,495,496,497,500,501,502,504,505,507,508,509,511,512,514,515,516,518,519,521,522,523,525,526,528,529,530,532,533,535,536,537,539,540,542,543,544,546,547,549,550,551,553,554,556,557,558,559,560,561,562,565,567,568,570,571,572,574,575,577,578,579,581,582,584,585,586,589,590,591,593,594,596,597,598,600,601,603,604,605,607,608,610,611,612,614,615,617,618,619,622,623,624,626,627,629,630,631,633,634,636,637,638,640,641,643,644,645,648,649,650,653,654,655,657,658,660,661,662,665,666,667,670,671,672,674,675,677,678,679,682,683]
theorem eK(P:Params):AS=(RG.hk.heap_39 P).map (·.1):=by kernel_rfl
theorem kfE(w:World)(os:bI):lk ab (λs=>AS.map s.heap.get?) 14000 (w.withFollow "special-get-raises" false) os=some ((RG.hk.heap_39 (w.withFollow "special-get-raises" false).params).map λp=>some p.2):=by kernel_rfl
end RG
namespace L2
open PySem PySem.Spec PyProof.Rows
noncomputable abbrev Key:=Sum Int Str
noncomputable def MR:Key->Value->Bool
|.inl k,v=>Value.isInt k v
|.inr x,v=>Value.isStrOf x v
noncomputable def keyH(w:World):Key->Int
|.inl k=>hashInt k
|.inr x=>hashStr w x
theorem ZR:∀{k:Key}{v:Value},MR k v=true->(∃i t,k=fI i/\v=Value.int i t)\/(∃x t,k=cA x/\v=Value.str x t)
|.inl i,v,h=>by obtain⟨t,e⟩:=Value.isInt_shape (k:=i) (v:=v) h;exact .inl ⟨i,t,rfl,e⟩
|.inr x,v,h=>by obtain⟨t,e⟩:=Value.isStrOf_shape (x:=x) (v:=v) h;exact .inr ⟨x,t,rfl,e⟩
theorem Wa(i:Int)(t:Tok):MR (.inl i) (.int i t)=true:=by simp[MR,Value.isInt]
theorem T9(x:Str)(t:Tok):MR (.inr x) (.str x t)=true:=by simp[MR,Value.isStrOf]
theorem FQ(a b:Int):decide ((fI a:Key)=fI b)=(a==b):=by
 by_cases e:a=b
 ·subst e;simp
 ·have h:¬(fI a:Key)=fI b:=λq=>e (Sum.inl.inj q);rw[decide_eq_false h];exact(beq_eq_false_iff_ne.mpr e).symm
theorem FN(a b:Str):decide ((cA a:Key)=cA b)=decide (a=b):=by
 by_cases e:a=b
 ·subst e;simp
 ·have h:¬(cA a:Key)=cA b:=λq=>e (Sum.inr.inj q);rw[decide_eq_false h,decide_eq_false e]
theorem FP(a:Int)(b:Str):decide ((fI a:Key)=cA b)=false:=decide_eq_false (λq=>nomatch q)
theorem FO(a:Str)(b:Int):decide ((cA a:Key)=fI b)=false:=decide_eq_false (λq=>nomatch q)
noncomputable def ZI(prog:Program)(w:World):PySem.KeyKind prog w Key where
 is:=MR
 hash:=keyH w
 inj:=λv a b ha hb=>by
  rcases ZR ha with⟨i,t,rfl,rfl⟩|⟨x,t,rfl,rfl⟩
  ·rcases ZR hb with⟨j,u,rfl,e⟩|⟨y,u,rfl,e⟩
   ·injection e with e1 _;rw[e1]
   ·exact nomatch e
  ·rcases ZR hb with⟨j,u,rfl,e⟩|⟨y,u,rfl,e⟩
   ·exact nomatch e
   ·injection e with e1 _;rw[e1]
 byValue:=λk v h=>by rcases ZR h with⟨i,t,rfl,rfl⟩|⟨x,t,rfl,rfl⟩<;>rfl
 pyHash:=λhv h=>by
  rcases ZR hv with⟨i,t,rfl,rfl⟩|⟨x,t,rfl,rfl⟩
  ·exact wpAny_pyHash_int h
  ·exact wpAny_pyHash_str h
 eqBool:=λhu hv h=>by
  rcases ZR hu with⟨i,t,rfl,rfl⟩|⟨x,t,rfl,rfl⟩
  ·rcases ZR hv with⟨j,u,rfl,rfl⟩|⟨y,u,rfl,rfl⟩
   ·rw[FQ]at h;exact wpAny_eqBool_int h
   ·rw[FP]at h;exact SeqAt.EqAt.int_str i t y u _ _ _ _ h
  ·rcases ZR hv with⟨j,u,rfl,rfl⟩|⟨y,u,rfl,rfl⟩
   ·rw[FO]at h;exact SeqAt.EqAt.str_int x t j u _ _ _ _ h
   ·rw[FN]at h;exact wpAny_eqBool_str h
 «strs»:=λk x t v h=>by
  rcases ZR h with⟨i,u,rfl,e⟩|⟨y,u,rfl,e⟩
  ·exact nomatch e
  ·injection e with e1 _
   subst e1
   cases v<;>rfl
theorem Qo(prog:Program)(w:World)(i:Int)(t:Tok):(ZI prog w).is (.inl i) (.int i t)=true:=Wa i t
theorem Qn(prog:Program)(w:World)(x:Str)(t:Tok):(ZI prog w).is (.inr x) (.str x t)=true:=T9 x t
open PySem PySem.Spec PyProof.Rows
inductive V where
|non|bl (b:Bool)|int (i:Int)|str (x:Str)|byt (b:Array UInt8)|flt (b:UInt64)|ref (a:Addr)|ty (n:String)
 deriving DecidableEq
noncomputable def RelV:V->Value->Prop
|.non,u=>u=Value.none
|.bl b,u=>u=Value.bool b
|.int i,u=>∃t,u=Value.int i t
|.str x,u=>∃t,u=Value.str x t
|.byt b,u=>∃t,u=Value.bytes b t
|.flt b,u=>∃t,u=Value.float b t
|.ref a,u=>u=Value.ref a
|.ty n,u=>u=Value.type n
noncomputable abbrev Vals:List V->List Value->Prop:=bo RelV
theorem Vals.length{xs:List V}{us:List Value}(r:Vals xs us):xs.length=us.length:=aL r
theorem Vals.get:∀{xs:List V}{us:List Value}{i:Nat}{x:V},Vals xs us->xs[i]?=some x->∃u,us[i]?=some u/\RelV x u
|_,_,_,_,.nil,e=>by simp at e
|_,_,0,_,.cons r _,e=>by simp at e;subst e;exact⟨_,rfl,r⟩
|_,_,i+1,x,.cons _ t,e=>by obtain⟨u,h1,h2⟩:=Vals.get (i:=i) (x:=x) t (by simpa using e);exact⟨u,by simpa using h1,h2⟩
theorem Vals.set{x:V}{u:Value}(r:RelV x u):∀{xs:List V}{us:List Value}(i:Nat),Vals xs us->Vals (xs.set i x) (us.set i u)
|_,_,_,.nil=>.nil
|_,_,0,.cons _ t=>.cons r t
|_,_,i+1,.cons q t=>.cons q (Vals.set r i t)
theorem Vals.append:∀{xs ys:List V}{us ws:List Value},Vals xs us->Vals ys ws->Vals (xs++ys) (us++ws)
|_,_,_,_,.nil,s=>s
|_,_,_,_,.cons r t,s=>.cons r (Vals.append t s)
theorem Vals.take:∀{xs:List V}{us:List Value}(n:Nat),Vals xs us->Vals (xs.take n) (us.take n)
|_,_,0,_=>.nil
|_,_,_+1,.nil=>.nil
|_,_,n+1,.cons r t=>.cons r (Vals.take n t)
theorem Vals.drop:∀{xs:List V}{us:List Value}(n:Nat),Vals xs us->Vals (xs.drop n) (us.drop n)
|_,_,0,r=>r
|_,_,_+1,.nil=>.nil
|_,_,n+1,.cons _ t=>Vals.drop n t
noncomputable def RelO:Option V->Option Value->Prop
|some v,some u=>RelV v u
|none,none=>True
|_,_=>False
noncomputable def KV{κ:Type}:List (κ×V)->List (κ×Value)->Prop:=bo λ(p:κ×V)(q:κ×Value)=>p.1=q.1/\RelV p.2 q.2
noncomputable def kV:Key->V
|.inl i=>.int i
|.inr x=>.str x
inductive HO where
|lst (xs:List V)
|tup (xs:List V)
|dK (kvs:List (Key×V))|dT (kvs:List (List Key×V))
|set (S:Int->Bool) (n:Nat)
|ins (C dx:Addr) (fs:List (Str×V))
|own (x:Addr)
|xd (fs:List (Str×V))
|met (f x:Addr)
|rng (lo hi:Int)
|frz (o:Obj) (u:HO)
|tbl (ps:Array Value)
|ext (φ:Heap->Prop)
noncomputable abbrev Hp:=Addr->Option HO
noncomputable def upd(H:Hp)(a:Addr)(o:HO):Hp:=λb=>if b=a then some o else H b
theorem Zf{H:Hp}{a:Addr}{o:HO}:upd H a o a=some o:=by unfold upd;rw[if_pos rfl]
theorem Zj{H:Hp}{a b:Addr}{o:HO}(h:b≠a):upd H a o b=H b:=by unfold upd;rw[if_neg h]
theorem L7{H:Hp}{a:Addr}{o u:HO}:upd (upd H a o) a u=upd H a u:=by funext b;unfold upd;split<;>rfl
theorem ne_of{H:Hp}{a b:Addr}{o u:HO}(h:H a=some o)(h':H b=some u)(d:o≠u):a≠b:=by intro e;subst e;rw[h]at h';exact d (aB h')
theorem Zi{H:Hp}{a b:Addr}{o:HO}(h:H a=some o)(h':H b=none):a≠b:=by intro e;subst e;rw[h]at h';cases h'
section
variable (P:Program)(w:World)
noncomputable def Z4(H:Hp)(h:Heap)(a:Addr):HO->Prop
|.lst xs=>xs.length<=sizeLine/\∃(its:List Value)(n:Nat),Vals xs its/\h.get? a=some {cls:=.type "list",data:=.seq its.toArray n}
|.tup xs=>xs.length<=sizeLine/\∃its:List Value,Vals xs its/\IsTup h a its.toArray
|.dK kvs=>kvs.length<=sizeLine/\(a==sysModules)=false/\∃vs,KV kvs vs/\h.DictOf (ZI P w) a vs
|.dT kvs=>kvs.length<=sizeLine/\(a==sysModules)=false/\∃xs:List (List Key×Addr×Value),bo (λ(p:List Key×V)(q:List Key×Addr×Value)=>p.1=q.1/\H q.2.1=some (.tup (p.1.map kV))/\RelV p.2 q.2.2) kvs xs /\∃o es ep,h.get? a=some o/\o.ExactDict/\o.data=.dict es ep/\es.toList=xs.map (entryOfKey (ck (ZI P w)))/\(xs.map (·.1)).Nodup
|.set S n=>h.SetOf (intKind P w) a S n
|.ins C dx fs=>H dx=some (.own a)/\fs.length<=1000/\dx≠a/\h.get? a=some (cj C dx) /\∃mA,h.Ns1 dx mA/\(∀f,RelO (fs.lookup f) (mA f))/\PySem.Within mA (fs.map (·.1))
|.own _=>∃o,h.get? a=some o
|.xd fs=>∃mA,h.Ns1 a mA/\∀f,RelO (fs.lookup f) (mA f)
|.rng lo hi=>∃t u v,h.get? a=some {cls:=.type "range",data:=.fields #[.int lo t,.int hi u,.int 1 v]}
|.frz o u=>h.get? a=some o/\Z4 H h a u
|.tbl ps=>h.get? a=some {cls:=.none,data:=.fields ps}
|.met f x=>h.get? a=some (fU (.ref f) (.ref x))
|.ext φ=>φ h/\(∃o,h.get? a=some o)/\∀h1 h2:Heap,φ h1->(∀o,h1.get? a=some o->h2.get? a=some o)->φ h2
def HOk(H:Hp)(h:Heap):Prop:=∀a o,H a=some o->Z4 P w H h a o
end
section
variable {P:Program}{w:World}{H H':Hp}{h h':Heap}{a:Addr}{o:HO}
theorem Z4.lt(x:Z4 P w H h a o):a<h.objs.size:=by
 cases o with
|lst xs=>obtain⟨_,_,_,_,e⟩:=x;exact Heap.lt_size e
|tup xs=>obtain⟨_,_,_,p⟩:=x;exact p.lt
|dK kvs=>obtain⟨_,_,_,_,o,_,_,e,_⟩:=x;exact Heap.lt_size e
|dT kvs=>obtain⟨_,_,_,_,o,_,_,e,_⟩:=x;exact Heap.lt_size e
|set S n=>obtain⟨o,_,_,_,e,_⟩:=x;exact Heap.lt_size e
|ins C dx fs=>obtain⟨_,_,_,e,_⟩:=x;exact Heap.lt_size e
|own y=>obtain⟨_,e⟩:=x;exact Heap.lt_size e
|xd fs=>obtain⟨_,⟨_,_,_,e,_⟩,_⟩:=x;exact Heap.lt_size e
|rng lo hi=>obtain⟨_,_,_,e⟩:=x;exact Heap.lt_size e
|frz ob u=>obtain⟨e,_⟩:=x;exact Heap.lt_size e
|tbl ps=>exact Heap.lt_size (show h.get? a=some _ from x)
|met f y=>exact Heap.lt_size (show h.get? a=some _ from x)
|ext φ=>obtain⟨_,⟨_,e⟩,_⟩:=x;exact Heap.lt_size e
theorem Paired.mapP{α β:Type}{F G:α->β->Prop}:∀{l₁:List α}{l₂:List β},bo F l₁ l₂->(∀a b,F a b->G a b)->bo G l₁ l₂
|_,_,.nil,_=>.nil
|_,_,.cons r t,f=>.cons (f _ _ r) (Paired.mapP t f)
theorem Z4.stay(x:Z4 P w H h a o)(k:∀b u,(b=a\/H b=some (.own a))->h.get? b=some u->h'.get? b=some u)(ho:∀b,H b=some (.own a)->H' b=some (.own a))(ht:∀b xs,H b=some (.tup xs)->H' b=some (.tup xs)):Z4 P w H' h' a o:=by
 induction o with
|lst xs=>obtain⟨z,its,n,r,e⟩:=x;exact⟨z,its,n,r,k _ _ (.inl rfl) e⟩
|tup xs=>obtain⟨z,its,r,ob,e,c⟩:=x;exact⟨z,its,r,ob,k _ _ (.inl rfl) e,c⟩
|dK kvs=>obtain⟨z,y,vs,r,ob,es,ep,e,c⟩:=x;exact⟨z,y,vs,r,ob,es,ep,k _ _ (.inl rfl) e,c⟩
|dT kvs=>obtain⟨z,y,xs,r,ob,es,ep,e,c⟩:=x;exact⟨z,y,xs,Paired.mapP r λp q z=>⟨z.1,ht _ _ z.2.1,z.2.2⟩,ob,es,ep,k _ _ (.inl rfl) e,c⟩
|set S n=>obtain⟨ob,es,ep,t,e,c⟩:=x;exact⟨ob,es,ep,t,k _ _ (.inl rfl) e,c⟩
|ins C dx fs=>obtain⟨d,z,ne,e,mA,⟨od,es,ep,e2,c⟩,r⟩:=x;exact⟨ho _ d,z,ne,k _ _ (.inl rfl) e,mA,⟨od,es,ep,k _ _ (.inr d) e2,c⟩,r⟩
|own y=>obtain⟨ob,e⟩:=x;exact⟨ob,k _ _ (.inl rfl) e⟩
|xd fs=>obtain⟨mA,⟨od,es,ep,e,c⟩,r⟩:=x;exact⟨mA,⟨od,es,ep,k _ _ (.inl rfl) e,c⟩,r⟩
|rng lo hi=>obtain⟨t,u,v,e⟩:=x;exact⟨t,u,v,k _ _ (.inl rfl) e⟩
|frz ob u ih=>obtain⟨e,q⟩:=x;exact⟨k _ _ (.inl rfl) e,ih q⟩
|tbl ps=>have e:h.get? a=some {cls:=.none,data:=.fields ps}:=x;show h'.get? a=some {cls:=.none,data:=.fields ps};exact k a _ (.inl rfl) e
|met f y=>have e:h.get? a=some (fU (.ref f) (.ref y)):=x;show h'.get? a=some (fU (.ref f) (.ref y));exact k a _ (.inl rfl) e
|ext φ=>obtain⟨p,⟨o,e⟩,st⟩:=x;exact⟨st _ _ p λo q=>k _ _ (.inl rfl) q,⟨o,k _ _ (.inl rfl) e⟩,st⟩
theorem HOk.lt(x:HOk P w H h)(e:H a=some o):a<h.objs.size:=(x a o e).lt
theorem HOk.fresh(x:HOk P w H h)(e:h.objs.size<=a):H a=none:=by
 cases q:H a with
|none=>rfl
|some u=>exact absurd (Nat.lt_of_lt_of_le (x.lt q) e) (Nat.lt_irrefl _)
theorem HOk.kept(x:HOk P w H h)(k:∀b u,h.get? b=some u->h'.get? b=some u):HOk P w H h':=λa o e=>(x a o e).stay (λb u _ q=>k b u q) (λ_ q=>q) λ_ _ q=>q
theorem HOk.laid(x:HOk P w H h)(k:∀b u,h.get? b=some u->h'.get? b=some u)(hp:h.objs.size<=a)(new:Z4 P w (upd H a o) h' a o):HOk P w (upd H a o) h':=λb u e=>by
 have hn:=x.fresh hp;by_cases hb:b=a
 ·subst hb;rw[Zf]at e;cases e;exact new
 ·rw[Zj hb]at e;exact(x b u e).stay (λc v _ q=>k c v q) (λc q=>by rw[Zj (Zi q hn)];exact q) λc xs q=>by rw[Zj (Zi q hn)];exact q
end
def Rd(H:Hp)(a:Addr)(u:HO):Prop:=H a=some u\/∃o,H a=some (.frz o u)
theorem Rd.ok{P:Program}{w:World}{H:Hp}{h:Heap}{a:Addr}{u:HO}(r:Rd H a u)(x:HOk P w H h):Z4 P w H h a u:=by
 rcases r with r|⟨o,r⟩
 ·exact x a u r
 ·obtain⟨_,q⟩:=x a _ r;exact q
noncomputable def Mut:Option HO->Prop
|some (.lst _)=>True
|some (.dK _)=>True
|some (.dT _)=>True
|some (.set _ _)=>True
|some (.ins _ _ _)=>True
|some (.ext _)=>True
|_=>False
section
variable {P:Program}{w:World}{H:Hp}{h h':Heap}{x e:Addr}{o':HO}
theorem HOk.write(ok:HOk P w H h)(mu:Mut (H x))(he:e=x\/H e=some (.own x))(k:∀b u,b≠e->h.get? b=some u->h'.get? b=some u)(heo:∃u,h'.get? e=some u)(new:Z4 P w (upd H x o') h' x o'):HOk P w (upd H x o') h':=λb u q=>by
 have nown:∀c y,H c=some (.own y)->c≠x:=λc y r z=>by subst z;rw[r]at mu;exact mu
 have ntup:∀c xs,H c=some (.tup xs)->c≠x:=λc xs r z=>by subst z;rw[r]at mu;exact mu
 by_cases hb:b=x
 ·subst hb;rw[Zf]at q;cases q;exact new
 ·rw[Zj hb]at q;by_cases hbe:b=e
  ·have q':H b=some (.own x):=by
    rcases he with z|z
    ·exact absurd (hbe.trans z) hb
    ·rw[hbe];exact z
   rw[q]at q';cases q';obtain⟨v,hv⟩:=heo;exact⟨v,by rw[hbe];exact hv⟩
  ·refine(ok b u q).stay (λc v hc r=>k c v ?_ r) (λc r=>by rw[Zj (nown c b r)];exact r) λc xs r=>by rw[Zj (ntup c xs r)];exact r
   rcases hc with rfl|hc
   ·exact hbe
   ·rintro rfl;rcases he with z|z
    ·exact nown c b hc z
    ·rw[hc]at z;cases z;exact hb rfl
end
structure Un(fs ex:List Addr)(H H':Hp)(h h':Heap):Prop where
 keep:∀b o,h.get? b=some o->H b=none->b∉fs->b∉ex->h'.get? b=some o
 slot:∀b o,h.get? b=some o->H b=none->b∈fs->b∉ex->∃sl,h'.get? b=some {o with slots:=sl}
 free:∀b o,h.get? b=some o->H b=none->b∉ex->H' b=none
 there:∀b o,h.get? b=some o->b∉ex->∃o',h'.get? b=some o'
 tups:∀b xs,H b=some (.tup xs)->H' b=some (.tup xs)
 frzs:∀b o u,H b=some (.frz o u)->H' b=some (.frz o u)
 tbls:∀b ps,H b=some (.tbl ps)->∃more,H' b=some (.tbl (ps++more))
section
variable {fs fs' ex ex':List Addr}{H H1 H2:Hp}{h h1 h2 h':Heap}{a x e:Addr}{o:HO}
theorem Un.any(u:Un fs ex H H1 h h1){b:Addr}{ob:Obj}(q:h.get? b=some ob)(n:H b=none)(hx:b∉ex):∃sl,h1.get? b=some {ob with slots:=sl}:=by
 by_cases hb:b∈fs
 ·exact u.slot b ob q n hb hx
 ·exact⟨ob.slots,u.keep b ob q n hb hx⟩
theorem Un.kept(k:∀b u,h.get? b=some u->h'.get? b=some u):Un fs ex H H h h':=⟨λb ob q _ _ _=>k b ob q,λb ob q _ _ _=>⟨ob.slots,k b ob q⟩,λ_ _ _ n _=>n,λb ob q _=>⟨ob,k b ob q⟩,λ_ _ q=>q,λ_ _ _ q=>q,λ_ ps q=>⟨#[],by rw[q];simp⟩⟩
theorem Un.refl:Un fs ex H H h h:=Un.kept λ_ _ q=>q
theorem Un.laid(k:∀b u,h.get? b=some u->h'.get? b=some u)(hp:h.objs.size<=a)(hn:H a=none):Un fs ex H (upd H a o) h h' where
 keep:=λb u q _ _ _=>k b u q
 slot:=λb u q _ _ _=>⟨u.slots,k b u q⟩
 free:=λb u q n _=>by rw[Zj (Nat.ne_of_lt (Nat.lt_of_lt_of_le (Heap.lt_size q) hp))];exact n
 there:=λb u q _=>⟨u,k b u q⟩
 tups:=λb xs q=>by rw[Zj (Zi q hn)];exact q
 frzs:=λb u xs q=>by rw[Zj (Zi q hn)];exact q
 tbls:=λb ps q=>⟨#[],by rw[Zj (Zi q hn),q];simp⟩
theorem Un.write(mu:Mut (H x))(he:e=x\/H e=some (.own x))(k:∀b u,b≠e->h.get? b=some u->h'.get? b=some u)(heo:∃u,h'.get? e=some u):Un fs ex H (upd H x o) h h':=by
 have hx:∀b,H b=none->b≠x:=λb n z=>by subst z;rw[n]at mu;exact mu
 have hb:∀b,H b=none->b≠e:=λb n z=>by
  subst z;rcases he with r|r
  ·exact hx b n r
  ·rw[n]at r;cases r
 have hm:∀b u,H b=some u->¬Mut (some u)->b≠x:=λb u q nm z=>by subst z;rw[q]at mu;exact nm mu
 refine⟨λb u q n _ _=>k b u (hb b n) q,λb u q n _ _=>⟨u.slots,k b u (hb b n) q⟩,λb u q n _=>by rw[Zj (hx b n)];exact n,λb u q _=>?_,
  λb xs q=>by rw[Zj (hm b _ q λz=>z)];exact q,λb u xs q=>by rw[Zj (hm b _ q λz=>z)];exact q,λb ps q=>⟨#[],by rw[Zj (hm b _ q λz=>z),q];simp⟩⟩;by_cases hbe:b=e
 ·subst hbe;exact heo
 ·exact⟨u,k b u hbe q⟩
end
noncomputable def trk(h:Heap)(H:Hp):List Addr:=(aT h.objs.size).filter λa=>(H a).isSome
noncomputable def hidT(h:Heap)(H:Hp):Heap:=PySem.W.hideAll h (trk h H)
theorem We(h:Heap)(H:Hp):(hidT h H).objs.size=h.objs.size:=PySem.W.hideAll_size _ _
theorem Lp{h:Heap}{H:Hp}{b:Addr}{o:Obj}(e:h.get? b=some o)(n:H b=none):(hidT h H).get? b=some o:=PySem.W.hideAll_get _ e λhm=>by have q:(H b).isSome=true:=(a7.mp hm).2;rw[n]at q;simp at q
theorem DA{h:Heap}{H:Hp}{b:Addr}{o:Obj}(e:(hidT h H).get? b=some o):h.get? b=some o/\H b=none:=by
 have e':h.get? b=some o:=PySem.W.of_hideAll (trk h H) e;refine⟨e',?_⟩;cases q:H b with
|none=>rfl
|some x=>have hm:b∈trk h H:=a7.mpr ⟨bj.mpr (Heap.lt_size e'),by simp[q]⟩;have z:(hidT h H).get? b=none:=PySem.W.hideAll_none (trk h H) hm;rw[z]at e;cases e
noncomputable def Ee(g h:Heap)(L:Addr):List (Addr×Obj):=(aT h.objs.size).filterMap λa=>if a=L\/(g.get? a).isSome=true then none else(h.get? a).map λo=>(a,o)
noncomputable def rest(g h:Heap)(L d:Addr):List (Addr×Obj):=(Ee g h L).filter λp=>decide (p.1≠d)
open PySem PySem.Spec PyProof.Rows
structure Mod(K:aa)(mg:Str->Option Value)(base:Heap):Prop where
 kin:K.In base
 glob:base.Ns bc mg
 blt:∃mb,base.Ns builtinsNs mb/\∀x:Str,x≠"__name__"->mb x=bF x
 nolimit:base.NoLimit
structure Cx where
 prog:Program
 w:World
 K:aa
 mg:Str->Option Value
 base:Heap
 A:bz
 N:List Str
 s₀:ag
 H₀:Hp
 env:Env
 outer:List Env
 stack:List Env
 ex:List Addr
 fn:Str->Bool
 calm:Bool
 pn:List (Addr×Obj)
 xe:Value->ag->Prop
noncomputable def frs(l:List Env):List Addr:=l.filterMap (·.frame)
noncomputable abbrev Cx.fs(X:Cx):List Addr:=frs X.outer
def Vis(sc:Scope)(x:Str):Prop:=sc.names.lookup x=some .local\/sc.names.lookup x=some .cell\/sc.names.lookup x=some .free
def Loc(sc:Scope)(x:Str):Prop:=sc.names.lookup x=some .local\/sc.names.lookup x=some .cell
def Look(env:Env)(h:Heap)(m:Str->Option Value)(x:Str)(u:Value):Prop:=(env.kindOf x=some .local/\m x=some u)\/((env.kindOf x=some .cell\/env.kindOf x=some .free)/\∃c,env.cells.lookup x=some c/\h.IsCell c (some u))
structure Cx.Ok(X:Cx):Prop where
 mod:Mod X.K X.mg X.base
 kind:X.env.scope.kind=.function
 glob:X.env.globals=bc
 blt:X.env.builtins=builtinsNs
 above:X.s₀.heap.objs.size<=X.env.locals
 inj:∀x y c,X.env.cells.lookup x=some c->X.env.cells.lookup y=some c->x=y
 has:∀x,(X.env.kindOf x=some .cell\/X.env.kindOf x=some .free)->∃c,X.env.cells.lookup x=some c
 cab:∀x c,X.fn x=true->X.env.cells.lookup x=some c->X.s₀.heap.objs.size<=c
 hd:X.calm=true->X.A.handled=none
 frames:X.A.frames=some X.stack
 stk:X.stack=X.outer\/(X.stack=X.env::X.outer/\X.env.frame=some X.env.locals)
 exf:∀b∈X.ex,b≠X.env.locals/\∀x c,X.env.cells.lookup x=some c->c≠b
 bs:∀b o,X.base.get? b=some o->X.s₀.heap.get? b=some o/\X.H₀ b=none
 bsz:X.base.objs.size<=X.s₀.heap.objs.size
 noex:∀b o,X.base.get? b=some o->b∉X.ex
 exfs:∀b∈X.ex,b∉X.fs
 funs:X.s₀.heap.FunFrames X.base X.outer
 frf:∀b∈X.fs,X.H₀ b=none
structure Inv(X:Cx)(pins:List (Addr×Obj))(σ:List (Option V))(H:Hp)(s:ag):Prop where
 ok:X.Ok
 os:s.os=X.s₀.os
 bare:fH s.gens
 base:Un X.fs X.ex X.H₀ H X.s₀.heap s.heap
 loc:∃m,s.heap.Ns X.env.locals m/\∀(i:Nat)(x:Str)(v:V),X.N[i]?=some x->σ[i]?=some (some v)->Vis X.env.scope x->∃u,RelV v u/\Look X.env s.heap m x u
 cell:∀x c,X.env.cells.lookup x=some c->∃v,s.heap.IsCell c v
 free:H X.env.locals=none
 freeC:∀x c,X.env.cells.lookup x=some c->H c=none
 pin:∀p∈X.pn++pins,s.heap.get? p.1=some p.2/\H p.1=none/\p.1≠X.env.locals/\p.1∉X.fs/\∀v,p.2.data≠.cell v
 hok:HOk X.prog X.w H s.heap
 len:σ.length=X.N.length
section
variable {X:Cx}{pins:List (Addr×Obj)}{σ:List (Option V)}{H H':Hp}{s:ag}{h':Heap}
theorem Cx.Ok.nofr(ok:X.Ok){b:Addr}{o:Obj}(e:X.base.get? b=some o):b∉X.fs:=λhb=>by have:=(ok.funs.mem hb).1;rw[e]at this;cases this
theorem Inv.bs(I:Inv X pins σ H s):∀b o,X.base.get? b=some o->s.heap.get? b=some o/\H b=none:=λb o e=>⟨I.base.keep b o (I.ok.bs b o e).1 (I.ok.bs b o e).2 (I.ok.nofr e) (I.ok.noex b o e),I.base.free b o (I.ok.bs b o e).1 (I.ok.bs b o e).2 (I.ok.noex b o e)⟩
theorem Inv.bk(I:Inv X pins σ H s):∀b o,X.base.get? b=some o->s.heap.get? b=some o:=λb o e=>(I.bs b o e).1
theorem Inv.mod(I:Inv X pins σ H s):Mod X.K X.mg X.base:=I.ok.mod
theorem Inv.kIn(I:Inv X pins σ H s):X.K.In s.heap:=I.ok.mod.kin.keeps I.bk
theorem Inv.lt(I:Inv X pins σ H s):X.env.locals<s.heap.objs.size:=let ⟨_,hn,_⟩:=I.loc;hn.lt
theorem Inv.sz(I:Inv X pins σ H s):X.s₀.heap.objs.size<=s.heap.objs.size:=Nat.le_trans I.ok.above (Nat.le_of_lt I.lt)
theorem Inv.nofs(I:Inv X pins σ H s){a:Addr}(h:s.heap.objs.size<=a):a∉X.fs:=λhb=>by obtain⟨_,o,ho,_⟩:=I.ok.funs.mem hb;exact absurd (Nat.lt_of_lt_of_le (Heap.lt_size ho) (Nat.le_trans I.sz h)) (Nat.lt_irrefl _)
theorem Inv.cne(I:Inv X pins σ H s):∀x c,X.env.cells.lookup x=some c->c≠X.env.locals:=λx c e z=>by obtain⟨v,o,ho,hd⟩:=I.cell x c e;obtain⟨m,⟨o',es,ep,ho',hd',_⟩,_⟩:=I.loc;rw[z,ho']at ho;cases ho;rw[hd']at hd;cases hd
theorem Inv.funs(I:Inv X pins σ H s):s.heap.FunFrames X.base X.outer:=by
 have all:∀(l:List Env),(∀b∈frs l,b∈X.fs)->X.s₀.heap.FunFrames X.base l->s.heap.FunFrames X.base l:=by
  intro l;induction l with
 |nil=>intro _ _;trivial
 |cons env r ih=>intro hs hl;obtain⟨hk,⟨L,o,hf,hn,ho,hd⟩,hr⟩:=hl;have hL:L∈X.fs:=hs L (by unfold frs;rw[df,hf];exact aE);obtain⟨sl,e⟩:=I.base.slot L o ho (I.ok.frf L hL) hL λz=>I.ok.exfs L z hL;exact⟨hk,⟨L,_,hf,hn,e,hd⟩,ih (λb hb=>hs b (by unfold frs;rw[df,hf];exact av _ hb)) hr⟩
 exact all X.outer (λ_ hb=>hb) I.ok.funs
theorem Inv.stack(I:Inv X pins σ H s):s.heap.FunFrames X.base X.stack:=by
 rcases I.ok.stk with e|⟨e,hf⟩
 ·rw[e];exact I.funs
 ·rw[e];obtain⟨m,hn,_⟩:=I.loc;refine .cons (by rw[I.ok.kind];decide) hf hn ?_ I.funs;exact Heap.get?_none_of_le (Nat.le_trans I.ok.bsz I.ok.above)
theorem Inv.stkSub(I:Inv X pins σ H s):∀b∈frs X.stack,b∈X.env.locals::X.fs:=λb hb=>by
 rcases I.ok.stk with e|⟨e,hf⟩
 ·rw[e]at hb;exact av _ hb
 ·rw[e]at hb;unfold frs at hb;rw[df,hf]at hb;exact hb
theorem Inv.stkFree(I:Inv X pins σ H s):∀b∈frs X.stack,H b=none:=λb hb=>by
 rcases ao.mp (I.stkSub b hb)with e|hb
 ·rw[e];exact I.free
 ·obtain⟨_,o,ho,_⟩:=I.ok.funs.mem hb;exact I.base.free b o ho (I.ok.frf b hb) λz=>I.ok.exfs b z hb
theorem Inv.step{g':Array GenState}{t':Nat}{d':Drawn}{ch:List Addr}(I:Inv X pins σ H s)(hch:∀b∈ch,(b∈X.ex\/X.s₀.heap.objs.size<=b)/\b≠X.env.locals/\(∀x c,X.env.cells.lookup x=some c->c≠b)/\∀p∈X.pn++pins,p.1≠b)(keep:∀b o,b≠X.env.locals->b∉X.fs->b∉ch->s.heap.get? b=some o->H b=none->h'.get? b=some o)(slot:∀b o,b≠X.env.locals->b∈X.fs->b∉ch->s.heap.get? b=some o->H b=none->∃sl,h'.get? b=some {o with slots:=sl})(free:∀b o,b∉ch->s.heap.get? b=some o->H b=none->H' b=none)(there:∀b o,b∉ch->s.heap.get? b=some o->∃o',h'.get? b=some o')(tups:∀b xs,H b=some (.tup xs)->H' b=some (.tup xs))(frzs:∀b o u,H b=some (.frz o u)->H' b=some (.frz o u))(tbls:∀b ps,H b=some (.tbl ps)->∃more,H' b=some (.tbl (ps++more)))(ns:∀m,s.heap.Ns X.env.locals m->h'.Ns X.env.locals m)(hok:HOk X.prog X.w H' h')(hg:fH g'):Inv X pins σ H' {s with heap:=h',gens:=g',drawn:=d',toks:=t'}:=by
 have neL:∀b o,X.s₀.heap.get? b=some o->b≠X.env.locals:=λb o e=>Nat.ne_of_lt (Nat.lt_of_lt_of_le (Heap.lt_size e) I.ok.above);have neC:∀b o,X.s₀.heap.get? b=some o->b∉X.ex->b∉ch:=λb o e hx hb=>by
  rcases(hch b hb).1 with z|z
  ·exact hx z
  ·exact absurd (Nat.lt_of_lt_of_le (Heap.lt_size e) z) (Nat.lt_irrefl _)
 have cellK:∀x c,X.env.cells.lookup x=some c->∀v,s.heap.IsCell c v->h'.IsCell c v:=λx c e v⟨o,ho,hd⟩=>by
  have nch:c∉ch:=λz=>(hch c z).2.2.1 x c e rfl;by_cases hc:c∈X.fs
  ·obtain⟨sl,q⟩:=slot c o (I.cne x c e) hc nch ho (I.freeC x c e);exact⟨_,q,hd⟩
  ·exact⟨o,keep c o (I.cne x c e) hc nch ho (I.freeC x c e),hd⟩
 refine⟨I.ok,I.os,hg,⟨λb o e n hb hx=>?_,λb o e n hb hx=>?_,λb o e n hx=>?_,λb o e hx=>?_,λb xs e=>tups b xs (I.base.tups b xs e),λb o xs e=>frzs b o xs (I.base.frzs b o xs e),λb ps e=>?_⟩,?_,λx c e=>?_,?_,λx c e=>?_,λp hp=>?_,hok,I.len⟩
 ·exact keep b o (neL b o e) hb (neC b o e hx) (I.base.keep b o e n hb hx) (I.base.free b o e n hx)
 ·obtain⟨sl,e1⟩:=I.base.slot b o e n hb hx;obtain⟨sl',e2⟩:=slot b _ (neL b o e) hb (neC b o e hx) e1 (I.base.free b o e n hx);exact⟨sl',e2⟩
 ·obtain⟨o',e1⟩:=I.base.there b o e hx;exact free b o' (neC b o e hx) e1 (I.base.free b o e n hx)
 ·obtain⟨o',e1⟩:=I.base.there b o e hx;exact there b o' (neC b o e hx) e1
 ·obtain⟨m1,e1⟩:=I.base.tbls b ps e;obtain⟨m2,e2⟩:=tbls b _ e1;exact⟨m1++m2,by rw[e2,Array.append_assoc]⟩
 ·obtain⟨m,hn,hl⟩:=I.loc;refine⟨m,ns m hn,λi x v e1 e2 e3=>?_⟩;obtain⟨u,r,l⟩:=hl i x v e1 e2 e3;refine⟨u,r,?_⟩;rcases l with l|⟨k,c,e,z⟩
  ·exact .inl l
  ·exact .inr ⟨k,c,e,cellK x c e _ z⟩
 ·obtain⟨v,z⟩:=I.cell x c e;exact⟨v,cellK x c e v z⟩
 ·obtain⟨m,⟨o,_,_,ho,_⟩,_⟩:=I.loc;exact free _ o (λz=>(hch _ z).2.1 rfl) ho I.free
 ·obtain⟨v,o,ho,hd⟩:=I.cell x c e;exact free c o (λz=>(hch c z).2.2.1 x c e rfl) ho (I.freeC x c e)
 ·obtain⟨e,n,ne,nf,d⟩:=I.pin p hp;have nch:p.1∉ch:=λz=>(hch p.1 z).2.2.2 p hp rfl;exact⟨keep p.1 p.2 ne nf nch e n,free p.1 p.2 nch e n,ne,nf,d⟩
theorem Inv.un{t':Nat}(I:Inv X pins σ H s)(u:Un X.fs [] H H' s.heap h')(hok:HOk X.prog X.w H' h'):Inv X pins σ H' {s with heap:=h',toks:=t'}:=by
 obtain⟨m,⟨o,es,ep,ho,r⟩,_⟩:=id I.loc;obtain⟨sl,hL⟩:=u.any ho I.free (by simp);exact I.step (g':=s.gens) (d':=s.drawn) (ch:=[]) (λ_ z=>nomatch z) (λb o _ hb _ e n=>u.keep b o e n hb (by simp)) (λb o _ hb _ e n=>u.slot b o e n hb (by simp)) (λb o _ e n=>u.free b o e n (by simp)) (λb o _ e=>u.there b o e (by simp)) u.tups u.frzs u.tbls (λm' hm=>by obtain⟨o',es',ep',ho',r'⟩:=hm;rw[ho]at ho';cases ho';exact⟨_,es',ep',hL,r'⟩) hok I.bare
theorem Inv.call{g':Array GenState}{t':Nat}{d':Drawn}{ch:List Addr}(I:Inv X pins σ H s)(u:Un (frs X.stack) ch H H' s.heap h')(hok:HOk X.prog X.w H' h')(hg:fH g')(hch:∀b∈ch,(b∈X.ex\/X.s₀.heap.objs.size<=b)/\b≠X.env.locals/\(∀x c,X.env.cells.lookup x=some c->c≠b)/\∀p∈X.pn++pins,p.1≠b):Inv X pins σ H' {s with heap:=h',gens:=g',drawn:=d',toks:=t'}:=by
 obtain⟨m,⟨o,es,ep,ho,r⟩,_⟩:=id I.loc;obtain⟨sl,hL⟩:=u.any ho I.free λz=>(hch _ z).2.1 rfl;exact I.step (ch:=ch) hch (λb o hL hb hc e n=>u.keep b o e n (λz=>(ao.mp (I.stkSub b z)).elim hL hb) hc) (λb o _ _ hc e n=>u.any e n hc) (λb o hc e n=>u.free b o e n hc) (λb o hc e=>u.there b o e hc) u.tups u.frzs u.tbls (λm' hm=>by obtain⟨o',es',ep',ho',r'⟩:=hm;rw[ho]at ho';cases ho';exact⟨_,es',ep',hL,r'⟩) hok hg
theorem Inv.turned{t':Nat}{it:Addr}(I:Inv X pins σ H s)(k:∀b o,b≠it->s.heap.get? b=some o->h'.get? b=some o)(hn:H it=none)(hL:it≠X.env.locals)(h1:it∈X.ex\/X.s₀.heap.objs.size<=it)(h2:∀x c,X.env.cells.lookup x=some c->c≠it)(h3:∀p∈X.pn++pins,p.1≠it):Inv X pins σ H {s with heap:=h',toks:=t'}:=by
 have nit:∀b u,H b=some u->b≠it:=λb u e z=>by rw[z,hn]at e;cases e
 refine I.step (g':=s.gens) (d':=s.drawn) (ch:=[it]) (λb hb=>?_) (λb o _ _ hc e _=>k b o (λz=>hc (by simp[z])) e) (λb o _ _ hc e _=>⟨o.slots,k b o (λz=>hc (by simp[z])) e⟩) (λ_ _ _ _ n=>n) (λb o hc e=>⟨o,k b o (λz=>hc (by simp[z])) e⟩) (λ_ _ e=>e) (λ_ _ _ e=>e) (λb ps e=>⟨#[],by rw[e];simp⟩) (λm hm=>?_) (λb u e=>?_) I.bare
 ·have e:b=it:=by simpa using hb
  subst e;exact⟨h1,hL,h2,h3⟩
 ·obtain⟨o,es,ep,ho,r⟩:=hm;exact⟨o,es,ep,k _ o (bD hL) ho,r⟩
 ·refine(I.hok b u e).stay (λc v hc q=>k c v ?_ q) (λ_ q=>q) λ_ _ q=>q;rcases hc with z|z
  ·rw[z];exact nit b u e
  ·exact nit c _ z
theorem Inv.tok(I:Inv X pins σ H s)(t:Nat):Inv X pins σ H {s with toks:=t}:=I.un (h':=s.heap) (t':=t) Un.refl I.hok
theorem Inv.kept{t':Nat}(I:Inv X pins σ H s)(k:∀b u,s.heap.get? b=some u->h'.get? b=some u):Inv X pins σ H {s with heap:=h',toks:=t'}:=I.un (Un.kept k) (I.hok.kept k)
theorem Inv.laid{a:Addr}{o:HO}{t':Nat}(I:Inv X pins σ H s)(k:∀b u,s.heap.get? b=some u->h'.get? b=some u)(hp:s.heap.objs.size<=a)(new:Z4 X.prog X.w (upd H a o) h' a o):Inv X pins σ (upd H a o) {s with heap:=h',toks:=t'}:=I.un (Un.laid k hp (I.hok.fresh hp)) (I.hok.laid k hp new)
theorem Inv.write{x e:Addr}{o:HO}{t':Nat}(I:Inv X pins σ H s)(mu:Mut (H x))(he:e=x\/H e=some (.own x))(k:∀b u,b≠e->s.heap.get? b=some u->h'.get? b=some u)(heo:∃u,h'.get? e=some u)(new:Z4 X.prog X.w (upd H x o) h' x o):Inv X pins σ (upd H x o) {s with heap:=h',toks:=t'}:=I.un (Un.write mu he k heo) (I.hok.write mu he k heo new)
theorem Inv.pins_of{pins':List (Addr×Obj)}(I:Inv X pins σ H s)(h:∀p∈pins',s.heap.get? p.1=some p.2/\H p.1=none/\p.1≠X.env.locals/\p.1∉X.fs/\∀v,p.2.data≠.cell v):Inv X pins' σ H s:=⟨I.ok,I.os,I.bare,I.base,I.loc,I.cell,I.free,I.freeC,λp hp=>(aw.mp hp).elim (λz=>I.pin p (bq _ z)) (h p),I.hok,I.len⟩
theorem Qj{N:List Str}(hN:N.Nodup){i j:Nat}{x:Str}(a:N[i]?=some x)(b:N[j]?=some x):i=j:=by obtain⟨h1,e1⟩:=aj.mp a;obtain⟨h2,e2⟩:=aj.mp b;exact(gG hN).mp (e1.trans e2.symm)
theorem Nq{M:Model}{A:bz}{E:Value->ag->Prop}{i:Nat}{x:Str}{v:V}{u:Value}{Q:Unit->ag->Prop}(I:Inv X pins σ H s)(hN:X.N.Nodup)(hi:X.N[i]?=some x)(hx:Loc X.env.scope x)(r:RelV v u)(h:∀s',Inv X pins (σ.set i (some v)) H s'->(∃a,Heap.SameBut a s.heap s'.heap/\(a=X.env.locals\/X.env.cells.lookup x=some a))->Q () s')(hf:X.fn x=true\/X.env.scope.names.lookup x=some .local:=by first|exact .inl rfl|exact .inr rfl|assumption):wpAny M A (storeName X.env x u) Q E s:=by
 obtain⟨m,hn,hl⟩:=id I.loc;have hcls:(X.env.scope.kind==.class||(X.env.scope.kind==.module&&X.env.locals != X.env.globals))=false:=by rw[I.ok.kind];rfl
 have hiσ:i<σ.length:=by rw[I.len];exact(aj.mp hi).1
 have cne:=I.cne;have tracked:∀{a:Addr}{h':Heap},(∃o,s.heap.get? a=some o/\H a=none)->Heap.SameBut a s.heap h'->HOk X.prog X.w H h':=λ{a h'}ha hs b ob e=>by
  obtain⟨_,_,hfree⟩:=ha;refine(I.hok b ob e).stay (λc w' hc q=>(hs.2 c ?_).trans q) (λ_ q=>q) λ_ _ q=>q;rintro rfl;rcases hc with rfl|hc
  ·rw[hfree]at e;cases e
  ·rw[hfree]at hc;cases hc
 rcases hx with hk|hk
 ·refine wpAny_storeName_local hk hn (λh' hn' hs=>?_) hcls;obtain⟨oL,_,_,hoL,_⟩:=id hn;refine h _ ⟨I.ok,I.os,I.bare,⟨λb o e n hb hx=>?_,λb o e n hb hx=>?_,I.base.free,λb o e hx=>?_,I.base.tups,I.base.frzs,I.base.tbls⟩,⟨_,hn',λj y v' e1 e2 e3=>?_⟩,λy c e=>?_,I.free,I.freeC,λp hp=>?_,tracked ⟨oL,hoL,I.free⟩ hs,by simpa using I.len⟩ ⟨_,hs,.inl rfl⟩
  ·exact(hs.2 b (Nat.ne_of_lt (Nat.lt_of_lt_of_le (Heap.lt_size e) I.ok.above))).trans (I.base.keep b o e n hb hx)
  ·obtain⟨sl,e1⟩:=I.base.slot b o e n hb hx;exact⟨sl,(hs.2 b (Nat.ne_of_lt (Nat.lt_of_lt_of_le (Heap.lt_size e) I.ok.above))).trans e1⟩
  ·obtain⟨o',e1⟩:=I.base.there b o e hx;exact⟨o',(hs.2 b (Nat.ne_of_lt (Nat.lt_of_lt_of_le (Heap.lt_size e) I.ok.above))).trans e1⟩
  ·by_cases hj:j=i
   ·subst hj;rw[hi]at e1;cases e1;rw[List.getElem?_set_self hiσ]at e2;cases e2;exact⟨u,r,.inl ⟨hk,by simp⟩⟩
   ·rw[List.getElem?_set_ne (bD hj)]at e2;obtain⟨u',r',q⟩:=hl j y v' e1 e2 e3;refine⟨u',r',?_⟩;rcases q with⟨k,e⟩|⟨k,c,e,z⟩
    ·refine .inl ⟨k,?_⟩;have:y≠x:=λe=>hj (Qj hN e1 (e▸hi));simp[this,e]
    ·exact .inr ⟨k,c,e,z.sameBut hs (cne y c e)⟩
  ·obtain⟨w',z⟩:=I.cell y c e;exact⟨w',z.sameBut hs (cne y c e)⟩
  ·obtain⟨e,n,ne,nf,d⟩:=I.pin p hp;exact⟨(hs.2 p.1 ne).trans e,n,ne,nf,d⟩
 ·have hfn:X.fn x=true:=by
   rcases hf with z|z
   ·exact z
   ·rw[z]at hk;cases hk
  obtain⟨c,hc⟩:=I.ok.has x (.inl hk);obtain⟨w',z⟩:=I.cell x c hc;refine wpAny_storeName_cell I.ok.kind hk hc z (λh' hc' hs=>?_);obtain⟨oc,hoc,hocd⟩:=id z;refine h {s with heap:=h'} ⟨I.ok,I.os,I.bare,⟨λb o e n hb hx=>?_,λb o e n hb hx=>?_,I.base.free,λb o e hx=>?_,I.base.tups,I.base.frzs,I.base.tbls⟩,⟨m,hn.sameBut hs (bD (cne x c hc)),λj y v' e1 e2 e3=>?_⟩,λy c' e=>?_,I.free,I.freeC,λp hp=>?_,tracked ⟨oc,hoc,I.freeC x c hc⟩ hs,by simpa using I.len⟩ ⟨c,hs,.inr hc⟩
  ·exact(hs.2 b (Nat.ne_of_lt (Nat.lt_of_lt_of_le (Heap.lt_size e) (I.ok.cab x c hfn hc)))).trans (I.base.keep b o e n hb hx)
  ·obtain⟨sl,e1⟩:=I.base.slot b o e n hb hx;exact⟨sl,(hs.2 b (Nat.ne_of_lt (Nat.lt_of_lt_of_le (Heap.lt_size e) (I.ok.cab x c hfn hc)))).trans e1⟩
  ·obtain⟨o',e1⟩:=I.base.there b o e hx;exact⟨o',(hs.2 b (Nat.ne_of_lt (Nat.lt_of_lt_of_le (Heap.lt_size e) (I.ok.cab x c hfn hc)))).trans e1⟩
  ·by_cases hj:j=i
   ·subst hj;rw[hi]at e1;cases e1;rw[List.getElem?_set_self hiσ]at e2;cases e2;exact⟨u,r,.inr ⟨.inl hk,c,hc,hc'⟩⟩
   ·rw[List.getElem?_set_ne (bD hj)]at e2;obtain⟨u',r',q⟩:=hl j y v' e1 e2 e3;refine⟨u',r',?_⟩;rcases q with q|⟨k,c',e,z'⟩
    ·exact .inl q
    ·refine .inr ⟨k,c',e,z'.sameBut hs ?_⟩;rintro rfl;exact hj (Qj hN e1 (I.ok.inj _ _ _ e hc▸hi))
  ·by_cases hcc:c'=c
   ·subst hcc;exact⟨_,hc'⟩
   ·obtain⟨w2,z2⟩:=I.cell y c' e;exact⟨w2,z2.sameBut hs hcc⟩
  ·obtain⟨e,n,ne,nf,d⟩:=I.pin p hp;refine⟨(hs.2 p.1 ?_).trans e,n,ne,nf,d⟩;intro q;rw[q,hoc]at e;have q':oc=p.2:=aB e;exact d w' (by rw[<-q'];exact hocd)
theorem PZ{M:Model}{A:bz}{E:Value->ag->Prop}{i:Nat}{x:Str}{v:V}{u:Value}{Q:Unit->ag->Prop}(I:Inv X pins σ H s)(hN:X.N.Nodup)(hi:X.N[i]?=some x)(hx:Loc X.env.scope x)(r:RelV v u)(h:∀s',Inv X pins (σ.set i (some v)) H s'->Q () s')(hf:X.fn x=true\/X.env.scope.names.lookup x=some .local:=by first|exact .inl rfl|exact .inr rfl|assumption):wpAny M A (storeName X.env x u) Q E s:=Nq I hN hi hx r (λs' I' _=>h s' I') hf
theorem Inv.call'{s':ag}{ch:List Addr}(I:Inv X pins σ H s)(ho:s'.os=s.os)(u:Un (frs X.stack) ch H H' s.heap s'.heap)(hok:HOk X.prog X.w H' s'.heap)(hg:fH s'.gens)(hch:∀b∈ch,(b∈X.ex\/X.s₀.heap.objs.size<=b)/\b≠X.env.locals/\(∀x c,X.env.cells.lookup x=some c->c≠b)/\∀p∈X.pn++pins,p.1≠b):Inv X pins σ H' s':=by obtain⟨h',g',d',t',o'⟩:=s';have e:o'=s.os:=ho;subst e;exact I.call (g':=g') (t':=t') (d':=d') u hok hg hch
end
noncomputable abbrev XK:=Value->Option Addr->Hp->Prop
noncomputable abbrev St:=List (Option V)
noncomputable abbrev VK:=V->Hp->Prop
noncomputable abbrev TE:=St->Hp->VK->Prop
noncomputable abbrev TT:=St->Hp->(Bool->Hp->Prop)->Prop
noncomputable abbrev TA:=St->Hp->(List V->Hp->Prop)->Prop
structure Ends where
 nx:St->Hp->Prop
 rt:VK
 bk:St->Hp->Prop:=λ_ _=>False
 ct:St->Hp->Prop:=λ_ _=>False
noncomputable abbrev TS:=Ends->St->Hp->Prop
def EP(X:Cx)(pins:List (Addr×Obj))(σ:St)(Q:VK)(u:Value)(s':ag):Prop:=∃v H',Inv X pins σ H' s'/\RelV v u/\Q v H'
def TP(X:Cx)(pins:List (Addr×Obj))(σ:St)(Q:Bool->Hp->Prop)(b:Bool)(s':ag):Prop:=∃H',Inv X pins σ H' s'/\Q b H'
def AP(X:Cx)(pins:List (Addr×Obj))(σ:St)(Q:List V->Hp->Prop)(us:List Value)(s':ag):Prop:=∃vs H',Inv X pins σ H' s'/\Vals vs us/\Q vs H'
def SP(X:Cx)(pins:List (Addr×Obj))(D:Ends)(f:Flow)(s':ag):Prop:=match f with
|.next=>∃σ' H',Inv X pins σ' H' s'/\D.nx σ' H'
|.brk=>∃σ' H',Inv X pins σ' H' s'/\D.bk σ' H'
|.cont=>∃σ' H',Inv X pins σ' H' s'/\D.ct σ' H'
|.ret u=>∃v σ' H',Inv X pins σ' H' s'/\RelV v u/\D.rt v H'
def PE(X:Cx)(e:Expr)(t:TE):Prop:=∀(pins:List (Addr×Obj))(s:ag)(σ:St)(H:Hp)(Q:VK),Inv X pins σ H s->t σ H Q->wpAny (model X.prog X.w) X.A (eval e X.env) (EP X pins σ Q) X.xe s
def PT(X:Cx)(e:Expr)(t:TT):Prop:=∀(pins:List (Addr×Obj))(s:ag)(σ:St)(H:Hp)(Q:Bool->Hp->Prop),Inv X pins σ H s->t σ H Q->wpAny (model X.prog X.w) X.A (isTrue e X.env (eval e X.env)) (TP X pins σ Q) X.xe s
def PW(X:Cx)(e:Expr)(t:TT):Prop:=∀(whole:Sem Value)(pins:List (Addr×Obj))(s:ag)(σ:St)(H:Hp)(Q:Bool->Hp->Prop),Inv X pins σ H s->t σ H Q->wpAny (model X.prog X.w) X.A (isTrue e X.env whole) (TP X pins σ Q) X.xe s
theorem PW.pt{X:Cx}{e:Expr}{t:TT}(h:PW X e t):PT X e t:=h _
def PA(X:Cx)(es:List Expr)(t:TA):Prop:=∀(pos:Pos)(pins:List (Addr×Obj))(s:ag)(σ:St)(H:Hp)(Q:List V->Hp->Prop),Inv X pins σ H s->t σ H Q->wpAny (model X.prog X.w) X.A (spliced (cf pos (aN es X.env))) (AP X pins σ Q) X.xe s
def PS(X:Cx)(st:Stmt)(t:TS):Prop:=∀(pins:List (Addr×Obj))(s:ag)(σ:St)(H:Hp)(D:Ends),Inv X pins σ H s->t D σ H->wpAny (model X.prog X.w) X.A (exec st X.env) (SP X pins D) X.xe s
def PSs(X:Cx)(st:List Stmt)(t:TS):Prop:=∀(pins:List (Addr×Obj))(s:ag)(σ:St)(H:Hp)(D:Ends),Inv X pins σ H s->t D σ H->wpAny (model X.prog X.w) X.A (execs st X.env) (SP X pins D) X.xe s
theorem thn{α:Type}{t:Sem α}{Q Q':α->ag->Prop}{M:Model}{A:bz}{E:Value->ag->Prop}{s:ag}(h:wpAny M A t Q E s)(hQ:∀a s,Q a s->Q' a s):wpAny M A t Q' E s:=dC h hQ λ_ _ x=>x
open PySem PySem.Spec PyProof.Rows
section
variable {X:Cx}
theorem bin{a b:Expr}{ta tb:TE}(ha:PE X a ta)(hb:PE X b tb){pins:List (Addr×Obj)}{s:ag}{σ:St}{H:Hp}{R:V->V->Hp->Prop}(I:Inv X pins σ H s)(h:ta σ H λx H1=>tb σ H1 λy H2=>R x y H2){α:Type}{Q:α->ag->Prop}{f:Value->Value->Sem α}(hf:∀v u s2 x y H2,Inv X pins σ H2 s2->RelV x v->RelV y u->R x y H2->wpAny (model X.prog X.w) X.A (f v u) Q X.xe s2):wpAny (model X.prog X.w) X.A (eval a X.env) (λv s₁=>wpAny (model X.prog X.w) X.A (eval b X.env) (λu s₂=>wpAny (model X.prog X.w) X.A (f v u) Q X.xe s₂) X.xe s₁) X.xe s:=by refine thn (ha pins s σ H _ I h) λv s1 hZ=>?_;obtain⟨x,H1,I1,r1,q1⟩:=hZ;refine thn (hb pins s1 σ H1 _ I1 q1) λu s2 hZ=>?_;obtain⟨y,H2,I2,r2,q2⟩:=hZ;exact hf v u s2 x y H2 I2 r1 r2 q2
def tVar(i:Nat):TE:=λσ H Q=>∃v,σ[i]?=some (some v)/\Q v H
def tC(v:V):TE:=λ_ H Q=>Q v H
theorem KL{i:Nat}{x:Str}{pos:Pos}(hN:X.N[i]?=some x)(hv:Vis X.env.scope x)(hd:(x==("__debug__":Str))=false:=by decide)(hcd:(x==("__classdict__":Str))=false:=by decide):PE X (.Name x pos) (tVar i):=by
 intro pins s σ H Q I h;obtain⟨v,e,h⟩:=h;obtain⟨m,hn,hl⟩:=I.loc;obtain⟨u,r,l⟩:=hl i x v hN e hv;have fin:EP X pins σ Q u s:=⟨v,H,I,r,h⟩;rcases l with⟨hk,hm⟩|⟨hk,c,hc,hcell⟩
 ·exact wpAny_Name (wpAny_loadName_local I.ok.kind hk hn hm fin) hd
 ·rcases hk with hk|hk
  ·exact wpAny_Name (wpAny_loadName_cell I.ok.kind hk hc hcell fin) hd
  ·exact wpAny_Name (wpAny_loadName_free I.ok.kind hk hc hcell fin hcd) hd
theorem Zb{i j pos}:PE X (.Constant (.int i) j pos) (tC (.int i)):=λ_ _ _ H _ I h=>wpAny_Constant_int ⟨.int i,H,I.tok _,⟨_,rfl⟩,h⟩
theorem YW{b j pos}:PE X (.Constant (.bool b) j pos) (tC (.bl b)):=λ_ _ _ H _ I h=>Constant_bool ⟨.bl b,H,I,rfl,h⟩
theorem ZK{j pos}:PE X (.Constant .none j pos) (tC .non):=λ_ _ _ H _ I h=>Constant_none ⟨.non,H,I,rfl,h⟩
theorem ZH{x j pos}:PE X (.Constant (.str x) j pos) (tC (.str x)):=λ_ _ _ H _ I h=>Calls.Constant_str ⟨.str x,H,I.tok _,⟨_,rfl⟩,h⟩
def Gl(X:Cx)(x:Str):Prop:=X.env.kindOf x=some .globalImplicit
theorem Pt{E:Value->ag->Prop}{pins:List (Addr×Obj)}{s:ag}{σ:St}{H:Hp}{x:Str}{u:Value}{pos:Pos}{Q:Value->ag->Prop}(I:Inv X pins σ H s)(hg:Gl X x)(hm:X.mg x=some u)(h:Q u s)(hd:(x==("__debug__":Str))=false:=by decide):wpAny (model X.prog X.w) X.A (eval (.Name x pos) X.env) Q E s:=Calls.Name_function_global I.ok.kind hg (Calls.loadGlobal_global (by rw[I.ok.glob];exact I.mod.glob.keeps I.bk) hm h) hd
theorem V1{E:Value->ag->Prop}{pins:List (Addr×Obj)}{s:ag}{σ:St}{H:Hp}{x:Str}{u:Value}{pos:Pos}{Q:Value->ag->Prop}(I:Inv X pins σ H s)(hg:Gl X x)(hm:X.mg x=none)(hv:bF x=some u)(h:Q u s)(hn:x≠"__name__":=by decide)(hd:(x==("__debug__":Str))=false:=by decide):wpAny (model X.prog X.w) X.A (eval (.Name x pos) X.env) Q E s:=by obtain⟨mb,h1,h2⟩:=I.mod.blt;exact Calls.Name_function_global I.ok.kind hg (Calls.loadGlobal_builtin (by rw[I.ok.glob];exact I.mod.glob.keeps I.bk) hm (by rw[I.ok.blt];exact h1.keeps I.bk) ((h2 x hn).trans hv) h) hd
theorem Z7{x:Str}{v:V}{u:Value}{pos:Pos}(hg:Gl X x)(hm:X.mg x=some u)(r:RelV v u)(hd:(x==("__debug__":Str))=false:=by decide):PE X (.Name x pos) (tC v):=λ_ _ _ H _ I h=>Pt I hg hm ⟨v,H,I,r,h⟩ hd
theorem Pm{x:Str}{v:V}{u:Value}{pos:Pos}(hg:Gl X x)(hm:X.mg x=none)(hv:bF x=some u)(r:RelV v u)(hn:x≠"__name__":=by decide)(hd:(x==("__debug__":Str))=false:=by decide):PE X (.Name x pos) (tC v):=λ_ _ _ H _ I h=>V1 I hg hm hv ⟨v,H,I,r,h⟩ hn hd
variable {a b:Expr}{ta tb:TE}{pos:Pos}
def PC(X:Cx)(op:CmpOp)(a b:Expr)(t:TE):Prop:=∀(pins:List (Addr×Obj))(s:ag)(σ:St)(H:Hp)(Q:VK),Inv X pins σ H s->t σ H Q ->wpAny (model X.prog X.w) X.A (eval a X.env) (λv s₁=>wpAny (model X.prog X.w) X.A (eval b X.env) (λu s₂=>wpAny (model X.prog X.w) X.A (bp op v u) (EP X pins σ Q) X.xe s₂) X.xe s₁) X.xe s
theorem Qk(b:Expr){op:CmpOp}(h:op≠.In)(h2:op≠.NotIn):c6 op b=false:=by
 have e1:(op==CmpOp.In)=false:=by cases op<;>first|rfl|exact absurd rfl h
 have e2:(op==CmpOp.NotIn)=false:=by cases op<;>first|rfl|exact absurd rfl h2
 cases b<;>simp[c6,e1,e2]
def tB(t:TE):TT:=λσ H Q=>t σ H λx H1=>∃c,x=.bl c/\Q c H1
theorem Fc{op:CmpOp}{t:TE}(h:PC X op a b t)(h1:c6 op b=false:=by first|exact Qk _ (by decide) (by decide)|rfl):PE X (.Compare a [op] [b] pos) t:=λpins s σ H Q I hw=>wpAny_Compare1 (h pins s σ H Q I hw) h1
theorem EW{op:CmpOp}{t:TE}(h:PC X op a b t)(h1:c6 op b=false:=by first|exact Qk _ (by decide) (by decide)|rfl):PT X (.Compare a [op] [b] pos) (tB t):=by intro pins s σ H Q I hw;refine wpAny_isTrue_Compare1 (thn (h pins s σ H _ I hw) λv s1 h1=>thn h1 λu s2 h2=>thn h2 λc s3 hZ=>?_) h1;obtain⟨x,H1,I1,r1,q1⟩:=hZ;obtain⟨d,rfl,q⟩:=q1;cases r1;exact bt ⟨H1,I1,q⟩
theorem ZZ{e:Expr}{t:TE}(h:PE X e t)(he:∀whole,isTrue e X.env whole=(do let v <-whole;gm e.pos;dY [v] (truthy v)):=by intro _;rfl):PT X e (tB t):=by
 intro pins s σ H Q I hw
 refine isTrue_plain (thn (h pins s σ H _ I hw) λv s1 hZ=>?_) (he _);obtain⟨x,H1,I1,r1,q1⟩:=hZ
 obtain⟨d,rfl,q⟩:=q1
 cases r1
 exact bt ⟨H1,I1,q⟩
variable {tA tB':TT}{rest:List Expr}
def tAnd(t u:TT):TT:=λσ H Q=>t σ H λc H1=>if c=true then u σ H1 Q else Q false H1
def tOr(t u:TT):TT:=λσ H Q=>t σ H λc H1=>if c=true then Q true H1 else u σ H1 Q
def tNot(t:TT):TT:=λσ H Q=>t σ H λc H1=>Q (!c) H1
theorem XR(ha:PT X a tA):PW X (.BoolOp .And [a] pos) tA:=by
 intro wh pins s σ H Q I h;refine isTrue_and (thn (ha pins s σ H Q I h) λc s1 e=>?_);cases c with
|true=>exact isTrue_and_nil e
|false=>exact e
theorem XC(ha:PT X a tA):PW X (.BoolOp .Or [a] pos) tA:=by
 intro wh pins s σ H Q I h;refine isTrue_or (thn (ha pins s σ H Q I h) λc s1 e=>?_);cases c with
|false=>exact isTrue_or_nil e
|true=>exact e
theorem JY(ha:PT X a tA)(hb:PW X (.BoolOp .And (b::rest) pos) tB'):PW X (.BoolOp .And (a::b::rest) pos) (tAnd tA tB'):=by
 intro wh pins s σ H Q I h;refine isTrue_and (thn (ha pins s σ H _ I h) λc s1⟨H1,I1,q1⟩=>?_);cases c with
|true=>exact hb wh pins s1 σ H1 Q I1 q1
|false=>exact⟨H1,I1,q1⟩
theorem JN(ha:PT X a tA)(hb:PW X (.BoolOp .Or (b::rest) pos) tB'):PW X (.BoolOp .Or (a::b::rest) pos) (tOr tA tB'):=by
 intro wh pins s σ H Q I h;refine isTrue_or (thn (ha pins s σ H _ I h) λc s1⟨H1,I1,q1⟩=>?_);cases c with
|true=>exact⟨H1,I1,q1⟩
|false=>exact hb wh pins s1 σ H1 Q I1 q1
theorem Z9(ha:PT X a tA):PT X (.UnaryOp .Not a pos) (tNot tA):=by intro pins s σ H Q I h;exact isTrue_not (ha pins s σ H (λc H1=>Q (!c) H1) I h)
def Hw(ta tb:TE):TE:=λσ H Q=>ta σ H λx H1=>∃c,x=.bl c/\if c=true then tb σ H1 Q else Q (.bl false) H1
def tOrV(ta tb:TE):TE:=λσ H Q=>ta σ H λx H1=>∃c,x=.bl c/\if c=true then Q (.bl true) H1 else tb σ H1 Q
def Hr(ta:TE):TE:=λσ H Q=>ta σ H λx H1=>∃c,x=.bl c/\Q (.bl (!c)) H1
theorem YF{op}{t:TE}(h:PE X a t):PE X (.BoolOp op [a] pos) t:=λpins s σ H Q I hw=>BoolOp_one (h pins s σ H Q I hw)
theorem Xk(ha:PE X a ta)(hb:PE X (.BoolOp .And (b::rest) pos) tb):PE X (.BoolOp .And (a::b::rest) pos) (Hw ta tb):=by
 intro pins s σ H Q I h;refine BoolOp_and (thn (ha pins s σ H _ I h) λv s1 hZ=>?_);obtain⟨x,H1,I1,r1,q1⟩:=hZ;obtain⟨c,rfl,q1⟩:=q1;cases r1;refine bt ?_;cases c with
|true=>exact hb pins s1 σ H1 Q I1 q1
|false=>exact⟨.bl false,H1,I1,rfl,q1⟩
theorem HJ(ha:PE X a ta)(hb:PE X (.BoolOp .Or (b::rest) pos) tb):PE X (.BoolOp .Or (a::b::rest) pos) (tOrV ta tb):=by
 intro pins s σ H Q I h;refine BoolOp_or (thn (ha pins s σ H _ I h) λv s1 hZ=>?_);obtain⟨x,H1,I1,r1,q1⟩:=hZ;obtain⟨c,rfl,q1⟩:=q1;cases r1;refine bt ?_;cases c with
|false=>exact hb pins s1 σ H1 Q I1 q1
|true=>exact⟨.bl true,H1,I1,rfl,q1⟩
theorem E8(ha:PE X a ta):PE X (.UnaryOp .Not a pos) (Hr ta):=by intro pins s σ H Q I h;refine UnaryOp_ (thn (ha pins s σ H _ I h) λv s1 hZ=>?_);obtain⟨x,H1,I1,r1,q1⟩:=hZ;obtain⟨c,rfl,q1⟩:=q1;cases r1;exact not_of (bt ⟨.bl (!c),H1,I1,rfl,q1⟩)
def tIf(t:TT)(ta tb:TE):TE:=λσ H Q=>t σ H λc H1=>if c=true then ta σ H1 Q else tb σ H1 Q
theorem Qg{c:Expr}(hc:PT X c tA)(ha:PE X a ta)(hb:PE X b tb):PE X (.IfExp c a b pos) (tIf tA ta tb):=by
 intro pins s σ H Q I h;refine wpAny_IfExp (thn (hc pins s σ H _ I h) λd s1⟨H1,I1,q1⟩=>?_);cases d with
|true=>exact ha pins s1 σ H1 Q I1 q1
|false=>exact hb pins s1 σ H1 Q I1 q1
end
open PySem PySem.Spec PyProof.Rows
def SqL(K:aa)(H:Hp)(a:Addr)(xs:List V):Prop:=Rd H a (.lst xs) \/∃(o:Obj)(its:Array Value)(n:Nat),K.lookup a=some o/\o.cls=.type "list"/\o.dict=none/\o.data=.seq its n/\its.size<=sizeLine/\Vals xs its.toList
def SqT(K:aa)(H:Hp)(a:Addr)(xs:List V):Prop:=Rd H a (.tup xs) \/∃(o:Obj)(its:Array Value)(n:Nat),K.lookup a=some o/\o.cls=.type "tuple"/\o.data=.seq its n/\its.size<=sizeLine/\Vals xs its.toList
noncomputable def absV:Value->Option V
|.none=>some .non
|.bool b=>some (.bl b)
|.int i _=>some (.int i)
|.str x _=>some (.str x)
|.bytes b _=>some (.byt b)
|.float b _=>some (.flt b)
|.ref a=>some (.ref a)
|.type n=>some (.ty n)
|_=>none
theorem RelV.abs{x:V}{u:Value}(r:RelV x u):absV u=some x:=by
 cases x with
|non=>cases r;rfl
|bl _=>cases r;rfl
|int _=>obtain⟨t,rfl⟩:=r;rfl
|str _=>obtain⟨t,rfl⟩:=r;rfl
|byt _=>obtain⟨t,rfl⟩:=r;rfl
|flt _=>obtain⟨t,rfl⟩:=r;rfl
|ref _=>cases r;rfl
|ty _=>cases r;rfl
theorem RelV.inj{x y:V}{u:Value}(r:RelV x u)(q:RelV y u):x=y:=aB (r.abs.symm.trans q.abs)
theorem Vals.inj:∀{xs ys:List V}{us:List Value},Vals xs us->Vals ys us->xs=ys
|_,_,_,.nil,.nil=>rfl
|_,_,_,.cons r t,.cons r' t'=>by rw[r.inj r',Vals.inj t t']
section
variable {X:Cx}{pins:List (Addr×Obj)}{σ:St}{H:Hp}{s:ag}{a:Addr}{xs ys:List V}
theorem SqL.of{K:aa}(h:H a=some (.lst xs)):SqL K H a xs:=.inl (.inl h)
theorem SqT.of{K:aa}(h:H a=some (.tup xs)):SqT K H a xs:=.inl (.inl h)
theorem Inv.list(I:Inv X pins σ H s)(h:SqL X.K H a xs):∃its:List Value,Vals xs its/\PlainL s.heap a its.toArray/\xs.length<=sizeLine:=by
 rcases h with h|⟨o,its,n,hk,hc,hd,hs,hz,r⟩
 ·obtain⟨z,its,n,r,e⟩:=h.ok I.hok;exact⟨its,r,⟨_,n,e,rfl,rfl,rfl⟩,z⟩
 ·refine⟨its.toList,r,⟨o,n,I.kIn a o hk,hc,hd,by simpa using hs⟩,?_⟩;have e:=r.length;simp only[da]at e;omega
theorem Inv.tuple(I:Inv X pins σ H s)(h:SqT X.K H a xs):∃its:List Value,Vals xs its/\IsTup s.heap a its.toArray/\xs.length<=sizeLine:=by
 rcases h with h|⟨o,its,n,hk,hc,hs,hz,r⟩
 ·obtain⟨z,its,r,p⟩:=h.ok I.hok;exact⟨its,r,p,z⟩
 ·refine⟨its.toList,r,⟨o,I.kIn a o hk,hc,n,by simpa using hs⟩,?_⟩;have e:=r.length;simp only[da]at e;omega
theorem Inv.list_inj(I:Inv X pins σ H s)(h:SqL X.K H a xs)(h':SqL X.K H a ys):xs=ys:=by
 obtain⟨its,r,⟨o,n,e,_,_,d⟩,_⟩:=I.list h;obtain⟨its',r',⟨o',n',e',_,_,d'⟩,_⟩:=I.list h';rw[e]at e';cases e';rw[d]at d';injection d' with d1 _;have:its=its':=by simpa using congrArg Array.toList d1
 subst this;exact r.inj r'
theorem Inv.tuple_inj(I:Inv X pins σ H s)(h:SqT X.K H a xs)(h':SqT X.K H a ys):xs=ys:=by
 obtain⟨its,r,⟨o,e,_,n,d⟩,_⟩:=I.tuple h;obtain⟨its',r',⟨o',e',_,n',d'⟩,_⟩:=I.tuple h';rw[e]at e';cases e';rw[d]at d';injection d' with d1 _;have:its=its':=by simpa using congrArg Array.toList d1
 subst this;exact r.inj r'
end
noncomputable abbrev Cx.wish(X:Cx)(E:Value->ag->Prop):Cx:={X with xe:=E}
noncomputable abbrev Cx.nox(X:Cx):Cx:=X.wish λ_ _=>False
theorem Cx.Ok.wish{X:Cx}(ok:X.Ok)(E:Value->ag->Prop):(X.wish E).Ok:=⟨ok.mod,ok.kind,ok.glob,ok.blt,ok.above,ok.inj,ok.has,ok.cab,ok.hd,ok.frames,ok.stk,ok.exf,ok.bs,ok.bsz,ok.noex,ok.exfs,ok.funs,ok.frf⟩
theorem Cx.Ok.unwish{X:Cx}{E:Value->ag->Prop}(ok:(X.wish E).Ok):X.Ok:=⟨ok.mod,ok.kind,ok.glob,ok.blt,ok.above,ok.inj,ok.has,ok.cab,ok.hd,ok.frames,ok.stk,ok.exf,ok.bs,ok.bsz,ok.noex,ok.exfs,ok.funs,ok.frf⟩
section
variable {X:Cx}{pins:List (Addr×Obj)}{σ:St}{H:Hp}{s:ag}{E:Value->ag->Prop}
theorem Inv.wish(I:Inv X pins σ H s)(E:Value->ag->Prop):Inv (X.wish E) pins σ H s:=⟨I.ok.wish E,I.os,I.bare,I.base,I.loc,I.cell,I.free,I.freeC,I.pin,I.hok,I.len⟩
theorem Inv.unwish(I:Inv (X.wish E) pins σ H s):Inv X pins σ H s:=⟨I.ok.unwish,I.os,I.bare,I.base,I.loc,I.cell,I.free,I.freeC,I.pin,I.hok,I.len⟩
theorem SP.unwish{D:Ends}{f:Flow}{s':ag}(h:SP (X.wish E) pins D f s'):SP X pins D f s':=by
 cases f with
|next=>obtain⟨σ',H',I,q⟩:=h;exact⟨σ',H',I.unwish,q⟩
|brk=>obtain⟨σ',H',I,q⟩:=h;exact⟨σ',H',I.unwish,q⟩
|cont=>obtain⟨σ',H',I,q⟩:=h;exact⟨σ',H',I.unwish,q⟩
|ret u=>obtain⟨v,σ',H',I,r,q⟩:=h;exact⟨v,σ',H',I.unwish,r,q⟩
theorem PSs.nox{st:List Stmt}{t:TS}(h:PSs X.nox st t):PSs X st t:=λpins s σ H D I hw=>dC (h pins s σ H D (I.wish _) hw) (λ_ _ q=>q.unwish) λ_ _ z=>b_ z
end
section
variable {X:Cx}{st:Stmt}{rest:List Stmt}{t u:TS}{e:Expr}{te:TE}{pos:Pos}
def Ef:TS:=λD σ H=>D.nx σ H
def tSeq(t u:TS):TS:=λD σ H=>t {D with nx:=u D} σ H
theorem Zr:PSs X [] Ef:=λ_ _ σ H _ I h=>wpAny_execs_nil ⟨σ,H,I,h⟩
theorem Za(h1:PS X st t)(h2:PSs X rest u):PSs X (st::rest) (tSeq t u):=by
 intro pins s σ H D I h;refine wpAny_execs_cons (thn (h1 pins s σ H {D with nx:=u D} I h) λf s1 q=>?_);cases f with
|next=>obtain⟨σ',H',I',q⟩:=q;exact h2 pins s1 σ' H' D I' q
|ret v=>exact q
|brk=>exact q
|cont=>exact q
theorem Ze(h1:PS X st t):PSs X [st] t:=by
 intro pins s σ H D I h;refine wpAny_execs_cons (thn (h1 pins s σ H D I h) λf s1 q=>?_);cases f with
|next=>exact wpAny_execs_nil q
|ret v=>exact q
|brk=>exact q
|cont=>exact q
theorem Inv.quiet{pins:List (Addr×Obj)}{σ:St}{H:Hp}{s:ag}(I:Inv X pins σ H s):interactive X.env=false:=by simp[interactive,I.ok.kind]
def Eg(te:TE):TS:=λD σ H=>te σ H λ_ H1=>D.nx σ H1
theorem Yg(he:PE X e te)(hs:fz e none pos.line X.env=pure false:=by rfl):PS X (.Expr e pos) (Eg te):=by intro pins s σ H D I h;exact wpAny_Expr_any (thn (he pins s σ H _ I h) λv s1⟨x,H1,I1,r1,q1⟩=>⟨σ,H1,I1,q1⟩) I.quiet hs
def tRet(te:TE):TS:=λD σ H=>te σ H D.rt
theorem Zn(he:PE X e te):PS X (.Return (some e) pos) (tRet te):=by intro pins s σ H D I h;exact wpAny_Return_some (thn (he pins s σ H _ I h) λv s1⟨x,H1,I1,r1,q1⟩=>⟨x,σ,H1,I1,r1,q1⟩)
def tIfS(c:TT)(t u:TS):TS:=λD σ H=>c σ H λb H1=>if b=true then t D σ H1 else u D σ H1
theorem ZF{c:Expr}{a b:List Stmt}{tc:TT}(hc:PT X c tc)(ha:PSs X a t)(hb:PSs X b u):PS X (.If c a b pos) (tIfS tc t u):=by
 intro pins s σ H D I h;refine wpAny_If (thn (hc pins s σ H _ I h) λd s1⟨H1,I1,q1⟩=>?_);cases d with
|true=>exact ha pins s1 σ H1 D I1 q1
|false=>exact hb pins s1 σ H1 D I1 q1
def EH:TS:=λ_ _ _=>False
theorem Je:PS X st EH:=λ_ _ _ _ _ _ h=>h.elim
end
noncomputable abbrev TG:=V->St->Hp->(St->Hp->Prop)->Prop
noncomputable abbrev TGs:=List V->St->Hp->(St->Hp->Prop)->Prop
def PG(X:Cx)(target:Expr)(t:TG):Prop:=∀(pins:List (Addr×Obj))(s:ag)(σ:St)(H:Hp)(v:V)(u:Value)(Q:St->Hp->Prop),Inv X pins σ H s->RelV v u->t v σ H Q ->wpAny (model X.prog X.w) X.A (assign target X.env u) (λ_ s'=>∃σ' H',Inv X pins σ' H' s'/\Q σ' H') X.xe s
def PGs(X:Cx)(ts:List Expr)(t:TGs):Prop:=∀(pins:List (Addr×Obj))(s:ag)(σ:St)(H:Hp)(vs:List V)(us:List Value)(Q:St->Hp->Prop),Inv X pins σ H s->Vals vs us->t vs σ H Q ->wpAny (model X.prog X.w) X.A (assignInOrder ((cq ts X.env).map (·.2)) us) (λ_ s'=>∃σ' H',Inv X pins σ' H' s'/\Q σ' H') X.xe s
noncomputable abbrev TSet:=V->V->V->Hp->(Hp->Prop)->Prop
def PSet(X:Cx)(t:TSet):Prop:=∀(pins:List (Addr×Obj))(s:ag)(σ:St)(H:Hp)(o i v:V)(ov iv u:Value)(Q:Hp->Prop),Inv X pins σ H s->RelV o ov->RelV i iv->RelV v u->t o i v H Q ->wpAny (model X.prog X.w) X.A (setItem ov iv u) (λ_ s'=>∃H',Inv X pins σ H' s'/\Q H') X.xe s
section
variable {X:Cx}{pos:Pos}
def Zt(i:Nat):TG:=λv σ H Q=>Q (σ.set i (some v)) H
theorem XU{i:Nat}{x:Str}(hN:X.N.Nodup)(hi:X.N[i]?=some x)(hx:Loc X.env.scope x)(hf:X.fn x=true\/X.env.scope.names.lookup x=some .local:=by first|exact .inl rfl|exact .inr rfl|assumption):PG X (.Name x pos) (Zt i):=by intro pins s σ H v u Q I r h;exact wpAny_assign_Name (PZ I hN hi hx r (λs' I'=>⟨_,H,I',h⟩) hf)
noncomputable def gNil:TGs:=λvs σ H Q=>vs=[]/\Q σ H
noncomputable def Ls(t:TG)(u:TGs):TGs:=λvs σ H Q=>∃v r,vs=v::r/\t v σ H λσ' H'=>u r σ' H' Q
theorem Z0:PGs X [] gNil:=by intro pins s σ H vs us Q I r h;obtain⟨e,h⟩:=h;subst e;cases r;exact assignInOrder_nil ⟨σ,H,I,h⟩
theorem Zl{e:Expr}{es:List Expr}{t:TG}{u:TGs}(h1:PG X e t)(h2:PGs X es u)(hs:(cq (e::es) X.env).map (·.2)=assign e X.env::(cq es X.env).map (·.2):=by rfl):PGs X (e::es) (Ls t u):=by
 intro pins s σ H vs us Q I r h;obtain⟨v,vr,e1,h⟩:=h;subst e1;cases r with
|cons r rr=>rw[hs];refine assignInOrder_cons (thn (h1 pins s σ H _ _ _ I r h) λ_ s1 hZ=>?_);obtain⟨σ1,H1,I1,q1⟩:=hZ;exact h2 pins s1 σ1 H1 _ _ Q I1 rr q1
def gTup(K:aa)(n:Nat)(t:TGs):TG:=λv σ H Q=>∃a xs,v=.ref a/\SqT K H a xs/\xs.length=n/\t xs σ H Q
theorem YE{es:List Expr}{k:Nat}{t:TGs}{n:Nat}(hc:X.calm=true)(h:PGs X es t)(hn:(cq es X.env).length=n:=by rfl)(hst:(cq es X.env).findIdx? (·.1)=none:=by rfl):PG X (.Tuple es k pos) (gTup X.K n t):=by intro pins s σ H v u Q I r hw;obtain⟨a,xs,e1,hq,hl,hw⟩:=hw;subst e1;cases r;obtain⟨its,rv,ht,hz⟩:=I.tuple hq;refine assign_Tuple_tuple (I.ok.hd hc) ht (by simp[hn,<-hl,rv.length]) hst λh' hx=>?_;have I1:Inv X pins σ H {s with heap:=h'}:=I.kept (t':=s.toks) λb o e=>hx b o (Nat.ne_of_lt (Heap.lt_size e)) e;exact h pins _ σ H xs _ Q I1 (by simpa using rv) hw
def gSub(to ti:TE)(t:TSet):TG:=λv σ H Q=>to σ H λo H1=>ti σ H1 λi H2=>t o i v H2 λH3=>Q σ H3
theorem Rh{o i:Expr}{to ti:TE}{t:TSet}(ho:PE X o to)(hi:PE X i ti)(hs:PSet X t)
  (ha:∀v,assign (.Subscript o i pos) X.env v=(do
   let ov <-dY [v] (eval o X.env)
   let iv <-dY [v,ov] (eval i X.env)
   gm pos
   dY [v,ov,iv] (setItem ov iv v)
   release [v,ov,iv] []):=by intro _;rfl):PG X (.Subscript o i pos) (gSub to ti t):=by
 intro pins s σ H v u Q I r h
 rw[ha]
 refine ae (bh (thn (ho pins s σ H _ I h) λov s1 hZ=>?_));obtain⟨x,H1,I1,r1,q1⟩:=hZ
 refine ae (bh (thn (hi pins s1 σ H1 _ I1 q1) λiv s2 hZ=>?_));obtain⟨y,H2,I2,r2,q2⟩:=hZ
 refine ae (gC (ae (bh (thn (hs pins s2 σ H2 x y v ov iv u _ I2 r1 r2 r q2) λ_ s3⟨H3,I3,q3⟩=>?_))))
 exact wpAny_release ⟨σ,H3,I3,q3⟩
def tAsg(te:TE)(g:TG):TS:=λD σ H=>te σ H λx H1=>g x σ H1 D.nx
theorem X0{tg e:Expr}{te:TE}{g:TG}(he:PE X e te)(hg:PG X tg g)(hs:swapsWithSole [tg] e pos.line X.env=pure false:=by rfl)(hw:swappedStores [tg] e X.env=pure none:=by rfl)(h1:(cq [tg] X.env).map (·.2)=[assign tg X.env]:=by rfl):PS X (.Assign [tg] e pos) (tAsg te g):=by intro pins s σ H D I h;refine wpAny_Assign_stores (thn (he pins s σ H _ I h) λv s1 hZ=>?_) hs hw;obtain⟨x,H1,I1,r1,q1⟩:=hZ;rw[h1];exact thn (hg pins s1 σ H1 x v _ I1 r1 q1) λ_ s2 q=>q
theorem Yb{i:Nat}{x:Str}{e:Expr}{te:TE}{pos':Pos}(hN:X.N.Nodup)(hi:X.N[i]?=some x)(hx:Loc X.env.scope x)(he:PE X e te)(hs:fz e (some (.Name x pos')) pos.line X.env=pure false:=by rfl)(hf:X.fn x=true\/X.env.scope.names.lookup x=some .local:=by first|exact .inl rfl|exact .inr rfl|assumption):PS X (.Assign [.Name x pos'] e pos) (tAsg te (Zt i)):=by intro pins s σ H D I h;refine wpAny_Assign_Name (thn (he pins s σ H _ I h) λv s1 hZ=>?_) hs;obtain⟨y,H1,I1,r1,q1⟩:=hZ;exact PZ I1 hN hi hx r1 (λs2 I2=>⟨_,H1,I2,q1⟩) hf
end
structure It where
 go:Nat->Hp->Prop
 yld:Nat->Hp->V->Hp->Prop
 stop:Nat->Hp->Prop
def FpOk(X:Cx)(pins:List (Addr×Obj))(H:Hp)(b:Addr):Prop:=H b=none/\b≠X.env.locals/\b∉X.fs/\(b∈X.ex\/X.s₀.heap.objs.size<=b)/\(∀x c,X.env.cells.lookup x=some c->c≠b)/\∀p∈X.pn++pins,p.1≠b
theorem Inv.fpOk{X:Cx}{pins:List (Addr×Obj)}{σ:St}{H H':Hp}{s:ag}{b:Addr}(I:Inv X pins σ H s)(hb:s.heap.objs.size<=b)(hn:H' b=none):FpOk X pins H' b:=by
 refine⟨hn,Nat.ne_of_gt (Nat.lt_of_lt_of_le I.lt hb),I.nofs hb,.inr (Nat.le_trans I.sz hb),λx c e z=>?_,λp hp z=>?_⟩
 ·obtain⟨v,q⟩:=I.cell x c e;exact absurd (Nat.lt_of_lt_of_le q.lt (by rw[z];exact hb)) (Nat.lt_irrefl _)
 ·exact absurd (Nat.lt_of_lt_of_le (Heap.lt_size (I.pin p hp).1) (by rw[z];exact hb)) (Nat.lt_irrefl _)
structure Turn(P:Program)(w:World)(K:aa)(tg:Expr)(J:It)(fp:List Addr)(it:Addr)(tn:Nat->Heap->Prop):Prop where
 mem:it∈fp
 obj:∀i h,tn i h->∀b∈fp,∃o,h.get? b=some o/\∀v,o.data≠.cell v
 keep:∀i h h',tn i h->(∀b∈fp,∀o,h.get? b=some o->h'.get? b=some o)->tn i h'
 item:∀(X:Cx),X.prog=P->X.w=w->X.K=K->X.calm=true->∀(i:Nat)(pins:List (Addr×Obj))(s:ag)(σ:St)(H:Hp)(E:Value->ag->Prop),Inv X pins σ H s->(∀b∈fp,FpOk X pins H b)->tn i s.heap->J.go i H ->
  wpAny (model P w) X.A (pyNext (.ref it)) (λr s1=>∃u,r=some u /\
   wpAny (model P w) X.A (fN tg (.ref it) u) (λ_ s2=>∃x H',Inv X pins σ H' s2/\RelV x u/\J.yld i H x H'/\tn (i+1) s2.heap/\∀b∈fp,H' b=none) E s1) E s
 done:∀(X:Cx),X.prog=P->X.w=w->X.K=K->X.calm=true->∀(i:Nat)(pins:List (Addr×Obj))(s:ag)(σ:St)(H:Hp)(E:Value->ag->Prop),Inv X pins σ H s->(∀b∈fp,FpOk X pins H b)->tn i s.heap->J.stop i H ->
  wpAny (model P w) X.A (pyNext (.ref it)) (λr s1=>r=none/\Inv X pins σ H s1) E s
 self:∀(A:bz)(i:Nat)(s:ag)(Q:Value->ag->Prop)(E:Value->ag->Prop),tn i s.heap->Q (.ref it) s->wpAny (model P w) A (pyIter (.ref it)) Q E s
noncomputable abbrev TI:=St->Hp->(It->Hp->Prop)->Prop
def PIE(X:Cx)(pins:List (Addr×Obj))(σ:St)(tg:Expr)(R:It->Hp->Prop)(itv:Value)(s2:ag):Prop:=∃(it:Addr)(fp:List Addr)(tn:Nat->Heap->Prop)(J:It)(H':Hp),itv=.ref it/\Inv X pins σ H' s2/\Turn X.prog X.w X.K tg J fp it tn/\tn 0 s2.heap/\(∀b∈fp,FpOk X pins H' b)/\R J H'
def PI(X:Cx)(tg iter:Expr)(wi:TI):Prop:=∀(pins:List (Addr×Obj))(s:ag)(σ:St)(H:Hp)(R:It->Hp->Prop),Inv X pins σ H s->wi σ H R ->wpAny (model X.prog X.w) X.A (eval iter X.env) (λv s1=>wpAny (model X.prog X.w) X.A (pyIter v) (PIE X pins σ tg R) X.xe s1) X.xe s
theorem QA{M:Model}{A:bz}{E:Value->ag->Prop}{s:ag}{tg:Expr}{it:Addr}{u:Value}{o:Obj}{n:String}{vs:Array Value}{Q:Unit->ag->Prop}(ho:s.heap.get? it=some o)(hc:o.cls=.type n)(hd:o.data=.fields vs)(hn:["enumerate","zip","dict_itemiterator","dict_reverseitemiterator","odict_iterator","itertools.zip_longest","itertools.pairwise"].contains n=false)(hQ:Q () s):wpAny M A (fN tg (.ref it) u) Q E s:=by
 unfold fN;cases tg<;>first
 |exact ai hQ
 |(cases u<;>first
   |exact ai hQ
   |(refine ae (wpAny_load ho ?_);rw[hc,hd];show wpAny M A (if(["enumerate","zip","dict_itemiterator","dict_reverseitemiterator","odict_iterator","itertools.zip_longest","itertools.pairwise"].contains n&&vs[0]?==some (fF _))=true then _ else _) Q E s;rw[if_neg (by intro h;rw[hn,Bool.false_and]at h;cases h)];exact ai hQ))
noncomputable def Itl(K:aa)(a:Addr):It:=⟨λi H=>∃xs x,SqL K H a xs/\xs[i]?=some x,λi H x H'=>H'=H/\∀xs,SqL K H a xs->xs[i]?=some x,λi H=>∃xs,SqL K H a xs/\xs.length<=i⟩
noncomputable def Itt(K:aa)(a:Addr):It:=⟨λi H=>∃xs x,SqT K H a xs/\xs[i]?=some x,λi H x H'=>H'=H/\∀xs,SqT K H a xs->xs[i]?=some x,λi H=>∃xs,SqT K H a xs/\xs.length<=i⟩
noncomputable def Itr(lo:Int)(n:Nat):It:=⟨λi _=>i<n,λi H x H'=>H'=H/\x=.int (lo+i),λi _=>n<=i⟩
theorem Tz{P:Program}{w:World}{K:aa}{tg:Expr}(a it:Addr):Turn P w K tg (Itl K a) [it] it (λi h=>h.IsListIter it a i) where
 mem:=by simp
 obj:=λi h st b hb=>by
  have e:b=it:=by simpa using hb
  subst e
  obtain⟨o,e,c,d⟩:=st
  exact⟨o,e,λv z=>by rw[d]at z;cases z⟩
 keep:=λi h h' st k=>st.at λo e=>k it (by simp) o e
 item:=by
  intro X hP hw hK hc i pins s σ H E I hf st hg
  subst hP hw hK
  obtain⟨xs,x,hq,hx⟩:=hg
  obtain⟨its,rv,p,hz⟩:=I.list hq
  obtain⟨u,hu,ru⟩:=rv.get hx
  obtain⟨f0,f1,f2,f3,f4,f5⟩:=hf it (by simp)
  refine wpAny_pyNext_list_item st p.isList (x:=u) (by simpa using hu) λh' st' sb=>?_
  have I1:Inv X pins σ H {s with heap:=h'}:=I.turned (t':=s.toks) (λb o hb e=>(sb.2 b hb).trans e) f0 f1 f3 f4 f5
  obtain⟨o,e,c,d⟩:=id st'
  exact⟨u,rfl,QA (s:={s with heap:=h'}) e c d (by decide) ⟨x,H,I1,ru,⟨rfl,λys hy=>by rw[I.list_inj hy hq];exact hx⟩,st',λb hb=>(hf b hb).1⟩⟩
 done:=by
  intro X hP hw hK hc i pins s σ H E I hf st hg
  subst hP hw hK
  obtain⟨xs,hq,hx⟩:=hg
  obtain⟨its,rv,p,hz⟩:=I.list hq
  obtain⟨f0,f1,f2,f3,f4,f5⟩:=hf it (by simp)
  have hl:=rv.length
  exact wpAny_pyNext_list_end (I.ok.hd hc) st p.isList (by simp;omega) λh' eb=>⟨rfl,I.turned (t':=s.toks) (λb o hb e=>eb b o hb e) f0 f1 f3 f4 f5⟩
 self:=λ_ _ _ _ _ st h=>wpAny_pyIter_listiter st h
theorem QP{P:Program}{w:World}{K:aa}{tg:Expr}(a it:Addr):Turn P w K tg (Itt K a) [it] it (λi h=>h.IsTupleIter it a i) where
 mem:=by simp
 obj:=λi h st b hb=>by
  have e:b=it:=by simpa using hb
  subst e
  obtain⟨o,e,c,d⟩:=st
  exact⟨o,e,λv z=>by rw[d]at z;cases z⟩
 keep:=λi h h' st k=>st.at λo e=>k it (by simp) o e
 item:=by
  intro X hP hw hK hc i pins s σ H E I hf st hg
  subst hP hw hK
  obtain⟨xs,x,hq,hx⟩:=hg
  obtain⟨its,rv,p,hz⟩:=I.tuple hq
  obtain⟨u,hu,ru⟩:=rv.get hx
  obtain⟨f0,f1,f2,f3,f4,f5⟩:=hf it (by simp)
  refine wpAny_pyNext_tuple_item st (show s.heap.IsTuple a its.toArray from p) (x:=u) (by simpa using hu) λh' st' sb=>?_
  have I1:Inv X pins σ H {s with heap:=h'}:=I.turned (t':=s.toks) (λb o hb e=>(sb.2 b hb).trans e) f0 f1 f3 f4 f5
  obtain⟨o,e,c,d⟩:=id st'
  exact⟨u,rfl,QA (s:={s with heap:=h'}) e c d (by decide) ⟨x,H,I1,ru,⟨rfl,λys hy=>by rw[I.tuple_inj hy hq];exact hx⟩,st',λb hb=>(hf b hb).1⟩⟩
 done:=by
  intro X hP hw hK hc i pins s σ H E I hf st hg
  subst hP hw hK
  obtain⟨xs,hq,hx⟩:=hg
  obtain⟨its,rv,p,hz⟩:=I.tuple hq
  obtain⟨f0,f1,f2,f3,f4,f5⟩:=hf it (by simp)
  have hl:=rv.length
  exact wpAny_pyNext_tuple_end (I.ok.hd hc) st (show s.heap.IsTuple a its.toArray from p) (by simp;omega) λh' eb=>⟨rfl,I.turned (t':=s.toks) (λb o hb e=>eb b o hb e) f0 f1 f3 f4 f5⟩
 self:=λ_ _ _ _ _ st h=>wpAny_pyIter_tupleiter st h
theorem QQ{P:Program}{w:World}{K:aa}{tg:Expr}(it:Addr)(lo:Int)(n:Nat):Turn P w K tg (Itr lo n) [it] it (λi h=>IsRangeIter h it (lo+(i:Nat)*1) ((n:Int)-(i:Nat)) 1) where
 mem:=by simp
 obj:=λi h st b hb=>by
  have e:b=it:=by simpa using hb
  subst e
  exact⟨_,st,λv z=>by
   have z':Data.fields _=Data.cell v:=z
   cases z'⟩
 keep:=λi h h' st k=>k it (by simp) _ st
 item:=by
  intro X hP hw hK hc i pins s σ H E I hf st hg
  subst hP hw hK
  obtain⟨f0,f1,f2,f3,f4,f5⟩:=hf it (by simp)
  have W:=Walks.range (prog:=X.prog) (w:=X.w) (I.ok.hd hc) it lo 1 n
  refine W.item i s _ _ hg st λv h' tk hv st' kk=>?_
  obtain⟨t,rfl⟩:=hv
  have I1:Inv X pins σ H {s with heap:=h',toks:=tk}:=I.turned (λb o hb e=>kk b o (by simpa using hb) e) f0 f1 f3 f4 f5
  refine⟨_,rfl,QA (s:={s with heap:=h',toks:=tk}) (n:="range_iterator") st' rfl rfl (by decide) ⟨.int (lo+i),H,I1,⟨t,?_⟩,⟨rfl,rfl⟩,st',λb hb=>(hf b hb).1⟩⟩
  rw[Int.mul_one]
 done:=by
  intro X hP hw hK hc i pins s σ H E I hf st hg
  subst hP hw hK
  obtain⟨f0,f1,f2,f3,f4,f5⟩:=hf it (by simp)
  exact wpAny_pyNext_range_end (I.ok.hd hc) st (by have:n<=i:=hg;omega) λh' eb=>⟨rfl,I.turned (t':=s.toks) (λb o hb e=>eb b o hb e) f0 f1 f3 f4 f5⟩
 self:=λ_ _ _ _ _ st h=>wpAny_pyIter_rangeiter st h
open PySem PySem.Spec PyProof.Rows
section
variable {X:Cx}{tg:Expr}
noncomputable def Ey(K:aa)(tl:TE):TI:=λσ H R=>tl σ H λx H1=>∃a,x=.ref a/\(∃xs,SqL K H1 a xs)/\R (Itl K a) H1
noncomputable def iTup(K:aa)(tl:TE):TI:=λσ H R=>tl σ H λx H1=>∃a,x=.ref a/\(∃xs,SqT K H1 a xs)/\R (Itt K a) H1
theorem ZV{l:Expr}{tl:TE}(hl:PE X l tl):PI X tg l (Ey X.K tl):=by
 intro pins s σ H R I h;refine thn (hl pins s σ H _ I h) λv s1 hZ=>?_;obtain⟨x,H1,I1,r1,q1⟩:=hZ;obtain⟨a,e,⟨xs,hq⟩,q⟩:=q1;subst e;cases r1;obtain⟨its,rv,p,hz⟩:=I1.list hq;refine dN p.isList ?_;refine⟨s1.heap.objs.size,[s1.heap.objs.size],_,_,H1,rfl,I1.kept (t':=s1.toks) λb o e=>Heap.get?_push_of_some _ e,Tz a _,⟨_,Heap.get?_push_size _ rfl,rfl,rfl⟩,λb hb=>?_,q⟩;have e:b=s1.heap.objs.size:=by simpa using hb
 subst e;exact I1.fpOk (Nat.le_refl _) (I1.hok.fresh (Nat.le_refl _))
theorem MH{l:Expr}{tl:TE}(hl:PE X l tl):PI X tg l (iTup X.K tl):=by
 intro pins s σ H R I h;refine thn (hl pins s σ H _ I h) λv s1 hZ=>?_;obtain⟨x,H1,I1,r1,q1⟩:=hZ;obtain⟨a,e,⟨xs,hq⟩,q⟩:=q1;subst e;cases r1;obtain⟨its,rv,p,hz⟩:=I1.tuple hq;refine gM (show s1.heap.IsTuple a its.toArray from p) ?_;refine⟨s1.heap.objs.size,[s1.heap.objs.size],_,_,H1,rfl,I1.kept (t':=s1.toks) λb o e=>Heap.get?_push_of_some _ e,QP a _,⟨_,Heap.get?_push_size _ rfl,rfl,rfl⟩,λb hb=>?_,q⟩;have e:b=s1.heap.objs.size:=by simpa using hb
 subst e;exact I1.fpOk (Nat.le_refl _) (I1.hok.fresh (Nat.le_refl _))
theorem Qc{pins:List (Addr×Obj)}{σ:St}{H:Hp}{s:ag}{R:It->Hp->Prop}{E:Value->ag->Prop}{lo hi:Int}{t u v:Tok}{tk:Nat}(I:Inv X pins σ H s)(h1:-(2 ^ 62)<=lo)(h2:lo<2 ^ 62)(h3:-(2 ^ 62)<=hi)(h4:hi<2 ^ 62)(q:R (Itr lo (hi-lo).toNat) H):wpAny (model X.prog X.w) X.A (pyIter (.ref s.heap.objs.size)) (PIE X pins σ tg R) E {s with heap:=s.heap.push {cls:=.type "range",data:=.fields #[.int lo t,.int hi u,.int 1 v]},toks:=tk}:=by
 refine wpAny_pyIter_range (IsRange.new ..) (small_one h1 h2 h3 h4) ?_;have I1:Inv X pins σ H {s with heap:=s.heap.push {cls:=.type "range",data:=.fields #[.int lo t,.int hi u,.int 1 v]},toks:=tk}:=I.kept λb o e=>Heap.get?_push_of_some _ e;refine⟨(s.heap.push {cls:=.type "range",data:=.fields #[.int lo t,.int hi u,.int 1 v]}).objs.size,[(s.heap.push {cls:=.type "range",data:=.fields #[.int lo t,.int hi u,.int 1 v]}).objs.size],_,_,H,rfl,I1.kept (t':=tk) λb o e=>Heap.get?_push_of_some _ e,QQ _ lo (hi-lo).toNat,?_,λb hb=>?_,q⟩
 ·have e1:lo+((0:Nat):Int)*1=lo:=by simp
  have e2:(((hi-lo).toNat:Nat):Int)-((0:Nat):Int)=Builtin.Range.rangeSize lo hi 1:=by rw[rangeSize_one];split<;>omega
  show IsRangeIter _ _ (lo+((0:Nat):Int)*1) ((((hi-lo).toNat:Nat):Int)-((0:Nat):Int)) 1;rw[e1,e2];exact Heap.get?_push_size _ rfl
 ·have e:b=(s.heap.push {cls:=.type "range",data:=.fields #[.int lo t,.int hi u,.int 1 v]}).objs.size:=by simpa using hb
  subst e;exact I1.fpOk (Nat.le_refl _) (I1.hok.fresh (Nat.le_refl _))
noncomputable def HU(ta:TA):TI:=λσ H R=>ta σ H λvs H1=>∃j:Int,vs=[.int j]/\-(2 ^ 62)<=j/\j<2 ^ 62/\R (Itr 0 j.toNat) H1
noncomputable def HR(ta:TA):TI:=λσ H R=>ta σ H λvs H1=>∃i j:Int,vs=[.int i,.int j]/\(-(2 ^ 62)<=i/\i<2 ^ 62/\-(2 ^ 62)<=j/\j<2 ^ 62)/\R (Itr i (j-i).toNat) H1
theorem Y3{a:Expr}{ta:TA}{p pos:Pos}(hg:Gl X "range")(hm:X.mg "range"=none)(ha:PA X [a] ta)(hs:aN [a] X.env=[(false,eval a X.env)]:=by rfl):PI X tg (.Call (.Name "range" p) [a] [] pos) (HU ta):=by
 intro pins s σ H R I h;refine Call_ (V1 I hg hm boot_range (bT (thn (ha pos pins s σ H _ I h) λus s1 hZ=>?_) hs rfl));obtain⟨vs,H1,I1,r1,q1⟩:=hZ;obtain⟨j,e,q1,q2,q⟩:=q1;subst e;cases r1 with
|cons r rr=>cases rr;obtain⟨t,rfl⟩:=r;exact call_range_1 (Qc I1 (by omega) (by omega) q1 q2 (by simpa using q))
theorem Xy{a b:Expr}{ta:TA}{p pos:Pos}(hg:Gl X "range")(hm:X.mg "range"=none)(ha:PA X [a,b] ta)(hs:aN [a,b] X.env=[(false,eval a X.env),(false,eval b X.env)]:=by rfl)(hs2:aN [b] X.env=[(false,eval b X.env)]:=by rfl):PI X tg (.Call (.Name "range" p) [a,b] [] pos) (HR ta):=by
 intro pins s σ H R I h;refine Call_ (V1 I hg hm boot_range (bT (thn (ha pos pins s σ H _ I h) λus s1⟨vs,H1,I1,r1,q1⟩=>?_) (by rw[hs,hs2]) (by rw[hs2];rfl)));obtain⟨i,j,e,⟨q1,q2,q3,q4⟩,q⟩:=q1;subst e;cases r1 with
|cons r rr=>
  cases rr with
 |cons r' rr=>cases rr;obtain⟨t,rfl⟩:=r;obtain⟨t',rfl⟩:=r';exact call_range_2 (Qc I1 q1 q2 q3 q4 q)
def tFor(wi:TI)(g:TG)(tb:TS):TS:=λD σ H=>wi σ H λJ H1=>∃W:Nat->Nat->St->Hp->Prop,(∃m,W 0 m σ H1)/\∀i m σ H,W i m σ H ->(J.stop i H/\D.nx σ H)\/(J.go i H/\∃N:St->Hp->Prop,(∀σ' H',N σ' H'->∃m',m'<m/\W (i+1) m' σ' H')/\∀x H',J.yld i H x H'->g x σ H' λσ2 H2=>tb {D with nx:=N,ct:=N,bk:=D.nx} σ2 H2)
noncomputable def MG(fp:List Addr)(h:Heap):List (Addr×Obj):=fp.filterMap λb=>(h.get? b).map λo=>(b,o)
theorem mem_pinsAt{fp:List Addr}{h:Heap}{b:Addr}{o:Obj}(hb:b∈fp)(e:h.get? b=some o):(b,o)∈MG fp h:=f6.mpr ⟨b,hb,by rw[e];rfl⟩
theorem TU{fp:List Addr}{h:Heap}{p:Addr×Obj}(hp:p∈MG fp h):p.1∈fp/\h.get? p.1=some p.2:=by
 obtain⟨b,hb,e⟩:=f6.mp hp;cases q:h.get? b with
|none=>rw[q]at e;cases e
|some o=>rw[q]at e;have e':(b,o)=p:=aB e;subst e';exact⟨hb,q⟩
theorem Inv.pinned{pins:List (Addr×Obj)}{σ:St}{H:Hp}{s:ag}{fp:List Addr}(I:Inv X pins σ H s)(hf:∀b∈fp,FpOk X pins H b)(ho:∀b∈fp,∃o,s.heap.get? b=some o/\∀v,o.data≠.cell v):Inv X (pins++MG fp s.heap) σ H s:=I.pins_of λp hp=>(aw.mp hp).elim (λz=>I.pin p (aR _ z)) λz=>by obtain⟨hb,e⟩:=TU z;obtain⟨f0,f1,f2,_⟩:=hf p.1 hb;obtain⟨o,e',d⟩:=ho p.1 hb;rw[e]at e';cases e';exact⟨e,f0,f1,f2,d⟩
theorem Inv.unpinned{pins pl:List (Addr×Obj)}{σ:St}{H:Hp}{s:ag}(I:Inv X (pins++pl) σ H s):Inv X pins σ H s:=I.pins_of λp hp=>I.pin p (aR _ (bq _ hp))
theorem Yn{iter:Expr}{body:List Stmt}{wi:TI}{g:TG}{tb:TS}{pos:Pos}(hp:PassesOwn (model X.prog X.w) X.A X.env X.xe)(hc:X.calm=true)(hi:PI X tg iter wi)(hg:PG X tg g)(hb:PSs X body tb)(hs:∀x,fj iter X.env x=pure x:=by intro _;rfl):PS X (.For tg iter body [] pos) (tFor wi g tb):=by
 intro pins s σ H D I h;refine wpAny_For (thn (hi pins s σ H _ I h) λv s1 h1=>thn h1 λitv s2 h2=>?_) hs;obtain⟨it,fp,tn,J,H2,e,I2,T,st2,f2,W,⟨m0,w0⟩,turn⟩:=h2;subst e;have stat:∀{H':Hp},(∀b∈fp,H' b=none)->∀b∈fp,FpOk X pins H' b:=λhn b hb=>⟨hn b hb,(f2 b hb).2⟩;refine codeAny_forLoop_any (λn s'=>∃i σ' H',Inv X pins σ' H' s'/\tn i s'.heap/\(∀b∈fp,H' b=none)/\W i n σ' H') ?_ m0 ⟨0,σ,H2,I2,st2,λb hb=>(f2 b hb).1,w0⟩;rintro n s3 ⟨i,σ3,H3,I3,st3,fr3,w3⟩;rcases turn i n σ3 H3 w3 with⟨stop,qn⟩|⟨go,N,hN,step⟩
 ·refine eh hp (thn (T.done X rfl rfl rfl hc i pins s3 σ3 H3 X.xe I3 (stat fr3) st3 stop) λr s4⟨hr,I4⟩=>?_);subst hr;exact wpAny_execs_nil ⟨σ3,H3,I4,qn⟩
 ·refine eh hp (thn (T.item X rfl rfl rfl hc i pins s3 σ3 H3 X.xe I3 (stat fr3) st3 go) λr s4⟨u,hr,h4⟩=>?_);subst hr;refine eh hp (thn h4 λ_ s5 hZ=>?_);obtain⟨x,H5,I5,r5,y5,st5,fr5⟩:=hZ;have I5':=I5.pinned (stat fr5) (T.obj _ _ st5);refine eh hp (thn (hg _ s5 σ3 H5 x u _ I5' r5 (step x H5 y5)) λ_ s6 hZ=>?_);obtain⟨σ6,H6,I6,q6⟩:=hZ;refine eh hp (thn (hb _ s6 σ6 H6 _ I6 q6) λf s7 q7=>?_);have again:∀{σ7:St}{H7:Hp},Inv X (pins++MG fp s5.heap) σ7 H7 s7->N σ7 H7->∃m,m<n/\∃i σ' H',Inv X pins σ' H' s7/\tn i s7.heap/\(∀b∈fp,H' b=none)/\W i m σ' H':=λ{σ7 H7}I7 n7=>by obtain⟨m',hm,w7⟩:=hN σ7 H7 n7;refine⟨m',hm,i+1,σ7,H7,I7.unpinned,T.keep _ _ _ st5 λb hb o e=>(I7.pin (b,o) (aR _ (aR _ (mem_pinsAt hb e)))).1,λb hb=>?_,w7⟩;obtain⟨o,e,d⟩:=T.obj _ _ st5 b hb;exact(I7.pin (b,o) (aR _ (aR _ (mem_pinsAt hb e)))).2.1
  cases f with
 |next=>obtain⟨σ7,H7,I7,n7⟩:=q7;exact again I7 n7
 |cont=>obtain⟨σ7,H7,I7,n7⟩:=q7;exact again I7 n7
 |brk=>obtain⟨σ7,H7,I7,q7⟩:=q7;exact⟨σ7,H7,I7.unpinned,q7⟩
 |ret v=>obtain⟨x7,σ7,H7,I7,r7,q7⟩:=q7;exact⟨x7,σ7,H7,I7.unpinned,r7,q7⟩
end
theorem U0{lo:Int}{n:Nat}{g:TG}{tb:TS}{D:Ends}{σ:St}{H:Hp}(Pv:Nat->St->Hp->Prop)(h0:Pv 0 σ H)(hs:∀i σ H,i<n->Pv i σ H->g (.int (lo+i)) σ H λσ2 H2=>tb {D with nx:=Pv (i+1),ct:=Pv (i+1),bk:=D.nx} σ2 H2)(hd:∀σ H,Pv n σ H->D.nx σ H):∃W:Nat->Nat->St->Hp->Prop,(∃m,W 0 m σ H)/\∀i m σ H,W i m σ H ->((Itr lo n).stop i H/\D.nx σ H)\/((Itr lo n).go i H/\∃N:St->Hp->Prop,(∀σ' H',N σ' H'->∃m',m'<m/\W (i+1) m' σ' H')/\∀x H',(Itr lo n).yld i H x H'->g x σ H' λσ2 H2=>tb {D with nx:=N,ct:=N,bk:=D.nx} σ2 H2):=by
 refine⟨λi m σ H=>m=n-i/\i<=n/\Pv i σ H,⟨n,by simp,Nat.zero_le _,h0⟩,?_⟩;rintro i m σ H ⟨rfl,hi,p⟩;by_cases hlt:i<n
 ·refine .inr ⟨hlt,Pv (i+1),λσ' H' p'=>⟨n-(i+1),by omega,rfl,hlt,p'⟩,λx H' y=>?_⟩;obtain⟨e,y⟩:=y;subst e y;exact hs i σ _ hlt p
 ·have e:i=n:=by omega
  subst e;exact .inl ⟨Nat.le_refl _,hd σ H p⟩
open PySem PySem.Spec PyProof.Rows
noncomputable abbrev R2:=V->V->Hp->VK->Prop
def OpR(X:Cx)(f:Value->Value->Sem Value)(r:R2):Prop:=∀(pins:List (Addr×Obj))(s:ag)(σ:St)(H:Hp)(x y:V)(v u:Value)(Q:VK),Inv X pins σ H s->RelV x v->RelV y u->r x y H Q ->wpAny (model X.prog X.w) X.A (f v u) (EP X pins σ Q) X.xe s
def UnR(X:Cx)(f:Value->Sem Value)(r:V->Hp->VK->Prop):Prop:=∀(pins:List (Addr×Obj))(s:ag)(σ:St)(H:Hp)(x:V)(v:Value)(Q:VK),Inv X pins σ H s->RelV x v->r x H Q ->wpAny (model X.prog X.w) X.A (f v) (EP X pins σ Q) X.xe s
def YS(X:Cx)(f:Value)(r:List V->Hp->VK->Prop):Prop:=∀(pins:List (Addr×Obj))(s:ag)(σ:St)(H:Hp)(xs:List V)(us:List Value)(Q:VK),Inv X pins σ H s->Vals xs us->r xs H Q ->wpAny (model X.prog X.w) X.A (call f us) (EP X pins σ Q) X.xe s
def TruR(X:Cx)(r:V->Hp->(Bool->Hp->Prop)->Prop):Prop:=∀(pins:List (Addr×Obj))(s:ag)(σ:St)(H:Hp)(x:V)(v:Value)(Q:Bool->Hp->Prop),Inv X pins σ H s->RelV x v->r x H Q ->wpAny (model X.prog X.w) X.A (truthy v) (TP X pins σ Q) X.xe s
def tOp(r:R2)(ta tb:TE):TE:=λσ H Q=>ta σ H λx H1=>tb σ H1 λy H2=>r x y H2 Q
def tUn(r:V->Hp->VK->Prop)(ta:TE):TE:=λσ H Q=>ta σ H λx H1=>r x H1 Q
def rI(C:Int->Int->Prop)(g:Int->Int->V):R2:=λx y H Q=>∃i j,x=.int i/\y=.int j/\C i j/\Q (g i j) H
def rI0(g:Int->Int->V):R2:=λx y H Q=>∃i j,x=.int i/\y=.int j/\Q (g i j) H
noncomputable def rU(g:Int->V):V->Hp->VK->Prop:=λx H Q=>∃i,x=.int i/\Q (g i) H
section
variable {X:Cx}{a b c:Expr}{ta tb tc:TE}{pos:Pos}
theorem binT(ha:PE X a ta)(hb:PE X b tb){pins:List (Addr×Obj)}{s:ag}{σ:St}{H:Hp}{R:V->V->Hp->Prop}(I:Inv X pins σ H s)(h:ta σ H λx H1=>tb σ H1 λy H2=>R x y H2){Q:Value->ag->Prop}{f:Value->Value->Sem Value}(hf:∀v u s2 x y H2,Inv X pins σ H2 s2->RelV x v->RelV y u->R x y H2->wpAny (model X.prog X.w) X.A (f v u) Q X.xe s2):wpAny (model X.prog X.w) X.A (eval a X.env) (λv s₁=>wpAny (model X.prog X.w) X.A (eval b X.env) (λu s₂=>wpAny (model X.prog X.w) X.A (f v u) Q X.xe s₂) X.xe s₁) X.xe s:=by refine thn (ha pins s σ H _ I h) λv s1 hZ=>?_;obtain⟨x,H1,I1,r1,q1⟩:=hZ;refine thn (hb pins s1 σ H1 _ I1 q1) λu s2 hZ=>?_;obtain⟨y,H2,I2,r2,q2⟩:=hZ;exact hf v u s2 x y H2 I2 r1 r2 q2
theorem Zp{op:Operator}{r:R2}(ho:OpR X (d6 op) r)(ha:PE X a ta)(hb:PE X b tb):PE X (.BinOp a op b pos) (tOp r ta tb):=by intro pins s σ H Q I h;exact wpAny_BinOp (binT ha hb I h λv u s2 x y H2 I2 rx ry q=>ho pins s2 σ H2 x y v u Q I2 rx ry q)
theorem SF{op:UnaryOp}{r:V->Hp->VK->Prop}(ho:UnR X (unaryOp op) r)(ha:PE X a ta):PE X (.UnaryOp op a pos) (tUn r ta):=by intro pins s σ H Q I h;exact UnaryOp_ (thn (ha pins s σ H _ I h) λv s1⟨x,H1,I1,r1,q1⟩=>ho pins s1 σ H1 x v Q I1 r1 q1)
theorem opI{f:Value->Value->Sem Value}{C:Int->Int->Prop}{g:Int->Int->Int}(rule:∀(i j:Int)(t u:Tok)(s:ag)(Q:Value->ag->Prop)(E:Value->ag->Prop),C i j->Q (.int (g i j) s.toks) {s with toks:=s.toks+1}->wpAny (model X.prog X.w) X.A (f (.int i t) (.int j u)) Q E s):OpR X f (rI C λi j=>.int (g i j)):=by intro pins s σ H x y v u Q I rx ry h;obtain⟨i,j,rfl,rfl,hc,q⟩:=h;obtain⟨t,rfl⟩:=rx;obtain⟨t',rfl⟩:=ry;exact rule i j t t' s _ _ hc ⟨.int (g i j),H,I.tok _,⟨_,rfl⟩,q⟩
theorem opI0{f:Value->Value->Sem Value}{g:Int->Int->Int}(rule:∀(i j:Int)(t u:Tok)(s:ag)(Q:Value->ag->Prop)(E:Value->ag->Prop),Q (.int (g i j) s.toks) {s with toks:=s.toks+1}->wpAny (model X.prog X.w) X.A (f (.int i t) (.int j u)) Q E s):OpR X f (rI0 λi j=>.int (g i j)):=by intro pins s σ H x y v u Q I rx ry h;obtain⟨i,j,rfl,rfl,q⟩:=h;obtain⟨t,rfl⟩:=rx;obtain⟨t',rfl⟩:=ry;exact rule i j t t' s _ _ ⟨.int (g i j),H,I.tok _,⟨_,rfl⟩,q⟩
theorem opB0{f:Value->Value->Sem Value}{g:Int->Int->Bool}(rule:∀(i j:Int)(t u:Tok)(s:ag)(Q:Value->ag->Prop)(E:Value->ag->Prop),Q (.bool (g i j)) s->wpAny (model X.prog X.w) X.A (f (.int i t) (.int j u)) Q E s):OpR X f (rI0 λi j=>.bl (g i j)):=by intro pins s σ H x y v u Q I rx ry h;obtain⟨i,j,rfl,rfl,q⟩:=h;obtain⟨t,rfl⟩:=rx;obtain⟨t',rfl⟩:=ry;exact rule i j t t' s _ _ ⟨.bl (g i j),H,I,rfl,q⟩
def CDiv(i j:Int):Prop:=0<j/\j<1073741824
def CPow(i j:Int):Prop:=0<=j/\j<=1000000/\i.natAbs<2 ^ 64
def CMul(i j:Int):Prop:=(-(2 ^ 64)<i/\i<2 ^ 64)\/(-(2 ^ 64)<j/\j<2 ^ 64)
theorem CMul.ok{i j:Int}(h:CMul i j):IntMulOk i j:=by
 rcases h with⟨h1,h2⟩|⟨h1,h2⟩
 ·exact .of_left (intBits_le_64 h1 h2)
 ·exact .of_right (intBits_le_64 h1 h2)
theorem ZG:OpR X (d6 .Add) (rI0 λi j=>.int (i+j)):=opI0 λ_ _ _ _ _ _ _ q=>add_int q
theorem XE:OpR X (d6 .Sub) (rI0 λi j=>.int (i-j)):=opI0 λ_ _ _ _ _ _ _ q=>sub_int q
theorem JB:OpR X (d6 .Mult) (rI CMul λi j=>.int (i*j)):=opI λ_ _ _ _ _ _ _ hc q=>mul_int q hc.ok
theorem SM:OpR X (d6 .FloorDiv) (rI CDiv λi j=>.int (i / j)):=opI λi j _ _ _ _ _ hc q=>by have h1:(0:Int)<j:=hc.1;have h2:j<1073741824:=hc.2;exact floordiv_int (by omega) (by rw[Int.fdiv_eq_ediv_of_nonneg i (by omega)];exact q) (.inl (PyProof.noPylong_small (by omega)))
theorem Xu:OpR X (d6 .Mod) (rI (λ_ j=>0<j) λi j=>.int (i % j)):=opI λi j _ _ _ _ _ hc q=>by have h1:(0:Int)<j:=hc;exact mod_int' (by omega) (by rw[Int.fmod_eq_emod_of_nonneg i (by omega)];exact q)
theorem Fe:OpR X (d6 .Pow) (rI CPow λi j=>.int (i ^ j.toNat)):=opI λ_ _ _ _ _ _ _ hc q=>pow_int_small hc.1 hc.2.1 hc.2.2 q
theorem unI{f:Value->Sem Value}{g:Int->Int}(rule:∀(i:Int)(t:Tok)(s:ag)(Q:Value->ag->Prop)(E:Value->ag->Prop),Q (.int (g i) s.toks) {s with toks:=s.toks+1}->wpAny (model X.prog X.w) X.A (f (.int i t)) Q E s):UnR X f (rU λi=>.int (g i)):=by intro pins s σ H x v Q I rx h;obtain⟨i,rfl,q⟩:=h;obtain⟨t,rfl⟩:=rx;exact rule i t s _ _ ⟨.int (g i),H,I.tok _,⟨_,rfl⟩,q⟩
theorem NU:UnR X (unaryOp .USub) (rU λi=>.int (-i)):=unI λ_ _ _ _ _ q=>neg_int q
noncomputable def scal:V->V->Bool
|.non,.non=>true|.non,.int _=>true|.int _,.non=>true|.non,.bl _=>true|.bl _,.non=>true|.non,.str _=>true|.str _,.non=>true
|.int _,.int _=>true|.bl _,.bl _=>true|.str _,.str _=>true|.byt _,.byt _=>true
|.int _,.str _=>true|.str _,.int _=>true|.bl _,.str _=>true|.str _,.bl _=>true
|_,_=>false
def rEq:R2:=λx y H Q=>scal x y=true/\Q (.bl (decide (x=y))) H
def rNe:R2:=λx y H Q=>scal x y=true/\Q (.bl (!decide (x=y))) H
theorem Tp{i j:Int}:decide (V.int i=V.int j)=(i==j):=by rw[Bool.eq_iff_iff];simp
theorem Lz{i j:Bool}:decide (V.bl i=V.bl j)=(i==j):=by rw[Bool.eq_iff_iff];simp
theorem To{i j:Str}:decide (V.str i=V.str j)=(i==j):=by rw[Bool.eq_iff_iff];simp
theorem Tq{i j:Array UInt8}:decide (V.byt i=V.byt j)=(i.toList==j.toList):=by rw[Bool.eq_iff_iff];cases i;cases j;simp
theorem ZN{pins:List (Addr×Obj)}{σ:St}{H:Hp}{s:ag}{Q:VK}{k k':Bool}(I:Inv X pins σ H s)(q:Q (.bl k) H)(e:k=k'):EP X pins σ Q (.bool k') s:=by subst e;exact⟨.bl k,H,I,rfl,q⟩
theorem Xd:OpR X (bp .Eq) rEq:=by
 intro pins s σ H x y v u Q I rx ry h;obtain⟨hs,q⟩:=h;cases x with
|non=>
  cases rx;cases y with
 |non=>cases ry;exact PySem.EqNone.eq_none_none (ZN I q (by simp))
 |bl j=>cases ry;exact PySem.EqNone.eq_none_bool (ZN I q (by simp))
 |int j=>obtain⟨t',rfl⟩:=ry;exact PySem.EqNone.eq_none_int (ZN I q (by simp))
 |str j=>obtain⟨t',rfl⟩:=ry;exact PySem.EqNone.eq_none_str (ZN I q (by simp))
 |_=>exact absurd (show false=true from hs) Bool.false_ne_true
|bl i=>
  cases rx;cases y with
 |non=>cases ry;exact PySem.EqNone.eq_bool_none (ZN I q (by simp))
 |bl j=>cases ry;exact eq_bool (ZN I q Lz)
 |str j=>obtain⟨t',rfl⟩:=ry;exact PySem.EqMixed.eq_bool_str (ZN I q (by simp))
 |_=>exact absurd (show false=true from hs) Bool.false_ne_true
|int i=>
  obtain⟨t,rfl⟩:=rx;cases y with
 |non=>cases ry;exact PySem.EqNone.eq_int_none (ZN I q (by simp))
 |int j=>obtain⟨t',rfl⟩:=ry;exact eq_int (ZN I q Tp)
 |str j=>obtain⟨t',rfl⟩:=ry;exact PySem.EqMixed.eq_int_str (ZN I q (by simp))
 |_=>exact absurd (show false=true from hs) Bool.false_ne_true
|str i=>
  obtain⟨t,rfl⟩:=rx;cases y with
 |non=>cases ry;exact PySem.EqNone.eq_str_none (ZN I q (by simp))
 |bl j=>cases ry;exact PySem.EqMixed.eq_str_bool (ZN I q (by simp))
 |int j=>obtain⟨t',rfl⟩:=ry;exact PySem.EqMixed.eq_str_int (ZN I q (by simp))
 |str j=>obtain⟨t',rfl⟩:=ry;exact eq_str (ZN I q To)
 |_=>exact absurd (show false=true from hs) Bool.false_ne_true
|byt i=>
  obtain⟨t,rfl⟩:=rx;cases y with
 |byt j=>obtain⟨t',rfl⟩:=ry;exact PySem.W.eq_bytes (ZN I q Tq)
 |_=>exact absurd (show false=true from hs) Bool.false_ne_true
|_=>cases y<;>exact absurd (show false=true from hs) Bool.false_ne_true
theorem MJ:OpR X (bp .NotEq) rNe:=by
 intro pins s σ H x y v u Q I rx ry h;obtain⟨hs,q⟩:=h;cases x with
|non=>
  cases rx;cases y with
 |non=>cases ry;exact PySem.EqNone.ne_none_none (ZN I q (by simp))
 |bl j=>cases ry;exact PySem.EqNone.ne_none_bool (ZN I q (by simp))
 |int j=>obtain⟨t',rfl⟩:=ry;exact PySem.EqNone.ne_none_int (ZN I q (by simp))
 |str j=>obtain⟨t',rfl⟩:=ry;exact PySem.EqNone.ne_none_str (ZN I q (by simp))
 |_=>exact absurd (show false=true from hs) Bool.false_ne_true
|bl i=>
  cases rx;cases y with
 |non=>cases ry;exact PySem.EqNone.ne_bool_none (ZN I q (by simp))
 |bl j=>cases ry;exact ne_bool (ZN I q (congrArg not Lz))
 |str j=>obtain⟨t',rfl⟩:=ry;exact PySem.EqMixed.ne_bool_str (ZN I q (by simp))
 |_=>exact absurd (show false=true from hs) Bool.false_ne_true
|int i=>
  obtain⟨t,rfl⟩:=rx;cases y with
 |non=>cases ry;exact PySem.EqNone.ne_int_none (ZN I q (by simp))
 |int j=>obtain⟨t',rfl⟩:=ry;exact ne_int (ZN I q (congrArg not Tp))
 |str j=>obtain⟨t',rfl⟩:=ry;exact PySem.EqMixed.ne_int_str (ZN I q (by simp))
 |_=>exact absurd (show false=true from hs) Bool.false_ne_true
|str i=>
  obtain⟨t,rfl⟩:=rx;cases y with
 |non=>cases ry;exact PySem.EqNone.ne_str_none (ZN I q (by simp))
 |bl j=>cases ry;exact PySem.EqMixed.ne_str_bool (ZN I q (by simp))
 |int j=>obtain⟨t',rfl⟩:=ry;exact PySem.EqMixed.ne_str_int (ZN I q (by simp))
 |str j=>obtain⟨t',rfl⟩:=ry;exact ne_str (ZN I q (congrArg not To))
 |_=>exact absurd (show false=true from hs) Bool.false_ne_true
|byt i=>
  obtain⟨t,rfl⟩:=rx;cases y with
 |byt j=>obtain⟨t',rfl⟩:=ry;exact PySem.W.ne_bytes (ZN I q (congrArg not Tq))
 |_=>exact absurd (show false=true from hs) Bool.false_ne_true
|_=>cases y<;>exact absurd (show false=true from hs) Bool.false_ne_true
theorem SJ:OpR X (bp .Lt) (rI0 λi j=>.bl (decide (i<j))):=opB0 λ_ _ _ _ _ _ _ q=>lt_int q
theorem Nz:OpR X (bp .LtE) (rI0 λi j=>.bl (decide (i<=j))):=opB0 λ_ _ _ _ _ _ _ q=>le_int q
theorem ML:OpR X (bp .Gt) (rI0 λi j=>.bl (decide (j<i))):=opB0 λ_ _ _ _ _ _ _ q=>gt_int q
theorem UU:OpR X (bp .In) (λx y H Q=>∃i j,x=.str i/\y=.str j/\Q (.bl (!(gK j i 0 j.length 1).isEmpty)) H):=by intro pins s σ H x y v u Q I rx ry h;obtain⟨i,j,rfl,rfl,q⟩:=h;obtain⟨t,rfl⟩:=rx;obtain⟨t',rfl⟩:=ry;exact in_str (ZN I q rfl)
theorem V0:OpR X (bp .Is) (λx y H Q=>y=.non/\Q (.bl (decide (x=.non))) H):=by
 intro pins s σ H x y v u Q I rx ry h;obtain⟨rfl,q⟩:=h;cases ry;refine is_none_gen (ZN I q ?_);cases x<;>first
 |(cases rx;rfl)
 |(obtain⟨t,rfl⟩:=rx;rfl)
theorem JA:OpR X (bp .IsNot) (λx y H Q=>y=.non/\Q (.bl (!decide (x=.non))) H):=by
 intro pins s σ H x y v u Q I rx ry h;obtain⟨rfl,q⟩:=h;cases ry;refine isnot_none_gen (ZN I q ?_);cases x<;>first
 |(cases rx;rfl)
 |(obtain⟨t,rfl⟩:=rx;rfl)
theorem ZA(b:Expr){op:CmpOp}(h:op≠.In:=by decide)(h2:op≠.NotIn:=by decide):c6 op b=false:=by
 have e1:(op==CmpOp.In)=false:=by cases op<;>first|rfl|exact absurd rfl h
 have e2:(op==CmpOp.NotIn)=false:=by cases op<;>first|rfl|exact absurd rfl h2
 cases b<;>simp[c6,e1,e2]
theorem Yp{op:CmpOp}{r:R2}(ho:OpR X (bp op) r)(ha:PE X a ta)(hb:PE X b tb)(hm:c6 op b=false):PE X (.Compare a [op] [b] pos) (tOp r ta tb):=by intro pins s σ H Q I h;exact wpAny_Compare1 (binT ha hb I h λv u s2 x y H2 I2 rx ry q=>ho pins s2 σ H2 x y v u Q I2 rx ry q) hm
def PX(t:TE):TT:=λσ H Q=>t σ H λx H'=>∃k,x=.bl k/\Q k H'
theorem Zq{op:CmpOp}{r:R2}(ho:OpR X (bp op) r)(ha:PE X a ta)(hb:PE X b tb)(hm:c6 op b=false):PT X (.Compare a [op] [b] pos) (PX (tOp r ta tb)):=by
 intro pins s σ H Q I h;refine wpAny_isTrue_Compare1 (thn (ha pins s σ H _ I h) λv s1⟨x,H1,I1,r1,q1⟩=>thn (hb pins s1 σ H1 _ I1 q1) λu s2⟨y,H2,I2,r2,q2⟩=>thn (ho pins s2 σ H2 x y v u _ I2 r1 r2 q2) λc s3 hZ=>?_) hm;obtain⟨z,H3,I3,r3,k,e,q3⟩:=hZ;subst e;cases r3;exact bt ⟨H3,I3,q3⟩
def WU(r r':R2)(ta tb tc:TE):TE:=λσ H Q=>ta σ H λx H1=>tb σ H1 λy H2=>r x y H2 λz H3=>∃k,z=.bl k /\(if k=true then tc σ H3 λw' H4=>r' y w' H4 Q else Q (.bl false) H3)
theorem KQ{op op':CmpOp}{r r':R2}(ho:OpR X (bp op) r)(ho':OpR X (bp op') r')(ha:PE X a ta)(hb:PE X b tb)(hc:PE X c tc)(hm:lastMarks [op,op'] [b,c]=false:=by with_unfolding_all rfl):PE X (.Compare a [op,op'] [b,c] pos) (WU r r' ta tb tc):=by
 intro pins s σ H Q I h;refine Compare_chain (thn (ha pins s σ H _ I h) λv s1⟨x,H1,I1,r1,q1⟩=>chain_link (thn (hb pins s1 σ H1 _ I1 q1) λu s2⟨y,H2,I2,r2,q2⟩=>
  thn (ho pins s2 σ H2 x y v u _ I2 r1 r2 q2) λd s3⟨z,H3,I3,r3,k,e,q3⟩=>?_)) hm;subst e;cases r3;refine bt ?_;cases k with
|false=>exact ite_ff ⟨.bl false,H3,I3,rfl,q3⟩
|true=>exact ite_tt (chain_last (thn (hc pins s3 σ H3 _ I3 q3) λw' s4⟨z',H4,I4,r4,q4⟩=>ho' pins s4 σ H4 y z' u w' Q I4 r2 r4 q4))
theorem KC{op op':CmpOp}{r r':R2}(ho:OpR X (bp op) r)(ho':OpR X (bp op') r')(ha:PE X a ta)(hb:PE X b tb)(hc:PE X c tc)(hm:lastMarks [op,op'] [b,c]=false:=by with_unfolding_all rfl):PT X (.Compare a [op,op'] [b,c] pos) (PX (WU r r' ta tb tc)):=by
 intro pins s σ H Q I h;refine isTrue_chain (thn (ha pins s σ H _ I h) λv s1⟨x,H1,I1,r1,q1⟩=>test_link (thn (hb pins s1 σ H1 _ I1 q1) λu s2⟨y,H2,I2,r2,q2⟩=>
  thn (ho pins s2 σ H2 x y v u _ I2 r1 r2 q2) λd s3⟨z,H3,I3,r3,k,e,q3⟩=>?_)) hm;subst e;cases r3;refine bt ?_;cases k with
|false=>obtain⟨k',e',q'⟩:=q3;cases e';exact ite_ff ⟨H3,I3,q'⟩
|true=>refine ite_tt (test_last (thn (hc pins s3 σ H3 _ I3 q3) λw' s4⟨z',H4,I4,r4,q4⟩=>thn (ho' pins s4 σ H4 y z' u w' _ I4 r2 r4 q4) λd' s5⟨z2,H5,I5,r5,k2,e2,q5⟩=>?_));subst e2;cases r5;exact bt ⟨H5,I5,q5⟩
def TruV(K:aa)(x:V)(H:Hp)(k:Bool):Prop:=match x with
|.non=>k=false
|.bl b=>k=b
|.int i=>k=(i != 0)
|.str y=>y.length<=sizeLine/\k=((y.length:Int) != 0)
|.byt y=>y.size<=sizeLine/\k=((y.size:Int) != 0)
|.ref p=>(∃xs,SqL K H p xs/\k=!xs.isEmpty)\/(∃xs,SqT K H p xs/\k=!xs.isEmpty)\/∃kvs,H p=some (.dK kvs)/\k=!kvs.isEmpty
|_=>False
theorem Rt{κ:Type}{kvs:List (κ×V)}{vs:List (κ×Value)}(r:KV kvs vs):(!vs.isEmpty)=!kvs.isEmpty:=by cases r<;>rfl
theorem MT{xs:List V}{its:List Value}(r:Vals xs its):(!its.toArray.isEmpty)=!xs.isEmpty:=by cases r<;>simp
theorem JF:(sizeLine:Nat)<2 ^ 63:=by rw[sizeLine_eq];decide
theorem EG:TruR X (λx H Q=>∃k,TruV X.K x H k/\Q k H):=by
 intro pins s σ H x v Q I rx h;obtain⟨k,e,q⟩:=h;have hl:=JF;have hs:sizeLine=16777216:=sizeLine_eq;cases x with
|non=>cases rx;have e':k=false:=e;subst e';exact truthy_none ⟨H,I,q⟩
|bl b=>cases rx;have e':k=b:=e;subst e';exact bt ⟨H,I,q⟩
|int i=>obtain⟨t,rfl⟩:=rx;have e':k=(i != 0):=e;subst e';exact PySem.P.truthy_int ⟨H,I,q⟩
|str y=>obtain⟨t,rfl⟩:=rx;obtain⟨hy,e'⟩:y.length<=sizeLine/\k=((y.length:Int) != 0):=e;subst e';exact PySem.P.truthy_str (by omega) ⟨H,I.tok _,q⟩
|byt y=>obtain⟨t,rfl⟩:=rx;obtain⟨hy,e'⟩:y.size<=sizeLine/\k=((y.size:Int) != 0):=e;subst e';exact PySem.W.truthy_bytes (by omega) ⟨H,I.tok _,q⟩
|ref p=>
  cases rx;have e':(∃xs,SqL X.K H p xs/\k=!xs.isEmpty)\/(∃xs,SqT X.K H p xs/\k=!xs.isEmpty)\/∃kvs,H p=some (.dK kvs)/\k=!kvs.isEmpty:=e;rcases e' with⟨xs,hx,e'⟩|⟨xs,hx,e'⟩|⟨kvs,hx,e'⟩
  ·subst e';obtain⟨its,r,pl,hz⟩:=I.list hx;have hlen:=r.length;exact wpAny_truthy_list pl.isList (by simp only[aq];omega) ⟨H,I.tok _,by rw[MT r];exact q⟩
  ·subst e';obtain⟨its,r,pl,hz⟩:=I.tuple hx;have hlen:=r.length;exact truthy_tuple pl (by simp only[aq];omega) ⟨H,I.tok _,by rw[MT r];exact q⟩
  ·subst e';obtain⟨hz,hS,vs,r,m⟩:kvs.length<=sizeLine/\(p==sysModules)=false/\∃vs,KV kvs vs/\s.heap.DictOf (ZI X.prog X.w) p vs:=I.hok p _ hx;have hlen:kvs.length=vs.length:=aL r;exact wpAny_truthy_dict hS m (by omega) ⟨H,I.tok _,by rw[Rt r];exact q⟩
|_=>exact(show False from e).elim
theorem JC:OpR X (d6 .Add) (λx y H Q=>∃i j,x=.str i/\y=.str j/\i.length+j.length<=sizeLine/\Q (.str (i++j)) H):=by intro pins s σ H x y v u Q I rx ry h;obtain⟨i,j,rfl,rfl,hz,q⟩:=h;obtain⟨t,rfl⟩:=rx;obtain⟨t',rfl⟩:=ry;exact add_str (λt' tk=>⟨.str (i++j),H,I.tok _,⟨_,rfl⟩,q⟩) hz
theorem vals1{x:V}{us:List Value}(r:Vals [x] us):∃u,us=[u]/\RelV x u:=by
 cases r with
|cons r1 r2=>cases r2;exact⟨_,rfl,r1⟩
theorem vals2{x y:V}{us:List Value}(r:Vals [x,y] us):∃u w',us=[u,w']/\RelV x u/\RelV y w':=by
 cases r with
|cons r1 r2=>
  cases r2 with
 |cons r3 r4=>cases r4;exact⟨_,_,rfl,r1,r3⟩
theorem GR(hc:X.calm=true):YS X (.builtin "max") (λxs H Q=>∃i j,xs=[.int i,.int j]/\Q (.int (if j>i then j else i)) H):=by
 intro pins s σ H xs us Q I r h;obtain⟨i,j,rfl,q⟩:=h;obtain⟨u,w',rfl,⟨t,rfl⟩,⟨t',rfl⟩⟩:=vals2 r;refine max_two_ints (I.ok.hd hc) λh' tk k=>⟨_,H,I.kept k,?_,q⟩;by_cases hj:j>i
 ·rw[if_pos hj,if_pos hj];exact⟨_,rfl⟩
 ·rw[if_neg hj,if_neg hj];exact⟨_,rfl⟩
theorem NP(hc:X.calm=true):YS X (.builtin "min") (λxs H Q=>∃i j,xs=[.int i,.int j]/\Q (.int (if j<i then j else i)) H):=by
 intro pins s σ H xs us Q I r h;obtain⟨i,j,rfl,q⟩:=h;obtain⟨u,w',rfl,⟨t,rfl⟩,⟨t',rfl⟩⟩:=vals2 r;refine min_two_ints (I.ok.hd hc) λh' tk k=>⟨_,H,I.kept k,?_,q⟩;by_cases hj:j<i
 ·rw[if_pos hj,if_pos hj];exact⟨_,rfl⟩
 ·rw[if_neg hj,if_neg hj];exact⟨_,rfl⟩
theorem GU:YS X (.type "int") (λxs H Q=>(∃i,xs=[.int i]/\Q (.int i) H)\/∃k,xs=[.bl k]/\Q (.int (if k then 1 else 0)) H):=by
 intro pins s σ H xs us Q I r h;rcases h with⟨i,rfl,q⟩|⟨k,rfl,q⟩
 ·obtain⟨u,rfl,t,rfl⟩:=vals1 r;exact call_int_int ⟨.int i,H,I,⟨_,rfl⟩,q⟩
 ·obtain⟨u,rfl,r1⟩:=vals1 r;cases r1;exact call_int_bool ⟨.int (if k then 1 else 0),H,I.tok _,⟨_,rfl⟩,q⟩
theorem UI:YS X (.type "str") (λxs H Q=>∃i,xs=[.int i]/\i.natAbs.log2<1920/\Q (.str (toString i)) H):=by intro pins s σ H xs us Q I r h;obtain⟨i,rfl,hz,q⟩:=h;obtain⟨u,rfl,t,rfl⟩:=vals1 r;exact PySem.P.str_of_int hz ⟨.str _,H,I.tok _,⟨_,rfl⟩,q⟩
def LenV(K:aa)(x:V)(H:Hp)(n:Nat):Prop:=match x with
|.str y=>y.length<=sizeLine/\n=y.length
|.byt y=>y.size<=sizeLine/\n=y.size
|.ref p=>(∃xs,SqL K H p xs/\n=xs.length)\/∃xs,SqT K H p xs/\n=xs.length
|_=>False
theorem LR:YS X (.builtin "len") (λxs H Q=>∃x n,xs=[x]/\LenV X.K x H n/\Q (.int n) H):=by
 intro pins s σ H xs us Q I r h;obtain⟨x,n,rfl,e,q⟩:=h;obtain⟨u,rfl,rx⟩:=vals1 r;have hl:=JF;have hs:sizeLine=16777216:=sizeLine_eq;cases x with
|str y=>obtain⟨t,rfl⟩:=rx;obtain⟨hy,e'⟩:y.length<=sizeLine/\n=y.length:=e;subst e';exact len_str (by omega) ⟨.int _,H,I.tok _,⟨_,rfl⟩,q⟩
|byt y=>obtain⟨t,rfl⟩:=rx;obtain⟨hy,e'⟩:y.size<=sizeLine/\n=y.size:=e;subst e';exact PySem.W.len_bytes (by omega) ⟨.int _,H,I.tok _,⟨_,rfl⟩,q⟩
|ref p=>
  cases rx;have e':(∃xs,SqL X.K H p xs/\n=xs.length)\/∃xs,SqT X.K H p xs/\n=xs.length:=e;rcases e' with⟨xs,hx,e'⟩|⟨xs,hx,e'⟩
  ·subst e';obtain⟨its,r',pl,hz⟩:=I.list hx;have hlen:=r'.length;exact Calls.call_len_list pl.isList (by simp only[aq];omega) ⟨.int xs.length,H,I.tok _,⟨_,by simp only[aq];rw[hlen]⟩,q⟩
  ·subst e';obtain⟨its,r',pl,hz⟩:=I.tuple hx;have hlen:=r'.length;exact len_tuple pl (by simp only[aq];omega) ⟨.int xs.length,H,I.tok _,⟨_,by simp only[aq];rw[hlen]⟩,q⟩
|_=>exact(show False from e).elim
end
open PySem PySem.Spec PyProof.Rows
structure ObjM(h:Heap)(x dx C:Addr)(mA:Str->Option Value):Prop where
 obj:h.get? x=some (cj C dx)
 ns:h.Ns1 dx mA
 ne:dx≠x
theorem TZ{h:Heap}{dx:Addr}{mA:Str->Option Value}(n:h.Ns1 dx mA):∃od,h.get? dx=some od/\∀name,ft name od=some (mA name):=by
 obtain⟨o,es,ep,ho,hd,hk,_,hm⟩:=n;refine⟨o,ho,λname=>?_⟩;have e:=hm name;unfold nsFind findBy at e;rw[<-Array.find?_toList]at e;unfold ft;rw[hd];dsimp only;split
 ·rename_i y q;rw[q]at e;exact congrArg some e
 ·rename_i q;rw[q]at e;have a:es.toList.any (·.refKey)=false:=by rw[eT];intro y hy;obtain⟨z,t,hkey⟩:=hk y (dO.mp hy);simp[DictEntry.refKey,hkey]
  have a':¬es.toList.any (·.refKey)=true:=by rw[a];exact Bool.false_ne_true
  rw[if_neg a'];exact congrArg some e
theorem ObjM.look{h:Heap}{x dx C:Addr}{mA:Str->Option Value}(I:ObjM h x dx C mA):∃od,PySem.W.InstAt h x (cj C dx) C (some od)/\∀name,ft name od=some (mA name):=let ⟨od,ho,hl⟩:=TZ I.ns
 ⟨od,⟨I.obj,rfl,rfl,ho⟩,hl⟩
section
variable {prog:Program}{w:World}{A:bz}{E:Value->ag->Prop}{s:ag}{K:aa}{x dx C f:Addr}{mA:Str->Option Value}{name:Str}{v:Value}
theorem get_map{expr:Bool}{Q:Value->ag->Prop}(X:K.In s.heap)(I:ObjM s.heap x dx C mA)(hg:c5 K C name=true)(hh:du K C=true)(ha:aO K (.ref C) name=some none)(hv:mA name=some v)(hv':PySem.W.handedIn v=true)(h:Q v {s with toks:=s.toks+1}):wpAny (model prog w) A (getAttr (.ref x) name expr) Q E s:=by obtain⟨od,J,hl⟩:=I.look;exact PySem.W.get_value X J (fA hg).1 (PySem.W.findObj_own hh ha rfl (by rw[hl,hv])) hv' h
theorem Lr{pl:Sem Bool}{Q:Value×List Value->ag->Prop}(X:K.In s.heap)(I:ObjM s.heap x dx C mA)(hg:c5 K C name=true)(hf:aO K (.ref C) name=some (some (.ref f)))(ht:dR K (.ref f)=true)(hv:mA name=none)(h:Q (.ref f,[.ref x]) s):wpAny (model prog w) A (eU (.ref x) name pl) Q E s:=by obtain⟨od,J,hl⟩:=I.look;exact PySem.W.method_fn X J (fA hg).1 (fA hg).2 hf (beq_iff_eq.mp ht) (by show(ft name od).map (·.isSome)=some false;rw[hl,hv];rfl) h
theorem Dj{ns:List Str}{Q:Unit->ag->Prop}(X:K.In s.heap)(I:ObjM s.heap x dx C mA)(hs:aO K (.ref C) "__setattr__"=some (some (.builtin "object.__setattr__")))(hp:d_ K C=true)(ht:gy K C name=some none)(hh:du K C=true)(hw:PySem.Within mA ns)(hsz:ns.length<=sizeLine)(h:∀h',ObjM h' x dx C (λy=>if y=name then some v else mA y)->Heap.SameBut dx s.heap h'->Q () {s with heap:=h',toks:=s.toks+2}):wpAny (model prog w) A (setAttr (.ref x) name v) Q E s:=by obtain⟨od,J,hl⟩:=I.look;refine PySem.W.set_plain X J hs (PySem.W.osa_open (s:={s with toks:=s.toks+1}) (r:=none) X J hp ht λb=>?_);obtain⟨cd,hc,hd'⟩:=PySem.W.any_some hh;have hx:s.heap.get? x=some ⟨.ref C,some dx,.plain,#[]⟩:=I.obj;refine ae (ai (ae (ae (wpAny_loadPart hx (ae (PySem.W.Looks.here (s:={s with toks:=s.toks+1}) (PySem.W.looks_clsIn X hc) ?_))))));rw[hd'];refine ai (a:=some dx) (ae (ai (ae ?_)));refine wpAny_nsSet1 (s:={s with toks:=s.toks+1}) I.ns λh' hn2 hs2=>?_;obtain⟨oD,esD,epD,hoD,hdD,hcD⟩:=hn2.count (PySem.Within.cons name v hw);refine ae (wpAny_lookBehind hoD (by rw[hdD];exact pastItsLine_dict (Nat.le_trans hcD (by rw[aW];omega))) ?_);exact ai (h _ ⟨(hs2.2 _ (bD I.ne)).trans I.obj,hn2,I.ne⟩ hs2)
theorem Lf{R:Result->ag->Prop}{vs:List Value}{kw:List (Str×Value)}(X:K.In s.heap)(hm:e_ K C=true)(hi:aO K (.ref C) "__init__"=some (some (.ref f)))(hf:PySem.W.typeIn K (.ref f)=some (.type "function"))(h:fG (model prog w) (A.under (.builtin "type.__call__" ⟨.ref C::vs,kw⟩)) (.call (.ref f) ⟨.ref (s.heap.objs.size+1)::vs,kw⟩) (PySem.W.InitBack (s.heap.objs.size+1) R) {s with heap:=(s.heap.push bP).push (cj C s.heap.objs.size)}):fG (model prog w) A (.call (.ref C) ⟨vs,kw⟩) R s:=by obtain⟨hh,g,d,t,os⟩:=s;exact PySem.W.make_core (PySem.W.makes_of X hm) (PySem.W.looks_findIn X hi) (λself=>PySem.W.bind_fn X self hf) (.inl rfl) h
end
noncomputable def putF(f:Str)(v:V):List (Str×V)->List (Str×V)
|[]=>[(f,v)]
|(g,x)::r=>if g=f then(g,v)::r else(g,x)::putF f v r
theorem Yq(f g:Str)(v:V):∀fs:List (Str×V),(putF f v fs).lookup g=if g=f then some v else fs.lookup g
|[]=>by
  show dQ g [(f,v)]=_;by_cases h:g=f
  ·have hb:(g==f)=true:=beq_iff_eq.mpr h;simp only[dQ,hb,if_pos h]
  ·have hb:(g==f)=false:=beq_eq_false_iff_ne.mpr h;simp only[dQ,hb,if_neg h]
|(k,x)::r=>by
  have ih:=Yq f g v r;rw[show putF f v ((k,x)::r)=(if k=f then(k,v)::r else(k,x)::putF f v r)from rfl];by_cases hk:k=f
  ·rw[if_pos hk];by_cases h:g=k
   ·have hb:(g==k)=true:=beq_iff_eq.mpr h;simp only[dQ,hb,if_pos (h.trans hk)]
   ·have hb:(g==k)=false:=beq_eq_false_iff_ne.mpr h;simp only[dQ,hb,if_neg (λe:g=f=>h (e.trans hk.symm))]
  ·rw[if_neg hk];by_cases h:g=k
   ·have hb:(g==k)=true:=beq_iff_eq.mpr h;simp only[dQ,hb,if_neg (λe:g=f=>hk (h.symm.trans e))]
   ·have hb:(g==k)=false:=beq_eq_false_iff_ne.mpr h;simp only[dQ,hb];exact ih
theorem UX(f:Str)(v:V):∀fs:List (Str×V),f∈(putF f v fs).map (·.1)/\∀g,g∈fs.map (·.1)->g∈(putF f v fs).map (·.1)
|[]=>⟨by simp[putF],λg h=>by simp at h⟩
|(k,x)::r=>by
  obtain⟨i1,i2⟩:=UX f v r;rw[show putF f v ((k,x)::r)=(if k=f then(k,v)::r else(k,x)::putF f v r)from rfl];by_cases hk:k=f
  ·rw[if_pos hk];subst hk;exact⟨by simp,λg h=>by simpa using h⟩
  ·rw[if_neg hk];refine⟨?_,λg h=>?_⟩
   ·rw[ar];exact av _ i1
   ·rw[ar]at h ⊢;rcases ao.mp h with e|e
    ·exact ao.mpr (.inl e)
    ·exact av _ (i2 g e)
theorem Y6(f:Str)(v:V):∀fs:List (Str×V),(putF f v fs).length<=fs.length+1
|[]=>by simp[putF]
|(k,x)::r=>by
  have ih:=Y6 f v r;rw[show putF f v ((k,x)::r)=(if k=f then(k,v)::r else(k,x)::putF f v r)from rfl];by_cases hk:k=f
  ·rw[if_pos hk,aW,aW];omega
  ·rw[if_neg hk,aW,aW];omega
theorem RelO.some_of{v:V}{o:Option Value}(r:RelO (some v) o):∃u,o=some u/\RelV v u:=by
 cases o with
|none=>exact(show False from r).elim
|some u=>exact⟨u,rfl,r⟩
theorem RelO.none_of{o:Option Value}(r:RelO none o):o=none:=by
 cases o with
|none=>rfl
|some u=>exact(show False from r).elim
theorem Wf{v:V}{u:Value}(r:RelV v u):PySem.W.handedIn u=true:=by
 cases v with
|non=>cases(show u=Value.none from r);rfl
|bl b=>cases(show u=Value.bool b from r);rfl
|int i=>obtain⟨t,e⟩:=(show ∃t,u=Value.int i t from r);cases e;rfl
|str x=>obtain⟨t,e⟩:=(show ∃t,u=Value.str x t from r);cases e;rfl
|byt b=>obtain⟨t,e⟩:=(show ∃t,u=Value.bytes b t from r);cases e;rfl
|flt b=>obtain⟨t,e⟩:=(show ∃t,u=Value.float b t from r);cases e;rfl
|ref a=>cases(show u=Value.ref a from r);rfl
|ty n=>cases(show u=Value.type n from r);rfl
section
variable {P:Program}{w:World}{H H':Hp}{h h':Heap}{a C dx:Addr}{fs fs':List (Str×V)}
theorem Mh(hok:HOk P w H h)(e:H a=some (.ins C dx fs)):∃mA,ObjM h a dx C mA/\(∀f,RelO (fs.lookup f) (mA f))/\PySem.Within mA (fs.map (·.1))/\fs.length<=1000/\H dx=some (.own a):=by obtain⟨d,z,ne,ob,mA,n,r,q⟩:=(show Z4 P w H h a (.ins C dx fs)from hok a _ e);exact⟨mA,⟨ob,n,ne⟩,r,q,z,d⟩
end
structure Cls(K:aa)(C:Addr):Prop where
 pg:c5 K C Str.empty=true
 hd:du K C=true
 po:d_ K C=true
 sa:aO K (.ref C) "__setattr__"=some (some (.builtin "object.__setattr__"))
theorem Cls.get{K:aa}{C:Addr}(c:Cls K C)(f:Str):c5 K C f=true:=c.pg
def JK(K:aa)(C:Addr)(f:Str):Prop:=aO K (.ref C) f=some none
theorem JK.taker{K:aa}{C:Addr}{f:Str}(n:JK K C f):gy K C f=some none:=by unfold gy;rw[show aO K (.ref C) f=some none from n];rfl
structure Meth(K:aa)(C:Addr)(m:Str)(f:Addr):Prop where
 at_:aO K (.ref C) m=some (some (.ref f))
 fn:dR K (.ref f)=true
 kp:bu K (.ref f)=true
section
variable {X:Cx}{pins:List (Addr×Obj)}{σ:St}{H:Hp}{s:ag}{a C dx:Addr}{fs:List (Str×V)}{f:Str}{v:V}{A:bz}{E:Value->ag->Prop}
theorem Rw{b:Bool}{Q:Value->ag->Prop}(I:Inv X pins σ H s)(e:H a=some (.ins C dx fs))(c:Cls X.K C)(n:JK X.K C f)(l:fs.lookup f=some v)(h:∀u s',Inv X pins σ H s'->RelV v u->Q u s'):wpAny (model X.prog X.w) A (getAttr (.ref a) f b) Q E s:=by obtain⟨mA,O,r,_,_,_⟩:=Mh I.hok e;obtain⟨u,hu,ru⟩:=RelO.some_of (v:=v) (o:=mA f) (by rw[<-l];exact r f);exact get_map I.kIn O (c.get f) c.hd n hu (Wf ru) (h u _ (I.tok _) ru)
theorem V2{m:Str}{g:Addr}{pl:Sem Bool}{Q:Value×List Value->ag->Prop}(I:Inv X pins σ H s)(e:H a=some (.ins C dx fs))(c:Cls X.K C)(k:Meth X.K C m g)(l:fs.lookup m=none)(h:Q (.ref g,[.ref a]) s):wpAny (model X.prog X.w) A (eU (.ref a) m pl) Q E s:=by obtain⟨mA,O,r,_,_,_⟩:=Mh I.hok e;have hn:mA m=none:=RelO.none_of (by rw[<-l];exact r m);exact Lr I.kIn O (c.get m) k.at_ k.fn hn h
theorem Q2{y:V}{u:Value}{Q:Unit->ag->Prop}(I:Inv X pins σ H s)(e:H a=some (.ins C dx fs))(c:Cls X.K C)(n:JK X.K C f)(hl:fs.length<1000)(ry:RelV y u)(h:∀s',Inv X pins σ (upd H a (.ins C dx (putF f y fs))) s'->Q () s'):wpAny (model X.prog X.w) A (setAttr (.ref a) f u) Q E s:=by
 obtain⟨mA,O,r,wi,_,ho⟩:=Mh I.hok e;have hz:(fs.map (·.1)).length<=sizeLine:=by rw[bw,sizeLine_eq];omega
 refine Dj I.kIn O c.sa c.po n.taker c.hd wi hz λh' O' sb=>h _ ?_;have hd:∃o,h'.get? dx=some o:=let ⟨o,_,_,e',_⟩:=O'.ns;⟨o,e'⟩
 refine I.write (x:=a) (e:=dx) (by rw[e];exact bK) (.inr ho) (λb q hb z=>(sb.2 b hb).trans z) hd ?_;refine⟨by rw[Zj O.ne];exact ho,?_,O.ne,O'.obj,_,O'.ns,λg=>?_,λg hg=>?_⟩
 ·have:=Y6 f y fs;omega
 ·show RelO ((putF f y fs).lookup g) (if g=f then some u else mA g);rw[Yq];by_cases q:g=f
  ·rw[if_pos q,if_pos q];exact ry
  ·rw[if_neg q,if_neg q];exact r g
 ·by_cases q:g=f
  ·rw[q];exact(UX f y fs).1
  ·refine(UX f y fs).2 g (wi g λz=>hg ?_);show(if g=f then some u else mA g)=none;rw[if_neg q];exact z
theorem Inv.made(I:Inv X pins σ H s):Inv X pins σ (upd (upd H s.heap.objs.size (.own (s.heap.objs.size+1))) (s.heap.objs.size+1) (.ins C s.heap.objs.size [])) {s with heap:=(s.heap.push bP).push (cj C s.heap.objs.size)}:=by
 have e1:(s.heap.push bP).get? s.heap.objs.size=some bP:=Heap.get?_push_size s.heap rfl;have e2:((s.heap.push bP).push (cj C s.heap.objs.size)).get? (s.heap.objs.size+1)=some (cj C s.heap.objs.size):=by have:=Heap.get?_push_size (s.heap.push bP) (o:=cj C s.heap.objs.size) rfl;rwa [Heap.size_push]at this
 have e3:(s.heap.push bP).Ns s.heap.objs.size (λ_=>none):=⟨bP,#[],_,e1,rfl,(λe he=>absurd he (by simp)),λ_=>rfl⟩;have I1:=I.laid (a:=s.heap.objs.size) (o:=.own (s.heap.objs.size+1)) (h':=s.heap.push bP) (t':=s.toks) (λb u q=>Heap.get?_push_of_some _ q) (Nat.le_refl _) ⟨_,e1⟩;refine I1.laid (a:=s.heap.objs.size+1) (o:=.ins C s.heap.objs.size []) (t':=s.toks) (λb u q=>Heap.get?_push_of_some _ q) (Nat.le_of_eq (Heap.size_push _ _)) ?_;have ne:s.heap.objs.size≠s.heap.objs.size+1:=Nat.ne_of_lt (Nat.lt_succ_self _);refine⟨by rw[Zj ne,Zf],Nat.zero_le _,ne,e2,λ_=>none,(Heap.Ns1.of_empty e3).at λo q=>Heap.get?_push_of_some _ q,λ_=>bK,λy hy=>absurd rfl hy⟩
theorem Ed{prog:Program}{w:World}{env:Env}{e:Expr}{f:Str}{pos:Pos}{s:ag}{Q:Value->ag->Prop}(hb:fo e f env (eval e env)=eval e env)(h:wpAny (model prog w) A (eval e env) (λo s₁=>wpAny (model prog w) A (getAttr o f true) Q E s₁) E s):wpAny (model prog w) A (eval (.Attribute e f pos) env) Q E s:=Attribute_any_ h (by rw[arm_eval_Attribute,hb])
end
def tFld(K:aa)(ta:TE)(f:Str):TE:=λσ H Q=>ta σ H λx H1=>∃a C dx fs v,x=.ref a/\H1 a=some (.ins C dx fs)/\Cls K C/\JK K C f/\fs.lookup f=some v/\Q v H1
def sFld(K:aa)(ta tv:TE)(f:Str):TS:=λD σ H=>tv σ H λy H1=>ta σ H1 λx H2=>∃a C dx fs,x=.ref a/\H2 a=some (.ins C dx fs)/\Cls K C/\JK K C f/\fs.length<1000 /\D.nx σ (upd H2 a (.ins C dx (putF f y fs)))
section
variable {X:Cx}{o e value:Expr}{f:Str}{pos pos' tpos:Pos}{ta tv:TE}
theorem Z2(he:PE X e ta)(hb:fo e f X.env (eval e X.env)=eval e X.env):PE X (.Attribute e f pos) (tFld X.K ta f):=by intro pins s σ H Q I h;refine Ed hb (thn (he pins s σ H _ I h) λu s1 hZ=>?_);obtain⟨x,H1,I1,rx,a,C,dx,fs,v,ex,ea,c,n,l,q⟩:=hZ;subst ex;obtain rfl:u=Value.ref a:=rx;exact Rw I1 ea c n l λu' s2 I2 ru=>⟨v,H1,I2,ru,q⟩
theorem Xb(ha:PE X o ta)(hv:PE X value tv)(hs:fz value (some (.Attribute o f pos')) pos.line X.env=pure false):PS X (.Assign [.Attribute o f pos'] value pos) (sFld X.K ta tv f):=by intro pins s σ H D I h;refine plainObj_wpAny_Assign_Attribute (thn (hv pins s σ H _ I h) λu s1⟨y,H1,I1,ry,q⟩=>thn (ha pins s1 σ H1 _ I1 q) λov s2 hZ=>?_) hs;obtain⟨x,H2,I2,rx,a,C,dx,fs,ex,ea,c,n,l,q2⟩:=hZ;subst ex;obtain rfl:ov=Value.ref a:=rx;exact Q2 I2 ea c n l ry λs3 I3=>⟨σ,_,I3,q2⟩
theorem Ep{pl:Sem Bool}{m:Str}{apos:Pos}{args:List Expr}{pins:List (Addr×Obj)}{s:ag}{σ:St}{H:Hp}{Q:Value->ag->Prop}{te:TE}(he:PE X e te)(I:Inv X pins σ H s)
  (h:te σ H λx H1=>∃a C dx fs g,x=.ref a/\H1 a=some (.ins C dx fs)/\Cls X.K C/\Meth X.K C m g/\fs.lookup m=none /\
   ∀s1,Inv X pins σ H1 s1->wpAny (model X.prog X.w) X.A (f_ pos (.ref g) [.ref a] (cf pos (aN args X.env)) (d8 pos (cW [] X.env))) Q X.xe s1)
  (ht:eval (.Call (.Attribute e m apos) args [] pos) X.env=(do
   let ov <-eval e X.env
   gm apos.atName
   let (f,first) <-dY [ov] (eU ov m pl)
   f_ pos f first (cf pos (aN args X.env)) (d8 pos (cW [] X.env)))):
  wpAny (model X.prog X.w) X.A (eval (.Call (.Attribute e m apos) args [] pos) X.env) Q X.xe s:=by
 refine dw (pl:=pl) (thn (he pins s σ H _ I h) λu s1 hZ=>?_) ht;obtain⟨x,H1,I1,rx,a,C,dx,fs,g,ex,ea,c,k,l,q⟩:=hZ
 subst ex
 obtain rfl:u=Value.ref a:=rx
 exact V2 I1 ea c k l (q s1 I1)
end
section
variable {X:Cx}{pins:List (Addr×Obj)}{σ:St}{H:Hp}{s:ag}{A:bz}{E:Value->ag->Prop}{Q:Value->ag->Prop}{c:Value}{b:Bool}
inductive TyOf(K:aa)(H:Hp):V->Value->Prop where
|non:TyOf K H .non (.type "NoneType")
|bl (x:Bool):TyOf K H (.bl x) (.type "bool")
|int (i:Int):TyOf K H (.int i) (.type "int")
|str (x:Str):TyOf K H (.str x) (.type "str")
|flt (x:UInt64):TyOf K H (.flt x) (.type "float")
|lst {a:Addr}{xs:List V} (e:H a=some (.lst xs)):TyOf K H (.ref a) (.type "list")
|frz {a:Addr}{o:Obj}{xs:List V} (e:H a=some (.frz o (.lst xs))):TyOf K H (.ref a) (.type "list")
|tup {a:Addr}{xs:List V} (e:H a=some (.tup xs)):TyOf K H (.ref a) (.type "tuple")
|dK {a:Addr}{kvs:List (Key×V)} (e:H a=some (.dK kvs)):TyOf K H (.ref a) (.type "dict")
|dT {a:Addr}{kvs:List (List Key×V)} (e:H a=some (.dT kvs)):TyOf K H (.ref a) (.type "dict")
|ins {a C dx:Addr}{fs:List (Str×V)} (e:H a=some (.ins C dx fs)) (cl:Cls K C) (ha:aO K (.ref C) "__class__"=some (some (.builtin "object.__class__")))
   (hn:fT K (.builtin "object.__class__") "__get__"=some (some (.builtin "getset_descriptor.__get__"))) (htk:PySem.W.takesIn K (.builtin "object.__class__")=some true)
   (hm:PySem.W.mroIn K C (.type "object")=some true):TyOf K H (.ref a) (.ref C)
theorem Wb{x:V}{u t:Value}(I:Inv X pins σ H s)(rx:RelV x u)(ty:TyOf X.K H x t)(e:aH X.K t c=some b)(h:∀tk,Q (.bool b) {s with toks:=tk}):wpAny (model X.prog X.w) A (call (.builtin "isinstance") [u,c]) Q E s:=by
 cases ty with
|non=>cases(show u=Value.none from rx);exact bL PySem.W.kitx_none I.kIn bK e (λz=>nomatch z) h
|bl y=>cases(show u=Value.bool y from rx);exact bL PySem.W.kitx_bool I.kIn bK e (λz=>nomatch z) h
|int i=>obtain⟨t,q⟩:=(show ∃t,u=Value.int i t from rx);cases q;exact bL PySem.W.kitx_int I.kIn bK e (λz=>nomatch z) h
|str y=>obtain⟨t,q⟩:=(show ∃t,u=Value.str y t from rx);cases q;exact bL PySem.W.kitx_str I.kIn bK e (λz=>nomatch z) h
|flt y=>obtain⟨t,q⟩:=(show ∃t,u=Value.float y t from rx);cases q;exact bL PySem.W.kitx_float I.kIn bK e (λz=>nomatch z) h
|@lst a xs ea=>cases(show u=Value.ref a from rx);obtain⟨_,_,n,_,h1⟩:=(show Z4 X.prog X.w H s.heap a (.lst xs)from I.hok a _ ea);exact bL fV I.kIn ⟨_,h1,rfl⟩ e (λz=>nomatch z) h
|@frz a ob xs ea=>cases(show u=Value.ref a from rx);obtain⟨_,_,_,n,_,h1⟩:=(show Z4 X.prog X.w H s.heap a (.frz ob (.lst xs))from I.hok a _ ea);exact bL fV I.kIn ⟨_,h1,rfl⟩ e (λz=>nomatch z) h
|@tup a xs ea=>cases(show u=Value.ref a from rx);obtain⟨_,_,_,p⟩:=(show Z4 X.prog X.w H s.heap a (.tup xs)from I.hok a _ ea);obtain⟨o,h1,h2,_⟩:=p;exact bL PySem.W.kitx_tuple I.kIn ⟨o,h1,h2⟩ e (λz=>nomatch z) h
|@dK a kvs ea=>cases(show u=Value.ref a from rx);obtain⟨_,_,vs,_,p⟩:=(show Z4 X.prog X.w H s.heap a (.dK kvs)from I.hok a _ ea);obtain⟨o,es,ep,h1,h2,_⟩:=p;exact bL fW I.kIn ⟨o,h1,h2.1⟩ e (λz=>nomatch z) h
|@dT a kvs ea=>cases(show u=Value.ref a from rx);obtain⟨_,_,xs,_,o,es,ep,h1,h2,_⟩:=(show Z4 X.prog X.w H s.heap a (.dT kvs)from I.hok a _ ea);exact bL fW I.kIn ⟨o,h1,h2.1⟩ e (λz=>nomatch z) h
|@ins a C dx fs ea cl ha hn htk hm=>cases(show u=Value.ref a from rx);obtain⟨mA,O,_⟩:=Mh I.hok ea;obtain⟨od,J,_⟩:=O.look;exact bL (PySem.W.kitx_own (cl.get _) cl.hd ha hn htk hm) I.kIn J e (λz=>nomatch z) h
end
open PySem PySem.Spec PyProof.Rows
structure Room(k:Nat)(A:bz):Prop where
 hd:A.handled=none
 dp:A.depth+3*k+5<recursionLimit
 un:A.units+16*k+200<cLine
 gd:A.guards=some []
theorem Room.mono{j k:Nat}{A:bz}(r:Room k A)(h:j<=k):Room j A:=⟨r.hd,by have:=r.dp;omega,by have:=r.un;omega,r.gd⟩
theorem Room.deeper{k:Nat}{A:bz}(r:Room (k+1) A)(env:Env):Room k (A.deeper env):=⟨r.hd,by have:=r.dp;show A.depth+1+3*k+5<_;omega,by have:=r.un;show A.units+3+16*k+200<_;omega,r.gd⟩
theorem Rm{A:bz}{C:Addr}{us:List Value}{kw:List (Str×Value)}:(A.under (.builtin "type.__call__" ⟨.ref C::us,kw⟩)).depth=A.depth+1:=by first|rfl|simp[fX,Code.weight,Code.isCreation,Code.isGuard,Code.isCaller,Code.frames,Code.isFrame,guardIds]
theorem Rl{A:bz}{C:Addr}{us:List Value}{kw:List (Str×Value)}:(A.under (.builtin "type.__call__" ⟨.ref C::us,kw⟩)).units=A.units+1:=by first|rfl|simp[fX,Code.cUnits,Code.frames,Code.isFrame]
theorem Qp{A:bz}{C:Addr}{us:List Value}{kw:List (Str×Value)}:(A.under (.builtin "type.__call__" ⟨.ref C::us,kw⟩)).guards=A.guards:=by first|rfl|simp[fX,Code.guards,Code.isGuard,pushGuards,guardIds]
theorem Room.make{k:Nat}{A:bz}(r:Room (k+1) A)(C:Addr)(us:List Value)(kw:List (Str×Value)):Room k (A.under (.builtin "type.__call__" ⟨.ref C::us,kw⟩)):=⟨r.hd,by have:=r.dp;rw[Rm];omega,by have:=r.un;rw[Rl];omega,by rw[Qp];exact r.gd⟩
theorem Room.depth{k:Nat}{A:bz}(r:Room k A):A.depth<recursionLimit:=by have:=r.dp;omega
theorem Room.units{k:Nat}{A:bz}(r:Room k A):A.units+64<cLine:=by have:=r.un;omega
def tNil:TA:=λ_ H Q=>Q [] H
def Yl(ta:TE)(tr:TA):TA:=λσ H Q=>ta σ H λx H1=>tr σ H1 λxs H2=>Q (x::xs) H2
section
variable {X:Cx}{e:Expr}{es:List Expr}{te:TE}{t:TA}{pos:Pos}
theorem Zk:PA X [] tNil:=λ_ _ _ _ H Q I h=>Calls.spliced_nil ⟨[],H,I,.nil,h⟩
theorem Zh(ha:PE X e te)(hr:PA X es t)(hs:aN (e::es) X.env=(false,eval e X.env)::aN es X.env:=by rfl):PA X (e::es) (Yl te t):=by intro pos pins s σ H Q I h;rw[hs];show wpAny _ _ (spliced ((false,eval e X.env)::cf pos (aN es X.env))) _ _ s;refine Calls.spliced_cons (thn (ha pins s σ H _ I h) λu s1 hZ=>?_);obtain⟨x,H1,I1,r1,q1⟩:=hZ;exact thn (hr pos pins s1 σ H1 _ I1 q1) λus s2⟨xs,H2,I2,r2,q2⟩=>⟨x::xs,H2,I2,.cons r1 r2,q2⟩
def tTup(t:TA):TE:=λσ H Q=>t σ H λxs H1=>xs.length<=sizeLine/\∀p,H1 p=none->Q (.ref p) (upd H1 p (.tup xs))
def tLst(t:TA):TE:=λσ H Q=>t σ H λxs H1=>xs.length<=sizeLine/\∀p,H1 p=none->Q (.ref p) (upd H1 p (.lst xs))
theorem Zw{x1}(h:PA X es t):PE X (.Tuple es x1 pos) (tTup t):=by intro pins s σ H Q I hq;refine wpAny_Tuple_spliced (thn (h pos pins s σ H _ I hq) λus s1⟨xs,H1,I1,r,z,q⟩=>⟨by rw[<-r.length];exact z,?_⟩);have hf:H1 s1.heap.objs.size=none:=I1.hok.fresh (Nat.le_refl _);refine⟨.ref s1.heap.objs.size,upd H1 s1.heap.objs.size (.tup xs),I1.laid (t':=s1.toks) (λb u e=>Heap.get?_push_of_some _ e) (Nat.le_refl _) ?_,rfl,q _ hf⟩;exact⟨z,us,r,⟨_,Heap.get?_push_size _ rfl,rfl,_,rfl⟩⟩
theorem Zz(h:PA X es t):PE X (.List es pos) (tLst t):=by intro pins s σ H Q I hq;refine wpAny_List_spliced (thn (h pos pins s σ H _ I hq) λus s1⟨xs,H1,I1,r,z,q⟩=>⟨by rw[<-r.length];exact z,?_⟩);have hf:H1 s1.heap.objs.size=none:=I1.hok.fresh (Nat.le_refl _);refine⟨.ref s1.heap.objs.size,upd H1 s1.heap.objs.size (.lst xs),I1.laid (t':=s1.toks) (λb u e=>Heap.get?_push_of_some _ e) (Nat.le_refl _) ?_,rfl,q _ hf⟩;exact⟨z,us,0,r,Heap.get?_push_size _ rfl⟩
end
noncomputable abbrev Sp:=List V->Hp->VK->XK->Prop
noncomputable abbrev CXT:=List Env->Hp->ag->XK->Value->ag->Prop
structure Env0(P:Program)(w:World)(K:aa)(mg:Str->Option Value)(base:Heap)(A:bz)(outer:List Env)(s:ag)(H:Hp):Prop where
 frames:A.frames=some outer
 mod:Mod K mg base
 bs:∀b o,base.get? b=some o->s.heap.get? b=some o/\H b=none
 bsz:base.objs.size<=s.heap.objs.size
 funs:s.heap.FunFrames base outer
 frf:∀b∈frs outer,H b=none
 hok:HOk P w H s.heap
 bare:fH s.gens
def CE(outer:List Env)(P:Program)(w:World)(H:Hp)(s:ag)(Q:VK)(u:Value)(s':ag):Prop:=∃v H',s'.os=s.os/\fH s'.gens/\Un (frs outer) [] H H' s.heap s'.heap/\HOk P w H' s'.heap/\RelV v u/\Q v H'
def CR(CX:CXT)(outer:List Env)(P:Program)(w:World)(H:Hp)(s:ag)(Q:VK)(E:XK)(r:Result)(s':ag):Prop:=match r with
|.ok (.ret u)=>CE outer P w H s Q u s'
|.ok _=>False
|.error e=>CX outer H s E e s'
structure FnOk(P:Program)(w:World)(K:aa)(mg:Str->Option Value)(base:Heap)(CX:CXT)(k:Nat)(f:Addr)(fd:bW)(ps:List Str)(sp:Sp):Prop where
 len:∀vs H Q E,sp vs H Q E->vs.length=ps.length
 run:∀(A:bz)(outer:List Env)(s:ag)(H:Hp)(args:Args)(us:List Value)(vs:List V)(Q:VK)(E:XK),Room k A->Env0 P w K mg base A outer s H->BindsTo s fd args (ps.zip us)->Vals vs us->sp vs H Q E ->
  fG (model P w) A (.call (.ref f) args) (CR CX outer P w H s Q E) s
theorem Env0.make{P:Program}{w:World}{K:aa}{mg:Str->Option Value}{base:Heap}{A:bz}{outer:List Env}{s:ag}{H:Hp}(e:Env0 P w K mg base A outer s H)(C:Addr)(us:List Value)(kw:List (Str×Value)):Env0 P w K mg base (A.under (.builtin "type.__call__" ⟨.ref C::us,kw⟩)) outer s H:=⟨by first|exact e.frames|(simpa[fX,Code.envs,Code.isFrame,pushEnvs]using e.frames),e.mod,e.bs,e.bsz,e.funs,e.frf,e.hok,e.bare⟩
section
variable {X:Cx}{pins:List (Addr×Obj)}{σ:St}{H:Hp}{s s':ag}
theorem Inv.env0(I:Inv X pins σ H s):Env0 X.prog X.w X.K X.mg X.base X.A X.stack s H:=⟨I.ok.frames,I.ok.mod,I.bs,Nat.le_trans I.ok.bsz I.sz,I.stack,I.stkFree,I.hok,I.bare⟩
theorem Inv.after{Q:VK}{u:Value}(I:Inv X pins σ H s)(h:CE X.stack X.prog X.w H s Q u s'):EP X pins σ Q u s':=by obtain⟨v,H',os,bare,un,hok,r,q⟩:=h;obtain⟨hh,g,d,t,os'⟩:=s';obtain rfl:os'=s.os:=os;exact⟨v,H',I.call (h':=hh) (g':=g) (d':=d) (t':=t) (ch:=[]) un hok bare (λb z=>absurd z (by simp)),r,q⟩
end
def Mp(sp:Sp)(dvs:List V)(E:XK)(t:TA):TE:=λσ H Q=>t σ H λvs H1=>sp (vs++dvs) H1 Q E
def Nm(C:Addr)(m:Str)(sp:Sp)(dvs:List V)(E:XK)(ta:TE)(t:TA):TE:=λσ H Q=>ta σ H λx H1=>∃a dx fs,x=.ref a/\H1 a=some (.ins C dx fs)/\fs.lookup m=none /\t σ H1 λvs H2=>sp (x::(vs++dvs)) H2 Q E
def Hs(C:Addr)(sp:Sp)(dvs:List V)(E:XK)(t:TA):TE:=λσ H Q=>t σ H λvs H1=>∀x dx,H1 x=none->H1 dx=none->dx≠x ->sp (.ref x::(vs++dvs)) (upd (upd H1 dx (.own x)) x (.ins C dx [])) (λv H2=>v=.non/\Q (.ref x) H2) E
def Binds(K:aa)(fd:bW)(ps:List Str)(ds:List Value):Prop:=∀(s:ag)(us:List Value),K.In s.heap->(us++ds).length=ps.length->BindsTo s fd ⟨us,[]⟩ (ps.zip (us++ds))
theorem Binds.all{K:aa}{fd:bW}{ps:List Str}(h:∀us:List Value,us.length=ps.length->bindArgs fd ⟨us,[]⟩=pure (ps.zip us)):Binds K fd ps []:=λs us _ hl=>by rw[br]at hl ⊢;exact .of_eq (h us hl)
def Passes(CX:CXT)(X:Cx)(E:XK):Prop:=∀(pins:List (Addr×Obj))(σ:St)(H:Hp)(s:ag)(e:Value)(s':ag),Inv X pins σ H s->CX X.stack H s E e s'->X.xe e s'
section
variable {X:Cx}{CX:CXT}{k:Nat}{f C:Addr}{fd:bW}{ps:List Str}{sp:Sp}{dvs:List V}{ds:List Value}{E:XK}{x m:Str}{p pos apos:Pos}{e o:Expr}{es:List Expr}{ta:TE}{t:TA}
theorem MC{pins:List (Addr×Obj)}{σ:St}{H:Hp}{s:ag}{Q:VK}{us:List Value}{vs:List V}(F:FnOk X.prog X.w X.K X.mg X.base CX k f fd ps sp)(hr:Room k X.A)(hb:Binds X.K fd ps ds)(hd:Vals dvs ds)(hx:Passes CX X E)(I:Inv X pins σ H s)(r:Vals vs us)(h:sp (vs++dvs) H Q E):wpAny (model X.prog X.w) X.A (call (.ref f) us) (EP X pins σ Q) X.xe s:=by
 have r2:Vals (vs++dvs) (us++ds):=r.append hd;have hl:(us++ds).length=ps.length:=by rw[<-r2.length];exact F.len _ _ _ _ h
 refine wpAny_call (codeAny_mono (F.run X.A X.stack s H ⟨us,[]⟩ (us++ds) (vs++dvs) Q E hr I.env0 (hb s us I.kIn hl) r2 h) λr s' hq=>?_);cases r with
|error e=>exact hx pins σ H s e s' I hq
|ok fl=>
  cases fl with
 |ret u=>exact I.after hq
 |next=>exact b_ hq
 |brk=>exact b_ hq
 |cont=>exact b_ hq
theorem Dv(F:FnOk X.prog X.w X.K X.mg X.base CX k f fd ps sp)(hr:Room k X.A)(hg:Gl X x)(hm:X.mg x=some (.ref f))(hk:bu X.K (.ref f)=true)(hb:Binds X.K fd ps ds)(hd:Vals dvs ds)(hx:Passes CX X E)(ha:PA X (e::es) t)(hdb:(x==("__debug__":Str))=false:=by decide)(he:aN (e::es) X.env=(false,eval e X.env)::aN es X.env:=by rfl)(hpl:(cf pos (aN es X.env)).any (·.1)=false:=by rfl):PE X (.Call (.Name x p) (e::es) [] pos) (Mp sp dvs E t):=by intro pins s σ H Q I h;refine dD (Pt I hg hm ?_ hdb);refine dj (h₀:=X.base) I.ok.mod.kin hk (thn (ha pos pins s σ H _ I h) λus s1⟨vs,H1,I1,r,q⟩=>⟨I1.kIn,?_⟩) he hpl;exact MC F hr hb hd hx I1 r q
theorem Du{pl:Sem Bool}(he:PE X o ta)(c:Cls X.K C)(hm:Meth X.K C m f)(F:FnOk X.prog X.w X.K X.mg X.base CX k f fd ps sp)(hr:Room k X.A)(hb:Binds X.K fd ps ds)(hd:Vals dvs ds)(hx:Passes CX X E)(ha:PA X (e::es) t)
  (hst:aN (e::es) X.env=(false,eval e X.env)::aN es X.env:=by rfl) (hpl:(cf pos (aN es X.env)).any (·.1)=false:=by rfl)
  (ht:eval (.Call (.Attribute o m apos) (e::es) [] pos) X.env=(do
   let ov <-eval o X.env
   gm apos.atName
   let (f,first) <-dY [ov] (eU ov m pl)
   f_ pos f first (cf pos (aN (e::es) X.env)) (d8 pos (cW [] X.env))):=by rfl):
  PE X (.Call (.Attribute o m apos) (e::es) [] pos) (Nm C m sp dvs E ta t):=by
 intro pins s σ H Q I h
 refine dw (pl:=pl) (thn (he pins s σ H _ I h) λu s1 hZ=>?_) ht;obtain⟨x,H1,I1,rx,a,dx,fs,ex,ea,l,q⟩:=hZ
 subst ex
 obtain rfl:u=Value.ref a:=rx
 refine V2 I1 ea c hm l ?_
 refine dj (first:=[.ref a]) (h₀:=X.base) I.ok.mod.kin hm.kp (thn (ha pos pins s1 σ H1 _ I1 q) λus s2⟨vs,H2,I2,r,q2⟩=>⟨I2.kIn,?_⟩) hst hpl
 exact MC (us:=.ref a::us) (vs:=.ref a::vs) F hr hb hd hx I2 (.cons rfl r) q2
theorem KN{pl:Sem Bool}(he:PE X o ta)(c:Cls X.K C)(hm:Meth X.K C m f)(F:FnOk X.prog X.w X.K X.mg X.base CX k f fd ps sp)(hr:Room k X.A)(hb:Binds X.K fd ps ds)(hd:Vals dvs ds)(hx:Passes CX X E)
  (ht:eval (.Call (.Attribute o m apos) [] [] pos) X.env=(do
   let ov <-eval o X.env
   gm apos.atName
   let (f,first) <-dY [ov] (eU ov m pl)
   f_ pos f first (cf pos (aN [] X.env)) (d8 pos (cW [] X.env))):=by rfl):
  PE X (.Call (.Attribute o m apos) [] [] pos) (Nm C m sp dvs E ta tNil):=by
 intro pins s σ H Q I h
 refine dw (pl:=pl) (thn (he pins s σ H _ I h) λu s1 hZ=>?_) ht;obtain⟨x,H1,I1,rx,a,dx,fs,ex,ea,l,q⟩:=hZ
 subst ex
 obtain rfl:u=Value.ref a:=rx
 refine V2 I1 ea c hm l ?_
 exact PySem.W.callWith_K0 (first:=[.ref a]) I1.kIn hm.kp (MC (us:=[.ref a]) (vs:=[.ref a]) F hr hb hd hx I1 (.cons rfl .nil) q)
structure Mk(K:aa)(C f:Addr):Prop where
 makes:e_ K C=true
 init:aO K (.ref C) "__init__"=some (some (.ref f))
 fn:dR K (.ref f)=true
 kp:bu K (.ref C)=true
theorem Kr{pins:List (Addr×Obj)}{σ:St}{H:Hp}{s:ag}{Q:VK}{us:List Value}{vs:List V}(M:Mk X.K C f)(F:FnOk X.prog X.w X.K X.mg X.base CX k f fd ps sp)(hr:Room (k+1) X.A)(hb:Binds X.K fd ps ds)(hd:Vals dvs ds)(hx:Passes CX X E)(I:Inv X pins σ H s)(r:Vals vs us)(h:∀x dx,H x=none->H dx=none->dx≠x->sp (.ref x::(vs++dvs)) (upd (upd H dx (.own x)) x (.ins C dx [])) (λv H2=>v=.non/\Q (.ref x) H2) E):wpAny (model X.prog X.w) X.A (call (.ref C) us) (EP X pins σ Q) X.xe s:=by
 have hq:=h (s.heap.objs.size+1) s.heap.objs.size (I.hok.fresh (Nat.le_succ _)) (I.hok.fresh (Nat.le_refl _)) (Nat.ne_of_lt (Nat.lt_succ_self _));have I2:=Inv.made (C:=C) I;have r2:Vals (V.ref (s.heap.objs.size+1)::(vs++dvs)) (Value.ref (s.heap.objs.size+1)::(us++ds)):=.cons rfl (r.append hd);have hl:(Value.ref (s.heap.objs.size+1)::us++ds).length=ps.length:=by have e:=r2.length;rw[F.len _ _ _ _ hq]at e;exact e.symm
 refine wpAny_call (Lf (f:=f) I.kIn M.makes M.init (beq_iff_eq.mp M.fn) (codeAny_mono (F.run _ X.stack _ _ ⟨Value.ref (s.heap.objs.size+1)::us,[]⟩ (Value.ref (s.heap.objs.size+1)::(us++ds)) _ _ E (hr.make C us []) (I2.env0.make C us []) (hb _ (Value.ref (s.heap.objs.size+1)::us) I2.kIn hl) r2 hq) λr s' hq'=>?_));cases r with
|error e=>exact hx pins σ _ _ e s' I2 hq'
|ok fl=>
  cases fl with
 |ret u=>obtain⟨v,H',I3,rv,ev,q3⟩:=I2.after hq';subst ev;exact⟨rv,⟨V.ref (s.heap.objs.size+1),H',I3,rfl,q3⟩⟩
 |next=>exact b_ hq'
 |brk=>exact b_ hq'
 |cont=>exact b_ hq'
theorem Ug(M:Mk X.K C f)(F:FnOk X.prog X.w X.K X.mg X.base CX k f fd ps sp)(hr:Room (k+1) X.A)(hg:Gl X x)(hm:X.mg x=some (.ref C))(hb:Binds X.K fd ps ds)(hd:Vals dvs ds)(hx:Passes CX X E)(ha:PA X (e::es) t)(hdb:(x==("__debug__":Str))=false:=by decide)(he:aN (e::es) X.env=(false,eval e X.env)::aN es X.env:=by rfl)(hpl:(cf pos (aN es X.env)).any (·.1)=false:=by rfl):PE X (.Call (.Name x p) (e::es) [] pos) (Hs C sp dvs E t):=by intro pins s σ H Q I h;refine dD (Pt I hg hm ?_ hdb);refine dj (h₀:=X.base) I.ok.mod.kin M.kp (thn (ha pos pins s σ H _ I h) λus s1⟨vs,H1,I1,r,q⟩=>⟨I1.kIn,?_⟩) he hpl;exact Kr M F hr hb hd hx I1 r q
end
structure FnScope(N P:List Str)(sc:Scope):Prop where
 kind:sc.kind=.function
 co:sc.isCoroutine=false
 gen:sc.isGenerator=false
 nd:N.Nodup
 pre:N.take P.length=P
 par:∀x∈P,sc.names.lookup x=some .local\/sc.names.lookup x=some .cell
 nofree:∀y∈sc.names,y.2≠.free
theorem NQ{kindOf:Str->Option dh}{x:Str}:∀{binds:List (Str×Value)}{m:Str->Option Value},(∀v,(x,v)∉binds)->bindL kindOf binds m x=m x
|[],_,_=>rfl
|(n,v)::r,m,h=>by
  unfold bindL;rw[NQ λw hw=>h w (av _ hw)];split
  ·have:x≠n:=by rintro rfl;exact h v aE
   simp[this]
  ·rfl
theorem NS{kindOf:Str->Option dh}{x:Str}:∀{binds:List (Str×Value)}{m:Str->Option Value},(∀v,(x,v)∉binds)->bindC kindOf binds m x=m x
|[],_,_=>rfl
|(n,v)::r,m,h=>by
  unfold bindC;rw[NS λw hw=>h w (av _ hw)];split
  ·rfl
  ·have:x≠n:=by rintro rfl;exact h v aE
   simp[this]
theorem NR{kindOf:Str->Option dh}{x:Str}{v:Value}:∀{P:List Str}{vs:List Value}{i:Nat}{m:Str->Option Value},P.Nodup->P[i]?=some x->vs[i]?=some v->kindOf x=some .local ->bindL kindOf (P.zip vs) m x=some v
|[],_,_,_,_,h,_,_=>by simp at h
|_::_,[],_,_,_,_,h,_=>by simp at h
|p::P,w::vs,0,m,nd,h1,h2,hk=>by simp at h1 h2;subst h1;subst h2;show bindL kindOf ((p,w)::P.zip vs) m p=_;unfold bindL;rw[NQ λv hv=>(bB.mp nd).1 (fu hv).1,if_pos hk];simp
|p::P,w::vs,i+1,m,nd,h1,h2,hk=>by show bindL kindOf ((p,w)::P.zip vs) m x=_;unfold bindL;exact NR (i:=i) (bB.mp nd).2 (by simpa using h1) (by simpa using h2) hk
theorem NT{kindOf:Str->Option dh}{x:Str}{v:Value}:∀{P:List Str}{vs:List Value}{i:Nat}{m:Str->Option Value},P.Nodup->P[i]?=some x->vs[i]?=some v->kindOf x≠some .local ->bindC kindOf (P.zip vs) m x=some v
|[],_,_,_,_,h,_,_=>by simp at h
|_::_,[],_,_,_,_,h,_=>by simp at h
|p::P,w::vs,0,m,nd,h1,h2,hk=>by simp at h1 h2;subst h1;subst h2;show bindC kindOf ((p,w)::P.zip vs) m p=_;unfold bindC;rw[NS λv hv=>(bB.mp nd).1 (fu hv).1,if_neg hk];simp
|p::P,w::vs,i+1,m,nd,h1,h2,hk=>by show bindC kindOf ((p,w)::P.zip vs) m x=_;unfold bindC;exact NT (i:=i) (bB.mp nd).2 (by simpa using h1) (by simpa using h2) hk
noncomputable def start(N:List Str)(vs:List V):St:=vs.map some++List.replicate (N.length-vs.length) none
noncomputable def cxOf(CX:CXT)(P:Program)(w:World)(K:aa)(mg:Str->Option Value)(base:Heap)(N:List Str)(qual:Str)(scope:Scope)(f:Addr)(cd:Value)(A:bz)(outer:List Env)(s:ag)(H:Hp)(E:XK):Cx where
 prog:=P
 w:=w
 K:=K
 mg:=mg
 base:=base
 A:=A.deeper (dI qual scope s.heap.objs.size f cd)
 N:=N
 s₀:=s
 H₀:=H
 env:=dI qual scope s.heap.objs.size f cd
 outer:=outer
 stack:=dI qual scope s.heap.objs.size f cd::outer
 ex:=[]
 calm:=true
 fn:=λ_=>true
 pn:=[]
 xe:=λe s'=>wpAny (model P w) (A.deeper (dI qual scope s.heap.objs.size f cd)) (leaving (dI qual scope s.heap.objs.size f cd) e) (λ_ s''=>CX outer H s E e s'') (λe' s''=>CX outer H s E e' s'') s'
theorem QM{sc:Scope}{n:Nat}{x:Str}(h:sc.names.lookup x=some .cell):∃c,(cellsFrom n sc.names []).lookup x=some c:=by have q:=PySem.W.cellsFrom_some sc.names n [] (.inl h);exact cy.mp q
theorem Wc{CX:CXT}{P:Program}{w:World}{K:aa}{mg:Str->Option Value}{base:Heap}{N ps:List Str}{qual:Str}{scope:Scope}{f:Addr}{cd:Value}{A:bz}{outer:List Env}{s s1:ag}{H:Hp}{E:XK}{us:List Value}{vs:List V}(S:FnScope N ps scope)(hd:A.handled=none)(e0:Env0 P w K mg base A outer s H)(hl:vs.length=ps.length)(r:Vals vs us)(x:InCallC s s.heap.objs.size (bindL (dI qual scope s.heap.objs.size f cd).kindOf (ps.zip us) λ_=>none) (cellsFrom (s.heap.objs.size+1) scope.names []) (bindC (dI qual scope s.heap.objs.size f cd).kindOf (ps.zip us) λ_=>none) s1):Inv (cxOf CX P w K mg base N qual scope f cd A outer s H E) [] (start N vs) H s1:=by
 have hpl:ps.length<=N.length:=by have:=congrArg List.length S.pre;rw[aG]at this;omega
 obtain⟨h1,tk,rfl,hk⟩:=x.done;have noA:∀b:Addr,b∉(cxOf CX P w K mg base N qual scope f cd A outer s H E).ex:=λb z=>absurd (show b∈([]:List Addr)from z) (by simp);refine⟨⟨e0.mod,S.kind,rfl,rfl,Nat.le_refl _,λy z c h1 h2=>?_,λy hy=>?_,λy c _ h=>?_,λ_=>hd,Around.frames_deeper e0.frames,.inr ⟨rfl,rfl⟩,λb z=>absurd z (noA b),e0.bs,e0.bsz,λb _ _=>noA b,λb z=>absurd z (noA b),e0.funs,e0.frf⟩,rfl,e0.bare,Un.kept hk,⟨_,x.toInCall.ns,λi y v h1 h2 h3=>?_⟩,λy c h=>⟨_,x.cell y c h⟩,e0.hok.fresh (Nat.le_refl _),λy c h=>?_,λp hp=>absurd (show p∈([]:List (Addr×Obj))from hp) (by simp),e0.hok.kept hk,?_⟩
 ·exact name_of_addr x.apart (cz h1) (cz h2)
 ·have hy:scope.names.lookup y=some .cell\/scope.names.lookup y=some .free:=hy;rcases hy with hy|hy
  ·exact QM hy
  ·exact absurd rfl (S.nofree _ (cz hy))
 ·exact Nat.le_of_lt (x.above y c (cz h))
 ·have hi:i<vs.length:=by
   unfold start at h2;by_cases hi:i<vs.length
   ·exact hi
   ·rw[a6 (by simpa using hi)]at h2;rw[List.getElem?_replicate]at h2;split at h2<;>cases h2
  have ha:vs[i]?=some v:=by
   unfold start at h2;rw[a8 (by simpa using hi),aJ]at h2;cases e:vs[i]? with
  |none=>rw[e]at h2;cases h2
  |some a=>rw[e]at h2;cases h2;rfl
  obtain⟨u,hu,rv⟩:=r.get ha;have hp:ps[i]?=some y:=by rw[<-S.pre,eV (by omega)];exact h1
  have ndP:ps.Nodup:=by rw[<-S.pre];exact S.nd.sublist (List.take_sublist _ _)
  refine⟨u,rv,?_⟩;rcases S.par y (au hp)with k|k
  ·exact .inl ⟨k,NR ndP hp hu k⟩
  ·obtain⟨c,e⟩:=QM (n:=s.heap.objs.size+1) k;refine .inr ⟨.inl k,c,e,?_⟩;have q:=x.cell y c e;rw[NT ndP hp hu (by show scope.names.lookup y≠_;rw[k];decide)]at q;exact q
 ·exact e0.hok.fresh (Nat.le_of_lt (x.above y c (cz h)))
 ·unfold start;show _=N.length;rw[ah,bw,List.length_replicate];omega
theorem HY{CX:CXT}{P:Program}{w:World}{K:aa}{mg:Str->Option Value}{base:Heap}{k:Nat}{f:Addr}{name qual:Str}{params:Arguments}{body:List Stmt}{scope:Scope}{dV kV doc pm cdv ct oc:Value}{an od:Option Addr}{osl:Array (Option Value)}{N ps:List Str}{sp:Sp}(lk:K.lookup f=some ⟨oc,od,.func (bE name qual params body scope dV kV doc pm an cdv ct),osl⟩)(hcd:b8 K cdv qual=true)(S:FnScope N ps scope)(len:∀vs H Q E,sp vs H Q E->vs.length=ps.length)(hbody:∀(A:bz)(outer:List Env)(s:ag)(H:Hp)(vs:List V)(Q:VK)(E:XK),Room k (A.deeper (dI qual scope s.heap.objs.size f cdv))->sp vs H Q E ->∃t,PSs (cxOf CX P w K mg base N qual scope f cdv A outer s H E) body t/\t {nx:=λ_ H'=>Q .non H',rt:=Q} (start N vs) H):FnOk P w K mg base CX (k+1) f (bE name qual params body scope dV kV doc pm an cdv ct) ps sp:=by
 refine⟨len,λA outer s H args us vs Q E hr e0 hb r hsp=>?_⟩;have hl:=len _ _ _ _ hsp;have KX:K.In s.heap:=e0.mod.kin.keeps λb o e=>(e0.bs b o e).1;have lim:s.heap.NoLimit:=e0.mod.nolimit.keeps λb o e=>(e0.bs b o e).1;have hkind:∀y∈ps.zip us,scope.names.lookup y.1=some .local\/(scope.names.lookup y.1=some .cell/\((cellsFrom (s.heap.objs.size+1) scope.names []).lookup y.1).isSome=true):=λ⟨n,v⟩hy=>by
  rcases S.par n (fu hy).1 with q|q
  ·exact .inl q
  ·exact .inr ⟨q,PySem.W.cellsFrom_some _ _ _ (.inl q)⟩
 refine codeAny_call_function hr.depth (KX _ _ lk) rfl S.co S.gen rfl (PySem.W.codeRec_of KX hcd) (hb _ _ _ _ ?_);refine wpAny_newFunctionEnv_cells S.kind hkind λenv he s1 x=>?_;subst he;refine⟨lim.keeps x.toInCall.keep,codeAny_func ?_⟩;obtain⟨t,ht,hq⟩:=hbody A outer s H vs Q E (hr.deeper _) hsp;have I:Inv (cxOf CX P w K mg base N qual scope f cdv A outer s H E) [] (start N vs) H s1:=Wc S hr.hd e0 hl r x;refine dC (ht [] s1 (start N vs) H _ I hq) (λfl s' hs=>?_) λe s' hs=>hs;have fin:∀{σ':St}{H':Hp}{v:V}{u:Value},Inv (cxOf CX P w K mg base N qual scope f cdv A outer s H E) [] σ' H' s'->RelV v u->Q v H'->CE outer P w H s Q u s':=λ{σ' H' v u}J rv q=>⟨v,H',J.os,J.bare,J.base,J.hok,rv,q⟩;cases fl with
|ret u=>obtain⟨v,σ',H',J,rv,q⟩:=hs;exact fin J rv q
|next=>obtain⟨σ',H',J,q⟩:=hs;exact fin (v:=V.non) (u:=Value.none) J rfl q
|brk=>obtain⟨_,_,_,q⟩:=hs;exact b_ q
|cont=>obtain⟨_,_,_,q⟩:=hs;exact b_ q
open PySem PySem.Spec PyProof.Rows
section
variable {X:Cx}{x:Str}{p pos:Pos}{e:Expr}{es:List Expr}{t:TA}{id T:String}{r:List V->Hp->VK->Prop}
def tCB(r:List V->Hp->VK->Prop)(t:TA):TE:=λσ H Q=>t σ H λvs H1=>r vs H1 Q
theorem Zy(hc:YS X (.builtin id) r)(hg:Gl X x)(hm:X.mg x=none)(hv:bF x=some (.builtin id))(ha:PA X (e::es) t)(hn:x≠"__name__":=by decide)(hdb:(x==("__debug__":Str))=false:=by decide)(he:aN (e::es) X.env=(false,eval e X.env)::aN es X.env:=by rfl)(hpl:(cf pos (aN es X.env)).any (·.1)=false:=by rfl):PE X (.Call (.Name x p) (e::es) [] pos) (tCB r t):=by intro pins s σ H Q I h;refine dD (V1 I hg hm hv ?_ hn hdb);exact PyProof.Rows.callWith_builtin1 (thn (ha pos pins s σ H _ I h) λus s1⟨vs,H1,I1,r1,q1⟩=>hc pins s1 σ H1 vs us Q I1 r1 q1) he hpl
theorem Yi(hc:YS X (.type T) r)(hg:Gl X x)(hm:X.mg x=none)(hv:bF x=some (.type T))(ha:PA X (e::es) t)(hn:x≠"__name__":=by decide)(hdb:(x==("__debug__":Str))=false:=by decide)(he:aN (e::es) X.env=(false,eval e X.env)::aN es X.env:=by rfl)(hpl:(cf pos (aN es X.env)).any (·.1)=false:=by rfl):PE X (.Call (.Name x p) (e::es) [] pos) (tCB r t):=by intro pins s σ H Q I h;refine dD (V1 I hg hm hv ?_ hn hdb);exact bT (thn (ha pos pins s σ H _ I h) λus s1⟨vs,H1,I1,r1,q1⟩=>hc pins s1 σ H1 vs us Q I1 r1 q1) he hpl
end
end L2
namespace HT
open PySem PyProof.Rows
section
variable {prog:Program}{w:World}{A:bz}{E:Value->ag->Prop}{s:ag}
noncomputable def sIx(n d:Nat):Option Int->Nat
|none=>d
|some v=>if v<0 then(v+(n:Int)).toNat else min v.toNat n
theorem sIx_nat(n d k:Nat):sIx n d (some (k:Int))=min k n:=by show(if(k:Int)<0 then((k:Int)+(n:Int)).toNat else min (k:Int).toNat n)=min k n;rw[if_neg (by omega),Int.toNat_natCast]
end
end HT
namespace L2
open PySem PySem.Spec PyProof.Rows
noncomputable abbrev TO:=St->Hp->(Option Int->Hp->Prop)->Prop
def PO(X:Cx)(e:Option Expr)(t:TO):Prop:=∀(pins:List (Addr×Obj))(s:ag)(σ:St)(H:Hp)(Q:Option Int->Hp->Prop),Inv X pins σ H s->t σ H Q ->wpAny (model X.prog X.w) X.A (evalPart e X.env) (λu s'=>∃o H',Inv X pins σ H' s'/\IsPart u o/\Q o H') X.xe s
noncomputable def NW:TO:=λ_ H Q=>Q none H
noncomputable def WS(t:TE):TO:=λσ H Q=>t σ H λx H1=>∃i,x=.int i/\Q (some i) H1
theorem intsAre_of{ns:List Int}:∀{us:List Value},Vals (ns.map V.int) us->IntsAre us ns:=by
 induction ns with
|nil=>intro us r;rw[d5]at r;cases r;exact .nil
|cons n ns ih=>
  intro us r;rw[ar]at r;cases r with
 |cons r1 r2=>obtain⟨t,e⟩:=r1;subst e;exact .cons n t (ih r2)
section
variable {X:Cx}{e:Expr}{te:TE}{lo hi:Option Expr}{tl th:TO}{pos p2:Pos}
theorem Y0:PO X none NW:=by intro pins s σ H Q I h;rw[evalPart_none];exact ai ⟨none,H,I,.none,h⟩
theorem YZ(h:PE X e te):PO X (some e) (WS te):=by intro pins s σ H Q I hw;rw[evalPart_some];refine thn (h pins s σ H _ I hw) λu s1 hZ=>?_;obtain⟨x,H1,I1,r1,q1⟩:=hZ;obtain⟨i,rfl,q⟩:=q1;obtain⟨t,rfl⟩:=r1;exact⟨some i,H1,I1,.int i t,q⟩
def SlR(X:Cx)(r:V->Option Int->Option Int->Hp->VK->Prop):Prop:=∀(pins:List (Addr×Obj))(s:ag)(σ:St)(H:Hp)(x:V)(v vl vu:Value)(lo hi:Option Int)(sl:Addr)(Q:VK),Inv X pins σ H s->RelV x v->s.heap.IsSliceOf sl vl vu .none->IsPart vl lo->IsPart vu hi->r x lo hi H Q ->∃T id,typeLookup (.type T) "__getitem__"=pure (some (.builtin id))/\s.TypeIs v T/\wpAny (model X.prog X.w) X.A (getItem v (.ref sl)) (EP X pins σ Q) X.xe s
def tSl(r:V->Option Int->Option Int->Hp->VK->Prop)(te:TE)(tl th:TO):TE:=λσ H Q=>te σ H λx H1=>tl σ H1 λl H2=>th σ H2 λu H3=>r x l u H3 Q
theorem YB{r:V->Option Int->Option Int->Hp->VK->Prop}(hr:SlR X r)(he:PE X e te)(hl:PO X lo tl)(hu:PO X hi th):PE X (.Subscript e (.Slice lo hi none p2) pos) (tSl r te tl th):=by intro pins s σ H Q I h;refine Subscript_ (thn (he pins s σ H _ I h) λv s1 hZ=>?_);obtain⟨x,H1,I1,r1,q1⟩:=hZ;refine wpAny_Slice (thn (hl pins s1 σ H1 _ I1 q1) λvl s2⟨l,H2,I2,pl,q2⟩=>thn (hu pins s2 σ H2 _ I2 q2) λvu s3 hZ=>?_);obtain⟨u,H3,I3,pu,q3⟩:=hZ;rw[evalPart_none];refine ai ?_;have I4:Inv X pins σ H3 {s3 with heap:=s3.heap.push {cls:=.type "slice",data:=.fields #[vl,vu,.none]}}:=I3.kept (t':=s3.toks) λb ob q=>Heap.get?_push_of_some _ q;obtain⟨T,id,hT,ht,hg⟩:=hr pins {s3 with heap:=s3.heap.push {cls:=.type "slice",data:=.fields #[vl,vu,.none]}} σ H3 x v vl vu l u s3.heap.objs.size Q I4 r1 (Heap.IsSliceOf.new ..) pl pu q3;show wpAny (model X.prog X.w) X.A (gF e (.Slice lo hi none p2) v (.ref s3.heap.objs.size)) (EP X pins σ Q) X.xe {s3 with heap:=s3.heap.push {cls:=.type "slice",data:=.fields #[vl,vu,.none]}};exact tail_any (ops:=[.ref s3.heap.objs.size,v]) ht hT hg (by with_unfolding_all rfl)
noncomputable def cutV(xs:List V)(lo hi:Option Int):List V:=(xs.drop (HT.sIx xs.length 0 lo)).take (HT.sIx xs.length xs.length hi-HT.sIx xs.length 0 lo)
theorem QF(xs:List V)(lo hi:Option Int):(cutV xs lo hi).length<=xs.length:=by unfold cutV;rw[aG,bf];omega
end
open PySem PySem.Spec PyProof.Rows
noncomputable def ixN(n:Nat)(i:Int):Option Nat:=if 0<=i then(if i<n then some i.toNat else none)else if -(n:Int)<=i then some (i+n).toNat else none
noncomputable def atI{α:Type}(xs:List α)(i:Int):Option α:=(ixN xs.length i).bind λj=>xs[j]?
theorem Td{n:Nat}{i:Int}{j:Nat}(h:ixN n i=some j):seqIndex? i n=some j/\j<n/\-(n:Int)<=i/\i<n:=by
 unfold ixN at h;by_cases h0:0<=i
 ·rw[if_pos h0]at h;by_cases h1:i<n
  ·rw[if_pos h1]at h;have e:i.toNat=j:=aB h;exact⟨by rw[seqIndex_of h0 h1,e],by omega,by omega,h1⟩
  ·rw[if_neg h1]at h;cases h
 ·rw[if_neg h0]at h;by_cases h1:-(n:Int)<=i
  ·rw[if_pos h1]at h;have e:(i+n).toNat=j:=aB h;exact⟨by rw[seqIndex_neg (by omega) h1,e],by omega,h1,by omega⟩
  ·rw[if_neg h1]at h;cases h
theorem PM{α:Type}{xs:List α}{i:Int}{v:α}(h:atI xs i=some v):∃j,seqIndex? i xs.length=some j/\xs[j]?=some v/\j<xs.length/\-(xs.length:Int)<=i/\i<xs.length:=by
 unfold atI at h;cases e:ixN xs.length i with
|none=>rw[e]at h;cases h
|some j=>rw[e]at h;obtain⟨h1,h2,h3,h4⟩:=Td e;exact⟨j,h1,h,h2,h3,h4⟩
theorem Zu{α:Type}{xs:List α}{j:Nat}{v:α}(h:xs[j]?=some v):atI xs (j:Int)=some v:=by
 have hj:j<xs.length:=(aj.mp h).1;have e:ixN xs.length (j:Int)=some j:=by unfold ixN;rw[if_pos (by omega),if_pos (by omega)];simp
 unfold atI;rw[e];exact h
def PQ(b:Expr):Prop:=∀o i,subscripted b false o i=operate [o,i] (getItem o i)
def IxR(X:Cx)(r:R2):Prop:=∀(value slice:Expr)(pins:List (Addr×Obj))(s:ag)(σ:St)(H:Hp)(x y:V)(v u:Value)(Q:VK),Inv X pins σ H s->RelV x v->RelV y u->r x y H Q ->subscripted slice false v u=operate [v,u] (getItem v u)->wpAny (model X.prog X.w) X.A (gF value slice v u) (EP X pins σ Q) X.xe s
def MtR(X:Cx)(id:String)(r:V->List V->Hp->VK->Prop):Prop:=∀(pins:List (Addr×Obj))(s:ag)(σ:St)(H:Hp)(x:V)(xs:List V)(v:Value)(us:List Value)(Q:VK),Inv X pins σ H s->RelV x v->Vals xs us->r x xs H Q ->wpAny (model X.prog X.w) X.A (call (.builtin id) (v::us)) (EP X pins σ Q) X.xe s
section
variable {X:Cx}{a b:Expr}{ta tb:TE}{pos:Pos}
theorem Ym{r:R2}(hr:IxR X r)(ha:PE X a ta)(hb:PE X b tb)(hs:PQ b):PE X (.Subscript a b pos) (tOp r ta tb):=by intro pins s σ H Q I h;exact Subscript_ (binT ha hb I h λv u s2 x y H2 I2 rx ry q=>hr a b pins s2 σ H2 x y v u Q I2 rx ry q (hs _ _))
def rIxL(K:aa):R2:=λx y H Q=>∃p xs i v,x=.ref p/\y=.int i/\SqL K H p xs/\atI xs i=some v/\Q v H
def rIxT(K:aa):R2:=λx y H Q=>∃p xs i v,x=.ref p/\y=.int i/\SqT K H p xs/\atI xs i=some v/\Q v H
def rIxS:R2:=λx y H Q=>∃z i c,x=.str z/\y=.int i/\z.length<=sizeLine/\atI z.cps.toList i=some c/\Q (.str ⟨#[c]⟩) H
theorem DS:IxR X (rIxL X.K):=by
 intro value slice pins s σ H x y v u Q I rx ry h hs;obtain⟨p,xs,i,z,rfl,rfl,hq,he,q⟩:=h;cases rx;obtain⟨t,rfl⟩:=ry;obtain⟨its,r,pl,hz⟩:=I.list hq;obtain⟨j,h1,h2,h3,h4,h5⟩:=PM he;obtain⟨w,ew,rw'⟩:=r.get h2;have hl:=r.length;have hn:=JF;have fin:EP X pins σ Q w s:=⟨z,H,I,rw',q⟩;by_cases h0:0<=i
 ·have hj:i.toNat=j:=by rw[seqIndex_of h0 h5]at h1;exact aB h1
  exact item_listR pl.isList h0 (by omega) (by rw[hj];simpa using ew) fin hs
 ·have hj:(i+(its.toArray.size:Int)).toNat=j:=by rw[seqIndex_neg (by omega) h4]at h1;rw[aq,<-hl];exact aB h1
  exact subscriptTail_builtinR (x:=w) pl.isList.typeIs slot_list_getitem.lookup (wpAny_getItem_list_neg (Q:=λr s'=>r=w/\EP X pins σ Q r s') pl.isList (by omega) (by rw[aq]<;>omega) (by omega) (by rw[hj];simpa using ew) ⟨rfl,fin⟩) hs
theorem Yd:IxR X (rIxT X.K):=by intro value slice pins s σ H x y v u Q I rx ry h hs;obtain⟨p,xs,i,z,rfl,rfl,hq,he,q⟩:=h;cases rx;obtain⟨t,rfl⟩:=ry;obtain⟨its,r,pl,hz⟩:=I.tuple hq;obtain⟨j,h1,h2,h3,h4,h5⟩:=PM he;obtain⟨w,ew,rw'⟩:=r.get h2;have hl:=r.length;have hn:=JF;have fin:EP X pins σ Q w s:=⟨z,H,I,rw',q⟩;exact subscriptTail_builtinR (x:=w) pl.typeIs slot_tuple_getitem.lookup (getItem_tuple (j:=j) (Q:=λr s'=>r=w/\EP X pins σ Q r s') pl (by omega) (by omega) (by rw[aq,<-hl];exact h1) (by simpa using ew) ⟨rfl,fin⟩) hs
theorem Pu:IxR X rIxS:=by
 intro value slice pins s σ H x y v u Q I rx ry h hs;obtain⟨z,i,c,rfl,rfl,hz,he,q⟩:=h;obtain⟨t,rfl⟩:=rx;obtain⟨t',rfl⟩:=ry;obtain⟨j,h1,h2,h3,h4,h5⟩:=PM he;have hl:z.cps.toList.length=z.length:=by simp[Str.length]
 rw[hl]at h1 h4 h5;have hn:=JF;exact tail_any (typeIs_str s z t) slot_str_getitem.lookup (getItem_str (c:=c) (by have e1:decide (i < -(2 ^ 63:Int))=false:=decide_eq_false (by omega);have e2:decide (i >= 2 ^ 63)=false:=decide_eq_false (by omega);rw[e1,e2,Bool.or_false]) (by rw[h1];simpa using h2) ⟨.str ⟨#[c]⟩,H,I.tok _,⟨_,rfl⟩,q⟩) hs
theorem Rk(its:List Value)(n j:Nat)(u:Value):Obj.mapSeq (·.setIfInBounds j u) {cls:=.type "list",data:=.seq its.toArray n}={cls:=.type "list",data:=.seq (its.set j u).toArray n}:=by simp[Obj.mapSeq]
theorem Inv.lst{pins:List (Addr×Obj)}{σ:St}{H:Hp}{s:ag}{p:Addr}{xs:List V}(I:Inv X pins σ H s)(h:H p=some (.lst xs)):∃(its:List Value)(n:Nat),Vals xs its/\s.heap.get? p=some {cls:=.type "list",data:=.seq its.toArray n}/\xs.length<=sizeLine:=by obtain⟨z,its,n,r,e⟩:=I.hok p _ h;exact⟨its,n,r,e,z⟩
theorem Inv.lstUpd{pins:List (Addr×Obj)}{σ:St}{H:Hp}{s:ag}{p:Addr}{xs ys:List V}{its its':List Value}{n n':Nat}{f:Obj->Obj}(I:Inv X pins σ H s)(h:H p=some (.lst xs))(ho:s.heap.get? p=some {cls:=.type "list",data:=.seq its.toArray n})(hf:f {cls:=.type "list",data:=.seq its.toArray n}={cls:=.type "list",data:=.seq its'.toArray n'})(r:Vals ys its')(hz:ys.length<=sizeLine)(t:Nat):Inv X pins σ (upd H p (.lst ys)) {s with heap:=s.heap.update p f,toks:=t}:=by
 have e:(s.heap.update p f).get? p=some {cls:=.type "list",data:=.seq its'.toArray n'}:=by rw[Heap.get?_update_self f ho (by rw[hf]<;>rfl),hf]
 refine I.write (x:=p) (e:=p) (by rw[h];trivial) (.inl rfl) (λb u hb q=>(Heap.get?_update_other _ _ (bD hb)).trans q) ⟨_,e⟩ ?_;exact⟨hz,its',n',r,e⟩
noncomputable def HF:V->V->V->Hp->(Hp->Prop)->Prop:=λo i v H Q=>∃p xs k j,o=.ref p/\i=.int k/\H p=some (.lst xs)/\ixN xs.length k=some j/\Q (upd H p (.lst (xs.set j v)))
theorem set_list:PSet X HF:=by
 intro pins s σ H o i v ov iv u Q I ro ri rv h;obtain⟨p,xs,k,j,rfl,rfl,hp,hj,q⟩:=h;cases ro;obtain⟨t,rfl⟩:=ri;obtain⟨its,n,r,ho,hz⟩:=I.lst hp;obtain⟨h1,h2,h3,h4⟩:=Td hj;have hl:=r.length;have hn:=JF;have I':Inv X pins σ (upd H p (.lst (xs.set j v))) {s with heap:=s.heap.update p (Obj.mapSeq (·.setIfInBounds j u))}:=I.lstUpd hp ho (Rk its n j u) (r.set rv j) (by rw[List.length_set];exact hz) s.toks;by_cases h0:0<=k
 ·have hk:k.toNat=j:=by rw[seqIndex_of h0 h4]at h1;exact aB h1
  exact PySem.W.ki_setAt ho h0 (by omega) (by rw[aq,<-hl];exact h4) (by rw[hk];exact⟨_,I',q⟩)
 ·have hk:(k+(its.toArray.size:Int)).toNat=j:=by rw[seqIndex_neg (by omega) h3]at h1;rw[aq,<-hl];exact aB h1
  exact PySem.W.ki_setBack ho (by omega) (by rw[aq,<-hl];exact h3) (by omega) (by rw[hk];exact⟨_,I',q⟩)
theorem N9(lo hi:Option Int)(n:Nat):(di lo hi none n).1=((HT.sIx n 0 lo:Nat):Int)/\(di lo hi none n).2.1=((HT.sIx n n hi:Nat):Int)/\(di lo hi none n).2.2=1:=by
 refine⟨?_,?_,rfl⟩
 ·cases lo with
 |none=>simp[di,HT.sIx]
 |some i=>
   simp only[di,HT.sIx,Option.getD_none,show(1:Int)>0 by decide,if_true];by_cases h:i<0
   ·simp only[h,if_true]<;>omega
   ·simp only[h,if_false]<;>omega
 ·cases hi with
 |none=>simp[di,HT.sIx]
 |some i=>
   simp only[di,HT.sIx,Option.getD_none,show(1:Int)>0 by decide,if_true];by_cases h:i<0
   ·simp only[h,if_true]<;>omega
   ·simp only[h,if_false]<;>omega
theorem Na(its:List Value)(lo hi:Option Int):slicePick its.toArray lo hi none=((its.drop (HT.sIx its.length 0 lo)).take (HT.sIx its.length its.length hi-HT.sIx its.length 0 lo)).toArray:=by obtain⟨h1,h2,h3⟩:=N9 lo hi its.toArray.size;unfold slicePick;rw[h1,h2,h3];simp only[sliceRange_one,pick_run,aq]<;>rfl
noncomputable def rSlL(K:aa):V->Option Int->Option Int->Hp->VK->Prop:=λx lo hi H Q=>∃a xs,x=.ref a/\SqL K H a xs/\∀p,H p=none->Q (.ref p) (upd H p (.lst (cutV xs lo hi)))
theorem Xw:SlR X (rSlL X.K):=by intro pins s σ H x v vl vu lo hi sl Q I rx hs pl pu h;obtain⟨a,xs,rfl,hx,q⟩:=h;cases rx;obtain⟨its,r,ht,hz⟩:=I.list hx;have hlen:=r.length;refine⟨"list",_,slot_list_getitem.lookup,ht.isList.typeIs,?_⟩;refine wpAny_getItem_list_slice ht.isList hs pl pu .none (by simp) ?_ (by rw[aq]<;>omega);rw[Na,<-hlen];refine⟨.ref s.heap.objs.size,_,I.laid (t':=s.toks) (o:=.lst (cutV xs lo hi)) (λb ob q=>Heap.get?_push_of_some _ q) (Nat.le_refl _) ?_,rfl,q _ (I.hok.fresh (Nat.le_refl _))⟩;exact⟨Nat.le_trans (QF xs lo hi) hz,_,0,(r.drop (HT.sIx xs.length 0 lo)).take (HT.sIx xs.length xs.length hi-HT.sIx xs.length 0 lo),Heap.get?_push_size _ rfl⟩
noncomputable def Yy:V->Bool
|.non=>true
|.bl _=>true
|.int _=>true
|.str _=>true
|_=>false
noncomputable def eqV:V->V->Bool
|.non,.non=>true
|.bl a,.bl b=>a==b
|.bl a,.int b=>(if a then 1 else 0)==b
|.int a,.bl b=>a==(if b then 1 else 0)
|.int a,.int b=>a==b
|.str a,.str b=>a==b
|_,_=>false
theorem Rx{A:bz}{s:ag}{y x:V}{u v:Value}(ry:RelV y u)(rx:RelV x v)(fy:Yy y=true)(fx:Yy x=true):SeqAt.EqAt A s u v (eqV y x):=by
 cases y with
|non=>
  cases ry;cases x with
 |non=>cases rx;exact fY _
 |bl b=>cases rx;exact SeqAt.EqAt.none_bool b
 |int b=>obtain⟨t,rfl⟩:=rx;exact SeqAt.EqAt.none_int b t
 |str b=>obtain⟨t,rfl⟩:=rx;exact SeqAt.EqAt.none_str b t
 |_=>exact absurd (show false=true from fx) Bool.false_ne_true
|bl a=>
  cases ry;cases x with
 |non=>cases rx;exact SeqAt.EqAt.bool_none a
 |bl b=>cases rx;exact SeqAt.EqAt.bool_bool a b
 |int b=>obtain⟨t,rfl⟩:=rx;exact SeqAt.EqAt.bool_int a b t
 |str b=>obtain⟨t,rfl⟩:=rx;exact SeqAt.EqAt.bool_str a b t
 |_=>exact absurd (show false=true from fx) Bool.false_ne_true
|int a=>
  obtain⟨t',rfl⟩:=ry;cases x with
 |non=>cases rx;exact SeqAt.EqAt.int_none a t'
 |bl b=>cases rx;exact SeqAt.EqAt.int_bool a t' b
 |int b=>obtain⟨t,rfl⟩:=rx;exact SeqAt.EqAt.int_int a t' b t
 |str b=>obtain⟨t,rfl⟩:=rx;exact SeqAt.EqAt.int_str a t' b t
 |_=>exact absurd (show false=true from fx) Bool.false_ne_true
|str a=>
  obtain⟨t',rfl⟩:=ry;cases x with
 |non=>cases rx;exact SeqAt.EqAt.str_none a t'
 |bl b=>cases rx;exact SeqAt.EqAt.str_bool a t' b
 |int b=>obtain⟨t,rfl⟩:=rx;exact SeqAt.EqAt.str_int a t' b t
 |str b=>obtain⟨t,rfl⟩:=rx;exact SeqAt.EqAt.str_str a t' b t
 |_=>exact absurd (show false=true from fx) Bool.false_ne_true
|_=>exact absurd (show false=true from fy) Bool.false_ne_true
noncomputable def eqU(x:V)(u:Value):Bool:=match u with
|.none=>eqV .non x
|.bool b=>eqV (.bl b) x
|.int i _=>eqV (.int i) x
|.str z _=>eqV (.str z) x
|_=>false
theorem Lv{x y:V}{u:Value}(r:RelV y u)(f:Yy y=true):eqU x u=eqV y x:=by
 cases y with
|non=>cases r;rfl
|bl b=>cases r;rfl
|int i=>obtain⟨t,rfl⟩:=r;rfl
|str z=>obtain⟨t,rfl⟩:=r;rfl
|_=>exact absurd (show false=true from f) Bool.false_ne_true
theorem UK{x:V}:∀{xs:List V}{us:List Value},Vals xs us->xs.all Yy=true->us.any (eqU x)=xs.any λy=>eqV y x
|_,_,.nil,_=>rfl
|y::xs,u::us,.cons r t,f=>by rw[List.all_cons,Bool.and_eq_true]at f;rw[b6,b6,Lv r f.1,UK t f.2]
theorem J8{A:bz}{s:ag}{x:V}{v:Value}(rx:RelV x v)(fx:Yy x=true):∀{xs:List V}{us:List Value},Vals xs us->xs.all Yy=true->∀u∈us,SeqAt.EqAt A s u v (eqU x u)
|_,_,.nil,_=>λu hu=>by cases hu
|y::xs,u::us,.cons r t,f=>λu' hu=>by
  rw[List.all_cons,Bool.and_eq_true]at f;rcases ao.mp hu with rfl|hu
  ·rw[Lv r f.1];exact Rx r rx f.1 fx
  ·exact J8 rx fx t f.2 u' hu
noncomputable def inV(x:V)(xs:List V):Bool:=xs.any λy=>eqV y x
def rIn(K:aa)(neg:Bool):R2:=λx y H Q=>∃p xs,y=.ref p/\(SqL K H p xs\/SqT K H p xs)/\Yy x=true/\xs.all Yy=true/\Q (.bl (if neg then !inV x xs else inV x xs)) H
theorem TR:OpR X (bp .In) (rIn X.K false):=by
 intro pins s σ H x y v u Q I rx ry h;obtain⟨p,xs,rfl,hq,fx,fs,q⟩:=h;cases ry;rcases hq with hq|hq
 ·obtain⟨its,r,pl,hz⟩:=I.list hq;refine SeqAt.in_listAt (eqU x) pl.isList (λw hw=>J8 rx fx r fs w (by simpa using hw)) ⟨.bl _,H,I,rfl,?_⟩;rw[show its.toArray.any (eqU x)=its.any (eqU x) by simp,UK r fs];exact q
 ·obtain⟨its,r,pl,hz⟩:=I.tuple hq;refine SeqAt.in_tupleAt (eqU x) pl (λw hw=>J8 rx fx r fs w (by simpa using hw)) ⟨.bl _,H,I,rfl,?_⟩;rw[show its.toArray.any (eqU x)=its.any (eqU x) by simp,UK r fs];exact q
theorem Po:OpR X (bp .NotIn) (rIn X.K true):=by
 intro pins s σ H x y v u Q I rx ry h;obtain⟨p,xs,rfl,hq,fx,fs,q⟩:=h;cases ry;rcases hq with hq|hq
 ·obtain⟨its,r,pl,hz⟩:=I.list hq;refine SeqAt.notIn_listAt (eqU x) pl.isList (λw hw=>J8 rx fx r fs w (by simpa using hw)) ⟨.bl _,H,I,rfl,?_⟩;rw[show its.toArray.any (eqU x)=its.any (eqU x) by simp,UK r fs];exact q
 ·obtain⟨its,r,pl,hz⟩:=I.tuple hq;refine SeqAt.notIn_tupleAt (eqU x) pl (λw hw=>J8 rx fx r fs w (by simpa using hw)) ⟨.bl _,H,I,rfl,?_⟩;rw[show its.toArray.any (eqU x)=its.any (eqU x) by simp,UK r fs];exact q
theorem JH:YS X (.builtin "len") (λxs H Q=>∃p ys,xs=[.ref p]/\(SqL X.K H p ys\/SqT X.K H p ys)/\Q (.int ys.length) H):=by
 intro pins s σ H xs us Q I r h;obtain⟨p,ys,rfl,hq,q⟩:=h;obtain⟨u,rfl,rx⟩:=vals1 r;cases rx;have hn:=JF;rcases hq with hq|hq
 ·obtain⟨its,r',pl,hz⟩:=I.list hq;have hlen:=r'.length;exact Calls.call_len_list pl.isList (by simp only[aq]<;>omega) ⟨.int ys.length,H,I.tok _,⟨s.toks+1,by rw[aq,hlen]⟩,q⟩
 ·obtain⟨its,r',pl,hz⟩:=I.tuple hq;have hlen:=r'.length;exact len_tuple pl (by simp only[aq]<;>omega) ⟨.int ys.length,H,I.tok _,⟨s.toks+1,by rw[aq,hlen]⟩,q⟩
theorem PH:YS X (.builtin "len") (λxs H Q=>∃z,xs=[.str z]/\z.length<=sizeLine/\Q (.int z.length) H):=by intro pins s σ H xs us Q I r h;obtain⟨z,rfl,hz,q⟩:=h;obtain⟨u,rfl,t,rfl⟩:=vals1 r;have hn:=JF;exact len_str (by omega) ⟨.int z.length,H,I.tok _,⟨_,rfl⟩,q⟩
theorem Xx:YS X (.type "list") (λxs H Q=>∃p ys,xs=[.ref p]/\(SqL X.K H p ys\/SqT X.K H p ys)/\∀l,H l=none->Q (.ref l) (upd H l (.lst ys))):=by
 intro pins s σ H xs us Q I r h;obtain⟨p,ys,rfl,hq,q⟩:=h;obtain⟨u,rfl,rx⟩:=vals1 r;cases rx;have fin:∀(its:List Value),Vals ys its->ys.length<=sizeLine->∀(h':Heap)(c':Nat),(∀b o',s.heap.get? b=some o'->h'.get? b=some o') ->h'.get? s.heap.objs.size=some {cls:=.type "list",dict:=none,data:=.seq its.toArray c',slots:=#[]}->EP X pins σ Q (.ref s.heap.objs.size) {s with heap:=h'}:=λits r' hz h' c' kp e=>⟨.ref s.heap.objs.size,_,I.laid (t':=s.toks) kp (Nat.le_refl _) (show Z4 X.prog X.w _ h' _ (.lst ys)from⟨hz,its,c',r',e⟩),rfl,q _ (I.hok.fresh (Nat.le_refl _))⟩;rcases hq with hq|hq
 ·obtain⟨its,r',pl,hz⟩:=I.list hq;have hlen:=r'.length;obtain⟨o,ho,hc,n,hd⟩:=pl.isList;exact call_list_seq p (.inl rfl) ho hc hd (λh' c' kp e=>fin its r' hz h' c' kp e) (by simp only[aq]<;>omega)
 ·obtain⟨its,r',pl,hz⟩:=I.tuple hq;have hlen:=r'.length;obtain⟨o,ho,hc,n,hd⟩:=pl;exact call_list_seq p (.inr rfl) ho hc hd (λh' c' kp e=>fin its r' hz h' c' kp e) (by simp only[aq]<;>omega)
theorem X6:YS X (.type "tuple") (λxs H Q=>∃p ys,xs=[.ref p]/\((SqL X.K H p ys/\∀l,H l=none->Q (.ref l) (upd H l (.tup ys)))\/(SqT X.K H p ys/\Q (.ref p) H))):=by
 intro pins s σ H xs us Q I r h;obtain⟨p,ys,rfl,h⟩:=h;obtain⟨u,rfl,rx⟩:=vals1 r;cases rx;rcases h with⟨hq,q⟩|⟨hq,q⟩
 ·obtain⟨its,r',pl,hz⟩:=I.list hq;have hlen:=r'.length;refine call_tuple_list pl.isList (λh' kp=>?_) (by simp only[aq]<;>omega);have I1:Inv X pins σ H {s with heap:=h'}:=I.kept (t':=s.toks) kp;have I2:Inv X pins σ (upd H h'.objs.size (.tup ys)) {s with heap:=h'.push {cls:=.type "tuple",data:=.seq its.toArray}}:=I1.laid (t':=s.toks) (λb o e=>Heap.get?_push_of_some _ e) (Nat.le_refl _) (show Z4 X.prog X.w _ _ _ (.tup ys)from⟨hz,its,r',IsTup.new _ _⟩);exact⟨.ref h'.objs.size,_,I2,rfl,q _ (I1.hok.fresh (Nat.le_refl _))⟩
 ·obtain⟨its,r',pl,hz⟩:=I.tuple hq;exact call_tuple_same pl ⟨.ref p,H,I,rfl,q⟩
def tyV(K:aa)(T:String)(x:V)(H:Hp):Prop:=match x with
|.str _=>T="str"
|.int _=>T="int"
|.ref p=>(T="list"/\∃xs,SqL K H p xs)\/(T="tuple"/\∃o,K.lookup p=some o/\o.cls=.type "tuple"/\o.dict=none) \/(T="dict"/\((∃kvs,H p=some (.dK kvs))\/∃kvs,H p=some (.dT kvs)))\/(T="set"/\∃S n,H p=some (.set S n))
|_=>False
theorem EF{pins:List (Addr×Obj)}{σ:St}{H:Hp}{s:ag}{T:String}{x:V}{v:Value}(I:Inv X pins σ H s)(r:RelV x v)(ty:tyV X.K T x H):s.TypeIs v T/\∀a,v=.ref a->∃ob,s.heap.get? a=some ob/\ob.dict=none:=by
 cases x with
|str z=>obtain⟨t,rfl⟩:=r;cases(show T="str" from ty);exact⟨typeIs_str s z t,λ_ e=>nomatch e⟩
|int i=>obtain⟨t,rfl⟩:=r;cases(show T="int" from ty);exact⟨typeIs_int s i t,λ_ e=>nomatch e⟩
|ref p=>
  cases r;rcases ty with⟨rfl,xs,hq⟩|⟨rfl,o,hk,hc,hd⟩|⟨rfl,hk⟩|⟨rfl,S,n,hk⟩
  ·obtain⟨its,_,pl,_⟩:=I.list hq;refine⟨pl.isList.typeIs,λa e=>?_⟩;cases e;obtain⟨o,n,e,c,hd,_⟩:=pl;exact⟨o,e,hd⟩
  ·refine⟨⟨o,I.kIn p o hk,hc⟩,λa e=>?_⟩;cases e;exact⟨o,I.kIn _ o hk,hd⟩
  ·have z:∃o,s.heap.get? p=some o/\o.ExactDict:=by
    rcases hk with⟨kvs,hk⟩|⟨kvs,hk⟩
    ·obtain⟨_,_,_,_,o,_,_,e,ex,_⟩:=I.hok p _ hk;exact⟨o,e,ex⟩
    ·obtain⟨_,_,_,_,o,_,_,e,ex,_⟩:=I.hok p _ hk;exact⟨o,e,ex⟩
   obtain⟨o,e,ex⟩:=z;refine⟨⟨o,e,ex.1⟩,λa e2=>?_⟩;cases e2;exact⟨o,e,ex.2.1⟩
  ·obtain⟨o,_,_,_,e,ex,_⟩:=I.hok p _ hk;refine⟨⟨o,e,ex.1⟩,λa e2=>?_⟩;cases e2;exact⟨o,e,ex.2.1⟩
|_=>exact b_ ty
def tBM(K:aa)(T:String)(r:V->List V->Hp->VK->Prop)(to:TE)(t:TA):TE:=λσ H Q=>to σ H λx H1=>tyV K T x H1/\t σ H1 λxs H2=>r x xs H2 Q
variable {o e:Expr}{es:List Expr}{to:TE}{t:TA}{name:Str}{apos cpos:Pos}{T id:String}{r:V->List V->Hp->VK->Prop}
theorem GY(pa:PlainAttrs T)(slot:Slot T name id)(hty:typeOf (.builtin id)=pure (.type "method_descriptor"))(hm:MtR X id r)(ho:PE X o to)(ha:PA X (e::es) t)(hbase:fo o name X.env (eval o X.env)=eval o X.env:=by rfl)(hfew:((cf cpos (aN (e::es) X.env)).all (λx=>!x.1)&&(d8 cpos (cW [] X.env)).all (λx=>x.1.isSome)&&decide ((e::es).length+([]:List Keyword).length+(if([]:List Keyword).isEmpty then 0 else 1)<30))=true:=by rfl)(hline:(apos.endLine==cpos.line)=true:=by rfl)(hs:aN (e::es) X.env=(false,eval e X.env)::aN es X.env:=by rfl)(hplain:(cf cpos (aN es X.env)).any (·.1)=false:=by rfl):PE X (.Call (.Attribute o name apos) (e::es) [] cpos) (tBM X.K T r to t):=by
 intro pins s σ H Q I h;refine wpAny_Call_method_late hbase hfew hline rfl (thn (ho pins s σ H _ I h) λv s1 hZ=>?_);obtain⟨x,H1,I1,r1,ty,q1⟩:=hZ;obtain⟨h1,h2⟩:=EF I1 r1 ty;refine⟨T,id,pa,slot,hty,h1,h2,?_⟩;have hA:=ha cpos pins s1 σ H1 _ I1 q1;rw[hs]at hA ⊢;refine Calls.callWith_builtin (by show(false||(cf cpos (aN es X.env)).any (·.1))=false;rw[hplain]<;>rfl) (Calls.evalArgs_plain ?_)
 exact thn hA λus s2⟨vs,H2,I2,r2,q2⟩=>hm pins s2 σ H2 x vs v us Q I2 r1 r2 q2
end
open PySem PySem.Spec PyProof.Rows
def MtM(X:Cx)(id:String)(r:V->List V->Hp->VK->Prop):Prop:=∀(pins:List (Addr×Obj))(s:ag)(σ:St)(H:Hp)(x:V)(xs:List V)(v:Value)(us:List Value)(Q:VK),Inv X pins σ H s->RelV x v->Vals xs us->r x xs H Q ->wpAny (model X.prog X.w) X.A (call (.builtin id) (v::us)) (EP X pins σ Q) X.xe s
theorem Vals.one:∀{x:V}{us:List Value},Vals [x] us->∃u,us=[u]/\RelV x u
|_,_,.cons r .nil=>⟨_,rfl,r⟩
theorem Vals.zero:∀{us:List Value},Vals [] us->us=[]
|_,.nil=>rfl
theorem Vals.reverse{xs:List V}{us:List Value}(h:Vals xs us):Vals xs.reverse us.reverse:=by
 induction h with
|nil=>exact .nil
|cons r t ih=>rw[List.reverse_cons,List.reverse_cons];exact Vals.append ih (.cons r .nil)
section
variable {X:Cx}{pins:List (Addr×Obj)}{σ:St}{H:Hp}{s:ag}{l b:Addr}{xs ys zs:List V}
theorem Inv.lset{its its':List Value}{n:Nat}{f:Array Value->Array Value}{t':Nat}(I:Inv X pins σ H s)(hH:H l=some (.lst xs))(e:s.heap.get? l=some {cls:=.type "list",data:=.seq its.toArray n})(hf:f its.toArray=its'.toArray)(hv:Vals ys its')(hz:ys.length<=sizeLine):Inv X pins σ (upd H l (.lst ys)) {s with heap:=s.heap.update l (Obj.mapSeq f),toks:=t'}:=by have q:=PySem.IsL.update e f;rw[hf]at q;refine I.write (x:=l) (e:=l) (by rw[hH];exact trivial) (.inl rfl) (λb' u hb hu=>(Heap.get?_update_other s.heap (Obj.mapSeq f) (bD hb)).trans hu) ⟨_,q⟩ ?_;exact⟨hz,its',_,hv,q⟩
theorem Inv.lnew{its:List Value}{t':Nat}(I:Inv X pins σ H s)(hv:Vals ys its)(hz:ys.length<=sizeLine):Inv X pins σ (upd H s.heap.objs.size (.lst ys)) {s with heap:=s.heap.push {cls:=.type "list",data:=.seq its.toArray},toks:=t'}:=I.laid (λ_ _ q=>Heap.get?_push_of_some _ q) (Nat.le_refl _) ⟨hz,its,0,hv,Heap.get?_push_size _ rfl⟩
theorem Inv.fresh(I:Inv X pins σ H s):H s.heap.objs.size=none:=I.hok.fresh (Nat.le_refl _)
theorem Inv.lstM(I:Inv X pins σ H s)(hH:H l=some (.lst xs)):xs.length<=sizeLine/\∃(its:List Value)(n:Nat),Vals xs its/\xs.length=its.length/\s.heap.get? l=some {cls:=.type "list",data:=.seq its.toArray n}:=by obtain⟨z,its,n,r,e⟩:=I.hok l _ hH;exact⟨z,its,n,r,r.length,e⟩
theorem La{n:Nat}(h:n<=sizeLine):dU n=false:=by unfold dU;exact decide_eq_false (by omega)
end
section
variable {X:Cx}
noncomputable def SA:V->List V->Hp->VK->Prop:=λx vs H Q=>∃l xs y,x=.ref l/\vs=[y]/\H l=some (.lst xs)/\xs.length<sizeLine/\Q .non (upd H l (.lst (xs++[y])))
theorem Jh:MtM X "list.append" SA:=by intro pins s σ H x vs v us Q I rx rv h;obtain⟨l,xs,y,rfl,rfl,hH,hz,q⟩:=h;cases rx;obtain⟨u,rfl,ru⟩:=rv.one;obtain⟨z,its,n,r,hl,e⟩:=I.lstM hH;refine call_meets F.slot_list_append ⟨_,e,rfl⟩ F.entry_list_append (F.args_list_append_2 _ _) (PySem.list_append l its.toArray n u (by rw[aq];omega)) ⟨e,?_⟩;refine⟨.non,_,I.lset (its':=its++[u]) hH e (by simp) (r.append (.cons ru .nil)) ?_,rfl,q⟩;rw[ah,List.length_singleton];omega
noncomputable def Dq:V->List V->Hp->VK->Prop:=λx vs H Q=>∃l b xs zs,x=.ref l/\vs=[.ref b]/\H l=some (.lst xs)/\H b=some (.lst zs)/\xs.length+zs.length<=sizeLine/\Q .non (upd H l (.lst (xs++zs)))
theorem NC:MtM X "list.extend" Dq:=by
 intro pins s σ H x vs v us Q I rx rv h;obtain⟨l,b,xs,zs,rfl,rfl,hH,hB,hz,q⟩:=h;cases rx;obtain⟨u,rfl,ru⟩:=rv.one;cases ru;obtain⟨z,its,n,r,hl,e⟩:=I.lstM hH;obtain⟨z2,its2,n2,r2,hl2,e2⟩:=I.lstM hB;have hsz:its.toArray.size+its2.toArray.size<=sizeLine:=by rw[aq,aq];omega
 have hlong:¬(!its.toArray.isEmpty&&dU (its.toArray.size+its2.toArray.size))=true:=by rw[La hsz,Bool.and_false];exact Bool.false_ne_true
 refine call_meets F.slot_list_extend ⟨_,e,rfl⟩ F.entry_list_extend (F.args_list_extend_2 _ _) (AutoSeq1.list_extend_list_list_0 l its.toArray n b its2.toArray n2 hlong (by rw[aq];omega) (by omega)) ⟨e,e2,?_⟩;refine⟨.non,_,I.lset (its':=its++its2) hH e (by simp) (r.append r2) ?_,rfl,q⟩;rw[ah];omega
def rCat:R2:=λx y H Q=>∃l b xs zs,x=.ref l/\y=.ref b/\H l=some (.lst xs)/\H b=some (.lst zs)/\xs.length+zs.length<=sizeLine/\∀p,H p=none->Q (.ref p) (upd H p (.lst (xs++zs)))
theorem Z8:OpR X (d6 .Add) rCat:=by
 intro pins s σ H x y v u Q I rx ry h;obtain⟨l,b,xs,zs,rfl,rfl,hH,hB,hz,q⟩:=h;cases rx;cases ry;obtain⟨z,its,n,r,hl,e⟩:=I.lstM hH;obtain⟨z2,its2,n2,r2,hl2,e2⟩:=I.lstM hB;refine PySem.P.add_list e e2 ?_ (by rw[aq,aq];omega);have ea:its.toArray++its2.toArray=(its++its2).toArray:=by simp
 rw[ea];exact⟨.ref _,_,I.lnew (t':=s.toks) (r.append r2) (by rw[ah];omega),rfl,q _ I.fresh⟩
end
end L2
namespace Att
open PySem PySem.W PySem.Calls PyProof.Rows
theorem G8{P:Params}{h:Heap}:∀(ns:List Int)(vs:List Value),WellAll P h vs (ns.map WData.int)->IntsAre vs ns:=by
 intro ns;induction ns with
|nil=>intro vs w;rw[d5]at w;cases w;exact .nil
|cons n ns ih=>
  intro vs w;rw[ar]at w;cases w with
 |cons a b=>cases a;exact .cons _ _ (ih _ b)
theorem TC{l:OpenLaw}{n:Nat}(hn:l.most=some n){P:Params}{h:Heap}{args:List WData}{vals:List Value}(hpre:l.row.toRowW.claim.pre args=true)(hwl:WellAll P h vals args):∃a vs ns,vals=[Value.ref a]/\args=[WData.list (ns.map WData.int)]/\h.get? a=some {cls:=.type "list",data:=.seq vs.toArray}/\IntsAre vs ns/\ns.length<=n:=by
 have hsh:WShape.hasAll [] args [.list .int]=true:=(pre_splitW hpre).1;have hc:l.pre.holds [] {args:=args}=true:=(pre_splitW hpre).2;obtain⟨d,r,rfl,h1,h2⟩:=hasAllW_cons hsh;obtain rfl:=hasAllW_nil h2;obtain⟨xs,rfl,h3⟩:=hasW_list h1;obtain⟨ns,rfl⟩:=items_int h3;have hlen:ns.length<=n:=by
  unfold OpenLaw.pre at hc;have h4:(WTm.not (.lt (.lit (.int (n:Int))) (.len (.arg 0)))).holds [] {args:=[.list (ns.map .int)]}=true:=by have h4:=(holds_andW hc).1;rw[hn]at h4;exact h4
  have h5:=condW_of h4 (w_not (w_lt w_lit (w_len_list (w_arg rfl))));rw[bw]at h5;refine Nat.le_of_not_lt λq=>?_;have q':(n:Int)<((ns.length:Nat):Int):=by omega
  first
  |(rw[decide_eq_true q']at h5;exact absurd h5 (by decide))
  |(simp at h5;omega)
 cases hwl with
|cons w1 w2=>
  cases w2;cases w1 with
 |list ho hall=>exact⟨_,_,ns,rfl,rfl,ho,G8 ns _ hall,hlen⟩
theorem TK(l:OpenLaw)(args:List WData):l.row.toRowW.claim.post args (.bool true) args=true:=postW_of (r:=l.row.toRowW) (X:=(true==true)) (show WShape.has [] (.bool true) .bool=true by first|rfl|decide|simp[WShape.has,WShape.arms,WShape.armsAll]) (show(WTm.eq .res (.lit (.bool true))).value [] {args:=args,res:=some (.bool true),after:=args}=some (.bool (true==true))from w_eq_bool (w_res rfl) w_lit) rfl
theorem attach_call{l:OpenLaw}{n:Nat}{q:Program}{loose:List Str}{XP:(Str->Option Value)->Heap->Prop}{YP:World->Heap->Prop}{d:DefRec}(hn:l.most=some n)(hdf:d.params.defaults=[])(call:∀(w:World)(s₀ s₁:ag)(mg mb:Str->Option Value)(fa:Addr)(o:Obj)(pm cd doc:Value)(a:Addr)(vs:List Value)(ns:List Int),Ground q loose [] XP w s₀ mg mb s₁.heap->YP w s₁.heap ->s₁.heap.get? fa=some o->o.data=.func (docDef d.name d.params d.body d.scope pm cd doc)->s₁.heap.CodeRec cd d.name->mg d.name=some (.ref fa) ->s₁.heap.get? a=some {cls:=.type "list",data:=.seq vs.toArray}->IntsAre vs ns->ns.length<=n->s₁.gens=#[] ->fG (model l.prog w) callerA (.call (.ref fa) ⟨[.ref a],[]⟩) (λr s'=>r=.ok (.ret (.bool true))/\OldK s₁.heap s'.heap/\s'.os=s₁.os/\fH s'.gens) s₁):WalkO q loose XP YP l.row.toRowW d [] (λf vs=>PySem.call f vs):=by intro w s₀ s₁ mg mb G Y fa o pm cd doc dV kV ho hd hcd hD hmg hg args vals as hpre hlay hrd hwl hlo;obtain rfl:dV=.none:=Dflts.none hD hdf;obtain rfl:kV=.none:=Dflts.noKw hD;obtain⟨a,vs,ns,rfl,rfl,hobj,hints,hlen⟩:=TC hn hpre hwl;refine enter_call (codeAny_mono (call w s₀ s₁ mg mb fa o pm cd doc a vs ns G Y ho (fd_plain hd) hcd hmg hobj hints hlen hg) λr s' hq=>?_);obtain⟨rfl,h2,h3,h4⟩:=hq;exact⟨.inl ⟨.bool true,.bool true,[],rfl,λ_=>rfl,.bool true,TK l _,λ_=>⟨List.Pairwise.nil,λ_ hm=>(nomatch hm)⟩⟩,h2,h3,h4⟩
end Att
namespace L2
open PySem PySem.Spec PyProof.Rows
theorem Nj:∀{vs:List Value}{ns:List Int},IntsAre vs ns->Vals (ns.map V.int) vs
|_,_,.nil=>.nil
|_,_,.cons n t h=>.cons ⟨t,rfl⟩ (Nj h)
def Only(H:Hp):Prop:=∀b,H b=none\/∃o xs,H b=some (.frz o (.lst xs))
theorem Lh{P:Program}{w:World}{K:aa}{mg mb:Str->Option Value}{CX:CXT}{k:Nat}{fa a:Addr}{fd:bW}{x:Str}{sp:Sp}{s₁:ag}{vs:List Value}{ns:List Int}(KX:K.In s₁.heap)(hns:s₁.heap.Ns bc mg)(hb:s₁.heap.Ns builtinsNs mb)(hbb:∀x:Str,x≠"__name__"->mb x=bF x)(hlim:s₁.heap.NoLimit)(hg:s₁.gens=#[])(ha:s₁.heap.get? a=some {cls:=.type "list",data:=.seq vs.toArray})(hi:IntsAre vs ns)(hl:ns.length<=sizeLine)(hr:Room k callerA)(F:∀base:Heap,K.In base->base.Ns bc mg->FnOk P w K mg base CX k fa fd [x] sp)(hbind:∀(s:ag)(u:Value),BindsTo s fd ⟨[u],[]⟩ [(x,u)])(hsp:∀H:Hp,Only H->SqL K H a (ns.map V.int)->sp [.ref a] H (λv _=>v=.bl true) λ_ _ _=>False)(hCX:∀H e s',CX [] H s₁ (λ_ _ _=>False) e s'->False):fG (model P w) callerA (.call (.ref fa) ⟨[.ref a],[]⟩) (λr s'=>r=.ok (.ret (.bool true))/\OldK s₁.heap s'.heap/\s'.os=s₁.os/\fH s'.gens) s₁:=by
 have rv:=Nj hi;have lenV:=hi.length;have core:∀H:Hp,Only H->SqL K H a (ns.map V.int)->HOk P w H s₁.heap->(∀b,H b≠none->b=a)->(H a≠none->K.lookup a=none) ->fG (model P w) callerA (.call (.ref fa) ⟨[.ref a],[]⟩) (λr s'=>r=.ok (.ret (.bool true))/\OldK s₁.heap s'.heap/\s'.os=s₁.os/\fH s'.gens) s₁:=by
  intro H hO hS hok hA hK;have base_of:∀{b:Addr}{o:Obj},s₁.heap.get? b=some o->H b=none->(hidT s₁.heap H).get? b=some o:=λe n=>Lp e n;have noA:∀{b:Addr}{o:Obj}{es:Array DictEntry}{ep:Nat},s₁.heap.get? b=some o->o.data=.dict es ep->H b=none:=λ{b o es ep}e d=>by
   cases q:H b with
  |none=>rfl
  |some u=>have e':b=a:=hA b (by rw[q];simp);subst e';rw[ha]at e;cases e;have d':Data.seq vs.toArray _=Data.dict es ep:=d;cases d'
  have nsK:∀{b:Addr}{m:Str->Option Value},s₁.heap.Ns b m->(hidT s₁.heap H).Ns b m:=λ{b m}⟨o,es,ep,e,d,r⟩=>⟨o,es,ep,base_of e (noA e d),d,r⟩;have hKb:K.In (hidT s₁.heap H):=λb o e=>base_of (KX b o e) (by
   cases q:H b with
  |none=>rfl
  |some u=>have e':b=a:=hA b (by rw[q];simp);subst e';rw[hK (by rw[q];simp)]at e;cases e)
  have hM:Mod K mg (hidT s₁.heap H):=⟨hKb,nsK hns,⟨mb,nsK hb,hbb⟩,let ⟨mc,h1,h2⟩:=hlim;⟨mc,nsK h1,h2⟩⟩;have e0:Env0 P w K mg (hidT s₁.heap H) callerA [] s₁ H:=⟨rfl,hM,λb o e=>DA e,Nat.le_of_eq (We _ _),trivial,λb hb=>absurd (show b∈([]:List Addr)from hb) (by simp),hok,.of_eq hg⟩;refine codeAny_mono ((F _ hKb (nsK hns)).run callerA [] s₁ H ⟨[.ref a],[]⟩ [.ref a] [.ref a] _ _ hr e0 (hbind s₁ (.ref a)) (.cons rfl .nil) (hsp H hO hS)) λr s' h=>?_;cases r with
 |error e=>exact(hCX H e s' h).elim
 |ok fl=>
   cases fl with
  |next=>exact b_ h
  |brk=>exact b_ h
  |cont=>exact b_ h
  |ret u=>
    obtain⟨v,H',os,bare,un,hok',r',q⟩:=h;have q':v=.bl true:=q;subst q';obtain rfl:u=Value.bool true:=r';refine⟨rfl,OldK.of_keep λb o e=>?_,os,bare⟩;cases q:H b with
   |none=>exact un.keep b o e q (by intro z;exact absurd (show b∈([]:List Addr)from z) (by simp)) (by simp)
   |some u=>
     rcases hO b with z|⟨ob,xs,z⟩
     ·rw[q]at z;cases z
     ·have z2:=un.frzs b ob _ z;obtain⟨e1,_⟩:=hok b _ z;obtain⟨e2,_⟩:=hok' b _ z2;rw[e]at e1;cases e1;exact e2
 cases hk:K.lookup a with
|some o=>have e:=KX a o hk;rw[ha]at e;cases e;refine core (λ_=>none) (λ_=>.inl rfl) (.inr ⟨_,vs.toArray,_,hk,rfl,rfl,rfl,by rw[aq,lenV];exact hl,by simpa using rv⟩) (λb u z=>by have z':(none:Option HO)=some u:=z;cases z') (λb z=>absurd rfl z) λz=>absurd rfl z
|none=>
  refine core (λb=>if b=a then some (.frz {cls:=.type "list",data:=.seq vs.toArray} (.lst (ns.map V.int)))else none) (λb=>?_) (.inl (.inr ⟨{cls:=.type "list",data:=.seq vs.toArray},if_pos rfl⟩)) (λb u z=>?_) (λb z=>?_) λ_=>hk
  ·by_cases hb:b=a
   ·exact .inr ⟨_,_,if_pos hb⟩
   ·exact .inl (if_neg hb)
  ·by_cases hb:b=a
   ·have z':=(if_pos hb).symm.trans z;cases z';subst hb;exact⟨ha,by rw[bw];exact hl,vs,_,rv,ha⟩
   ·have z':=(if_neg hb).symm.trans z;cases z'
  ·by_cases hb:b=a
   ·exact hb
   ·exact absurd (if_neg hb) z
open PySem PySem.Spec PyProof.Rows
noncomputable abbrev KOf{K:aa}{h:Heap}(_:K.In h):aa:=K
theorem L6{l:gA}{n k:Nat}{q:Program}{loose:List Str}{XP:(Str->Option Value)->Heap->Prop}{YP:World->Heap->Prop}{d:DefRec}{K:Params->aa}{CX:World->CXT}{sp:World->Sp}{x:Str}(hn:l.most=some n)(hn2:n<=sizeLine)(hdf:d.params.defaults=[])(hr:Room k callerA)(hY:∀(w:World)(h:Heap),YP w h->(K w.params).In h)(F:∀(w:World)(mg:Str->Option Value)(fa:Addr)(h:Heap),(K w.params).In h->h.Ns bc mg->mg d.name=some (.ref fa) ->∃fd:bW,(∀(s:ag)(u:Value),BindsTo s fd ⟨[u],[]⟩ [(x,u)]) /\∀base:Heap,(K w.params).In base->base.Ns bc mg->FnOk l.prog w (K w.params) mg base (CX w) k fa fd [x] (sp w))(hsp:∀(w:World)(H:Hp)(a:Addr)(ns:List Int),ns.length<=n->Only H->SqL (K w.params) H a (ns.map V.int)->sp w [.ref a] H (λv _=>v=.bl true) λ_ _ _=>False)(hCX:∀(w:World)(H:Hp)(s:ag)(e:Value)(s':ag),CX w [] H s (λ_ _ _=>False) e s'->False):PySem.W.WalkO q loose XP YP l.row.toRowW d [] (λf vs=>PySem.call f vs):=by refine Att.attach_call hn hdf λw s₀ s₁ mg mb fa o pm cd doc a vs ns G Y ho hd hcd hmg hobj hints hlen hg=>?_;have KX:=hY w _ Y;obtain⟨fd,hb,hF⟩:=F w mg fa _ KX G.T.g hmg;exact Lh KX G.T.g G.T.b G.T.builtins G.T.nolimit hg hobj hints (Nat.le_trans hlen hn2) hr hF hb (λH hO hS=>hsp w H a ns hlen hO hS) λH e s'=>hCX w H s₁ e s'
open PySem PySem.Spec PyProof.Rows
noncomputable def inClass(s:Stmt)(j:Nat):Stmt:=match s with
|.ClassDef _ _ _ body _ _ _ _ _ _ _=>body.getD j (.Pass ⟨0,0,0,0⟩)
|_=>.Pass ⟨0,0,0,0⟩
noncomputable def YK(s:Stmt):Arguments:=match s with
|.FunctionDef _ a _ _ _ _ _ _ _ _=>a
|_=>{posonlyargs:=[],args:=[],vararg:=none,kwonlyargs:=[],kw_defaults:=[],kwarg:=none,defaults:=[]}
noncomputable def Yh(s:Stmt):List Stmt:=match s with
|.FunctionDef _ _ b _ _ _ _ _ _ _=>b
|_=>[]
noncomputable def Zd(s:Stmt):Scope:=match s with
|.FunctionDef _ _ _ _ _ _ sc _ _ _=>sc
|_=>{kind:=.function,names:=[],isGenerator:=false,isCoroutine:=false}
noncomputable abbrev CX0:CXT:=λ_ _ _ _ _ _=>False
abbrev E0:XK:=λ_ _ _=>False
theorem Ys{X:Cx}:Passes CX0 X E0:=λ_ _ _ _ _ _ _ h=>h.elim
structure Fun(K:aa)(x qual:Str)(st:Stmt)(f:Addr)(fd:bW):Prop where
 ex:∃(oc:Value)(od:Option Addr)(kV doc pm:Value)(an:Option Addr)(cdv ct:Value)(osl:Array (Option Value)),
  fd=bE x qual (YK st) (Yh st) (Zd st) .none kV doc pm an cdv ct/\K.lookup f=some ⟨oc,od,.func fd,osl⟩/\b8 K cdv qual=true
 kp:bu K (.ref f)=true
section
variable {P:Program}{w:World}{K:aa}{mg:Str->Option Value}{base:Heap}
theorem Fun.ok{x qual:Str}{st:Stmt}{f:Addr}{fd:bW}{N ps:List Str}{k:Nat}{sp:Sp}(F:Fun K x qual st f fd)(S:FnScope N ps (Zd st))(len:∀vs H Q E,sp vs H Q E->vs.length=ps.length)(hbody:∀(cdv:Value)(A:bz)(outer:List Env)(s:ag)(H:Hp)(vs:List V)(Q:VK)(E:XK),Room k (A.deeper (dI qual (Zd st) s.heap.objs.size f cdv))->sp vs H Q E ->∃t,PSs (cxOf CX0 P w K mg base N qual (Zd st) f cdv A outer s H E).nox (Yh st) t/\t {nx:=λ_ H'=>Q .non H',rt:=Q} (start N vs) H):FnOk P w K mg base CX0 (k+1) f fd ps sp:=by obtain⟨oc,od,kV,doc,pm,an,cdv,ct,osl,rfl,lk,hcd⟩:=F.ex;refine HY lk hcd S len λA outer s H vs Q E hr hsp=>?_;obtain⟨t,h,q⟩:=hbody cdv A outer s H vs Q E hr hsp;exact⟨t,h.nox,q⟩
theorem Fun.binds{x qual:Str}{st:Stmt}{f:Addr}{fd:bW}{ps:List Str}(F:Fun K x qual st f fd)(h:∀(kV doc pm:Value)(an:Option Addr)(cdv ct:Value)(us:List Value),us.length=ps.length->bindArgs (bE x qual (YK st) (Yh st) (Zd st) .none kV doc pm an cdv ct) ⟨us,[]⟩=pure (ps.zip us)):Binds K fd ps []:=by obtain⟨oc,od,kV,doc,pm,an,cdv,ct,osl,rfl,lk,hcd⟩:=F.ex;exact .all (h kV doc pm an cdv ct)
theorem Va{x qual:Str}{st:Stmt}{f:Addr}{oc:Value}{od an:Option Addr}{osl:Array (Option Value)}{kV doc pm cdv ct:Value}(l:K.lookup f=some ⟨oc,od,.func (bE x qual (YK st) (Yh st) (Zd st) .none kV doc pm an cdv ct),osl⟩)(c:b8 K cdv qual=true)(k:bu K (.ref f)=true):Fun K x qual st f (bE x qual (YK st) (Yh st) (Zd st) .none kV doc pm an cdv ct):=⟨⟨oc,od,kV,doc,pm,an,cdv,ct,osl,rfl,l,c⟩,k⟩
end
theorem YX{A:bz}{k:Nat}(hr:Room k A):A.units+1<cLine:=Nat.lt_of_le_of_lt (Nat.add_le_add_left (by decide:1<=64) _) hr.units
theorem Jb{n:Nat}(h:n<=1000):n<sizeLine:=Nat.lt_of_le_of_lt h (by decide)
section
variable {X:Cx}
theorem pv(i:Nat){x:Str}{pos:Pos}(hN:X.N[i]?=some x:=by rfl)(hv:Vis X.env.scope x:=by first|exact aK rfl|exact b9 (aK rfl)|exact b9 (b9 rfl))(hd:(x==("__debug__":Str))=false:=by decide)(hcd:(x==("__classdict__":Str))=false:=by decide):PE X (.Name x pos) (tVar i):=KL hN hv hd hcd
end
theorem iteF{A B:Prop}(h:B):if false=true then A else B:=by rw[if_neg Bool.false_ne_true];exact h
theorem iteT{A B:Prop}(h:A):if true=true then A else B:=by rw[if_pos rfl];exact h
theorem ite2{c A B:Prop}[Decidable c](h1:c->A)(h2:¬c->B):if c then A else B:=by
 by_cases h:c
 ·rw[if_pos h];exact h1 h
 ·rw[if_neg h];exact h2 h
def Same(H H':Hp):Prop:=∀b o,H b=some o->H' b=some o
theorem Same.refl(H:Hp):Same H H:=λ_ _ h=>h
theorem Same.trans{H H1 H2:Hp}(a:Same H H1)(b:Same H1 H2):Same H H2:=λc o h=>b c o (a c o h)
theorem Same.free{H H':Hp}(e:Same H H'){l:Addr}(h:H' l=Option.none):H l=Option.none:=by
 cases q:H l with
|none=>rfl
|some o=>rw[e l o q]at h;cases h
open PySem PySem.Spec PyProof.Rows
section
variable {κ:Type}[DecidableEq κ]
noncomputable def valV(kvs:List (κ×V))(k:κ):Option V:=(kvs.find? λkv=>decide (kv.1=k)).map (·.2)
noncomputable def putK(kvs:List (κ×V))(k:κ)(v:V):List (κ×V):=if(kvs.any λkv=>decide (kv.1=k))=true then kvs.map (λkv=>if kv.1=k then(kv.1,v)else kv)else kvs++[(k,v)]
theorem Yv{p:κ×V}{r:List (κ×V)}{k:κ}(e:p.1=k):valV (p::r) k=some p.2:=by simp[valV,bV,e]
theorem Yw{p:κ×V}{r:List (κ×V)}{k:κ}(e:¬p.1=k):valV (p::r) k=valV r k:=by simp[valV,bV,e]
theorem X8(k:κ):∀kvs:List (κ×V),(kvs.any λkv=>decide (kv.1=k))=(valV kvs k).isSome
|[]=>rfl
|p::r=>by
  rw[b6];by_cases e:p.1=k
  ·simp only[Yv e,decide_eq_true e,Bool.true_or,Option.isSome_some]
  ·rw[Yw e,decide_eq_false e,Bool.false_or];exact X8 k r
theorem PV(k j:κ)(y:V):∀kvs:List (κ×V),valV (kvs.map λkv=>if kv.1=k then(kv.1,y)else kv) j=(valV kvs j).map λx=>if j=k then y else x
|[]=>rfl
|p::r=>by
  have ih:=PV k j y r;rw[ar];by_cases h:p.1=k
  ·rw[if_pos h];by_cases e:p.1=j
   ·rw[Yv (p:=(p.1,y)) e,Yv e,fg,if_pos (e.symm.trans h)]
   ·rw[Yw (p:=(p.1,y)) e,Yw e,ih]
  ·rw[if_neg h];by_cases e:p.1=j
   ·rw[Yv (p:=p) e,Yv e,fg,if_neg (λz=>h (e.trans z))]
   ·rw[Yw (p:=p) e,Yw e,ih]
theorem Nk(k j:κ)(y:V):∀kvs:List (κ×V),valV kvs k=none->valV (kvs++[(k,y)]) j=if j=k then some y else valV kvs j
|[],_=>by
  by_cases e:k=j
  ·rw[if_pos e.symm];exact Yv (p:=(k,y)) e
  ·rw[if_neg (λz=>e z.symm)];exact Yw (p:=(k,y)) e
|p::r,hn=>by
  rw[List.cons_append];have hk:¬p.1=k:=λz=>by rw[Yv z]at hn;cases hn
  rw[Yw hk]at hn;have ih:=Nk k j y r hn;by_cases e:p.1=j
  ·rw[Yv e,Yv e,if_neg (λz=>hk (e.trans z))]
  ·rw[Yw e,Yw e,ih]
theorem Xa(kvs:List (κ×V))(k j:κ)(y:V):valV (putK kvs k y) j=if j=k then some y else valV kvs j:=by
 unfold putK;by_cases a:(kvs.any λkv=>decide (kv.1=k))=true
 ·rw[if_pos a,PV];rw[X8]at a;by_cases e:j=k
  ·obtain⟨x,hx⟩:=cy.mp a;rw[if_pos e,e,hx,fg,if_pos rfl]
  ·rw[if_neg e];cases valV kvs j with
  |none=>rfl
  |some x=>rw[fg,if_neg e]
 ·rw[if_neg a];refine Nk k j y kvs ?_;rw[X8]at a;cases q:valV kvs k with
 |none=>rfl
 |some x=>rw[q]at a;exact(a rfl).elim
theorem Y5(kvs:List (κ×V))(k:κ)(v:V):(putK kvs k v).length<=kvs.length+1:=by
 unfold putK;split
 ·rw[bw];omega
 ·rw[ah,aW,fv];omega
theorem RelO.isSome_eq{o:Option V}{u:Option Value}(r:RelO o u):o.isSome=u.isSome:=by
 cases o with
|none=>cases u with
 |none=>rfl
 |some _=>exact(show False from r).elim
|some _=>cases u with
 |none=>exact(show False from r).elim
 |some _=>rfl
theorem KV.val{kvs:List (κ×V)}{vs:List (κ×Value)}(r:KV kvs vs)(k:κ):RelO (valV kvs k) (valueAt vs k):=by
 unfold KV at r;induction r with
|nil=>exact bK
|@cons p q ps qs h t ih=>
  obtain⟨h1,h2⟩:=h;by_cases e:p.1=k
  ·have e':q.1=k:=h1.symm.trans e;have b:valueAt (q::qs) k=some q.2:=by simp[valueAt,bV,e']
   rw[Yv e,b];exact h2
  ·have e':¬q.1=k:=λz=>e (h1.trans z);have b:valueAt (q::qs) k=valueAt qs k:=by simp[valueAt,bV,e']
   rw[Yw e,b];exact ih
theorem KV.any{kvs:List (κ×V)}{vs:List (κ×Value)}(r:KV kvs vs)(k:κ):(kvs.any λkv=>decide (kv.1=k))=vs.any λkv=>decide (kv.1=k):=by
 unfold KV at r;induction r with
|nil=>rfl
|cons h t ih=>rw[b6,b6,ih,h.1]
theorem KV.repl{kvs:List (κ×V)}{vs:List (κ×Value)}(r:KV kvs vs)(k:κ){y:V}{u:Value}(ry:RelV y u):KV (kvs.map λkv=>if kv.1=k then(kv.1,y)else kv) (vs.map λkv=>if kv.1=k then(kv.1,u)else kv):=by
 unfold KV at r ⊢;induction r with
|nil=>exact .nil
|@cons p q ps qs h t ih=>
  rw[ar,ar];refine .cons ?_ ih;obtain⟨h1,h2⟩:=h;by_cases e:p.1=k
  ·rw[if_pos e,if_pos (h1.symm.trans e)];exact⟨h1,ry⟩
  ·rw[if_neg e,if_neg (λz=>e (h1.trans z))];exact⟨h1,h2⟩
theorem KV.put{kvs:List (κ×V)}{vs:List (κ×Value)}(r:KV kvs vs)(k:κ){y:V}{u:Value}(ry:RelV y u):KV (putK kvs k y) (stored vs k u):=by
 unfold putK stored;rw[r.any k];by_cases e:(vs.any λkv=>decide (kv.1=k))=true
 ·rw[if_pos e,if_pos e];exact r.repl k ry
 ·rw[if_neg e,if_neg e];exact dH r ⟨rfl,ry⟩
theorem KV.length{kvs:List (κ×V)}{vs:List (κ×Value)}(r:KV kvs vs):kvs.length=vs.length:=aL r
end
theorem Qu{P:Program}{w:World}{k:Key}{u:Value}(r:RelV (kV k) u):(ZI P w).is k u=true:=by
 cases k with
|inl i=>obtain⟨t,e⟩:=(show ∃t,u=Value.int i t from r);subst e;exact Qo P w i t
|inr x=>obtain⟨t,e⟩:=(show ∃t,u=Value.str x t from r);subst e;exact Qn P w x t
theorem NF{P:Program}{w:World}:∀{ks:List Key}{us:List Value},Vals (ks.map kV) us->ItemsAre (ZI P w) ks us
|[],_,r=>by rw[d5]at r;cases r;exact .nil
|k::ks,_,r=>by
  rw[ar]at r;cases r with
 |cons h t=>exact .cons (Qu h) (NF t)
noncomputable abbrev KT(H:Hp):List (List Key×V)->List (List Key×Addr×Value)->Prop:=bo λp q=>p.1=q.1/\H q.2.1=some (.tup (p.1.map kV))/\RelV p.2 q.2.2
theorem KT.val{H:Hp}{kvs:List (List Key×V)}{xs:List (List Key×Addr×Value)}(r:KT H kvs xs)(k:List Key):RelO (valV kvs k) ((atKey xs k).map (·.2)):=by
 induction r with
|nil=>exact bK
|@cons p q ps qs h t ih=>
  obtain⟨h1,_,h2⟩:=h;by_cases e:p.1=k
  ·have e':q.1=k:=h1.symm.trans e;have b:atKey (q::qs) k=some q.2:=by simp[atKey,bV,e']
   rw[Yv e,b];exact h2
  ·have e':¬q.1=k:=λz=>e (h1.trans z);have b:atKey (q::qs) k=atKey qs k:=by simp[atKey,bV,e']
   rw[Yw e,b];exact ih
theorem KT.repl{H:Hp}{kvs:List (List Key×V)}{xs:List (List Key×Addr×Value)}(r:KT H kvs xs)(k:List Key){y:V}{u:Value}(ry:RelV y u):KT H (kvs.map λkv=>if kv.1=k then(kv.1,y)else kv) (xs.map (putAt k u)):=by
 induction r with
|nil=>exact .nil
|@cons p q ps qs h t ih=>
  rw[ar,ar];refine .cons ?_ ih;obtain⟨h1,h2,h3⟩:=h;unfold putAt;by_cases e:p.1=k
  ·rw[if_pos e,if_pos (h1.symm.trans e)];exact⟨h1,h2,ry⟩
  ·rw[if_neg e,if_neg (λz=>e (h1.trans z))];exact⟨h1,h2,h3⟩
theorem KT.put{H:Hp}{kvs:List (List Key×V)}{xs:List (List Key×Addr×Value)}(r:KT H kvs xs)(k:List Key){b:Addr}{y:V}{u:Value}(hb:H b=some (.tup (k.map kV)))(ry:RelV y u):KT H (putK kvs k y) (storedH xs k b u):=by
 have e:(kvs.any λkv=>decide (kv.1=k))=(atKey xs k).isSome:=by rw[X8,(r.val k).isSome_eq,dv]
 unfold putK storedH;rw[e];by_cases q:(atKey xs k).isSome=true
 ·rw[if_pos q,if_pos q];exact r.repl k ry
 ·rw[if_neg q,if_neg q];exact dH r ⟨rfl,hb,ry⟩
theorem KT.keeps{H H':Hp}{kvs:List (List Key×V)}{xs:List (List Key×Addr×Value)}(r:KT H kvs xs)(ht:∀b ys,H b=some (.tup ys)->H' b=some (.tup ys)):KT H' kvs xs:=Paired.mapP r λ_ _ z=>⟨z.1,ht _ _ z.2.1,z.2.2⟩
section
variable {P:Program}{w:World}{H:Hp}{h:Heap}{a:Addr}
theorem Eo{u:HO}(ok:HOk P w H h)(e:Rd H a u):Z4 P w H h a u:=e.ok ok
theorem Tn{kvs:List (Key×V)}(ok:HOk P w H h)(e:Rd H a (.dK kvs)):kvs.length<=sizeLine/\(a==sysModules)=false/\∃vs,KV kvs vs/\h.DictOf (ZI P w) a vs:=show Z4 P w H h a (.dK kvs)from Eo ok e
theorem EA{kvs:List (Key×V)}(ok:HOk P w H h)(e:H a=some (.dK kvs)):kvs.length<=sizeLine/\(a==sysModules)=false/\∃vs,KV kvs vs/\h.DictOf (ZI P w) a vs:=Tn ok (.inl e)
theorem MQ{ks:List Key}(ok:HOk P w H h)(e:H a=some (.tup (ks.map kV))):(ck (ZI P w)).is h ks a:=by obtain⟨_,its,r,o,h1,h2,n,h3⟩:=(show Z4 P w H h a (.tup (ks.map kV))from ok a _ e);exact⟨o,its.toArray,n,h1,h2,h3,by simpa using NF r⟩
theorem Tj{kvs:List (List Key×V)}(ok:HOk P w H h)(e:Rd H a (.dT kvs)):kvs.length<=sizeLine/\(a==sysModules)=false /\∃xs,KT H kvs xs/\h.DictOfH (ck (ZI P w)) a xs:=by
 obtain⟨z,y,xs,r,o,es,ep,h1,h2,h3,h4,h5⟩:=(show Z4 P w H h a (.dT kvs)from Eo ok e);refine⟨z,y,xs,r,o,es,ep,h1,h2,h3,h4,λx hx=>?_,h5⟩;have all:∀{l:List (List Key×V)}{m:List (List Key×Addr×Value)},KT H l m->∀x∈m,(ck (ZI P w)).is h x.1 x.2.1:=by
  intro l m q;induction q with
 |nil=>intro x hx;exact nomatch hx
 |@cons p q ps qs hq t ih=>
   intro x hx;rcases ao.mp hx with e|hx
   ·subst e;exact MQ ok (by rw[<-hq.1];exact hq.2.1)
   ·exact ih x hx
 exact all r x hx
theorem Ez{kvs:List (List Key×V)}(ok:HOk P w H h)(e:H a=some (.dT kvs)):kvs.length<=sizeLine/\(a==sysModules)=false /\∃xs,KT H kvs xs/\h.DictOfH (ck (ZI P w)) a xs:=Tj ok (.inl e)
end
def DGet(H:Hp)(a:Addr)(y:V)(r:Option V):Prop:=(∃kvs k,Rd H a (.dK kvs)/\y=kV k/\r=valV kvs k)\/∃kvs k b,Rd H a (.dT kvs)/\y=.ref b/\H b=some (.tup (k.map kV))/\r=valV kvs k
def DPut(H:Hp)(a:Addr)(y v:V)(H':Hp):Prop:=(∃kvs k,H a=some (.dK kvs)/\y=kV k/\kvs.length<sizeLine/\H'=upd H a (.dK (putK kvs k v))) \/∃kvs k b,H a=some (.dT kvs)/\y=.ref b/\H b=some (.tup (k.map kV))/\kvs.length<sizeLine/\H'=upd H a (.dT (putK kvs k v))
theorem DGet.k{H:Hp}{a:Addr}{kvs:List (Key×V)}{k:Key}(e:H a=some (.dK kvs)):DGet H a (kV k) (valV kvs k):=.inl ⟨kvs,k,.inl e,rfl,rfl⟩
theorem DPut.k{H:Hp}{a:Addr}{kvs:List (Key×V)}{k:Key}{v:V}(e:H a=some (.dK kvs))(hl:kvs.length<sizeLine):DPut H a (kV k) v (upd H a (.dK (putK kvs k v))):=.inl ⟨kvs,k,e,rfl,hl,rfl⟩
theorem DPut.t{H:Hp}{a b:Addr}{kvs:List (List Key×V)}{k:List Key}{v:V}(e:H a=some (.dT kvs))(eb:H b=some (.tup (k.map kV)))(hl:kvs.length<sizeLine):DPut H a (.ref b) v (upd H a (.dT (putK kvs k v))):=.inr ⟨kvs,k,b,e,rfl,eb,hl,rfl⟩
section
variable {X:Cx}{pins:List (Addr×Obj)}{σ:St}{H:Hp}{s:ag}{a:Addr}{y v:V}{u r:Value}{o:Option V}{A:bz}{E:Value->ag->Prop}
theorem Inv.big(I:Inv X pins σ H s):sysModules<s.heap.objs.size:=by have h:bc<s.heap.objs.size:=(I.mod.glob.keeps I.bk).lt;exact Nat.lt_trans (by decide) h
theorem Wk{Q:Value->ag->Prop}(hu:A.units+1<cLine)(I:Inv X pins σ H s)(g:DGet H a y (some v))(ry:RelV y u)(h:∀w' s',Inv X pins σ H s'->RelV v w'->Q w' s'):wpAny (model X.prog X.w) A (getItem (.ref a) u) Q E s:=by
 rcases g with⟨kvs,k,e,ey,l⟩|⟨kvs,k,b,e,ey,eb,l⟩
 ·subst ey;obtain⟨z,hd,vs,rel,dd⟩:=Tn I.hok e;obtain⟨w',hw,rw'⟩:=RelO.some_of (v:=v) (o:=valueAt vs k) (by rw[l];exact rel.val k);exact wpAny_getItem_of (Qu ry) dd.mapOf hw (h w' _ (I.tok _) rw')
 ·subst ey;cases(show u=Value.ref b from ry);obtain⟨z,hd,xs,rel,dd⟩:=Tj I.hok e;obtain⟨w',hw,rw'⟩:=RelO.some_of (v:=v) (o:=(atKey xs k).map (·.2)) (by rw[l];exact rel.val k);obtain⟨p,hp,hp2⟩:=bY.mp hw;refine wpAny_getItem_heap (gN hu) (MQ I.hok eb) dd hp ?_;rw[hp2];exact h w' _ (I.tok _) rw'
theorem d_in{Q:Value->ag->Prop}(hu:A.units+1<cLine)(I:Inv X pins σ H s)(g:DGet H a y o)(ry:RelV y u)(h:∀s',Inv X pins σ H s'->Q (.bool o.isSome) s'):wpAny (model X.prog X.w) A (bp .In u (.ref a)) Q E s:=by
 rcases g with⟨kvs,k,e,ey,l⟩|⟨kvs,k,b,e,ey,eb,l⟩
 ·subst ey;obtain⟨z,hd,vs,rel,dd⟩:=Tn I.hok e;refine wpAny_in_of (Qu ry) hd dd.mapOf ?_;rw[<-(rel.val k).isSome_eq,<-l];exact h _ (I.tok _)
 ·subst ey;cases(show u=Value.ref b from ry);obtain⟨z,hd,xs,rel,dd⟩:=Tj I.hok e;refine wpAny_in_heap (gN hu) (MQ I.hok eb) hd dd ?_;have q:=(rel.val k).isSome_eq;rw[dv]at q;rw[<-q,<-l];exact h _ (I.tok _)
theorem Px{h':Heap}{t':Nat}{ob:HO}(I:Inv X pins σ H s)(mu:Mut (H a))(hs:Heap.SameBut a s.heap h')(he:∃q,h'.get? a=some q)(new:Z4 X.prog X.w (upd H a ob) h' a ob):Inv X pins σ (upd H a ob) {s with heap:=h',toks:=t'}:=I.write (x:=a) (e:=a) mu (.inl rfl) (λb q hb z=>(hs.2 b hb).trans z) he new
theorem F5{P:Program}{w:World}{H':Hp}{h':Heap}{kvs:List (Key×V)}{vs:List (Key×Value)}(z:kvs.length<=sizeLine)(hd:(a==sysModules)=false)(rel:KV kvs vs)(dd:h'.DictOf (ZI P w) a vs):Z4 P w H' h' a (.dK kvs):=⟨z,hd,vs,rel,dd⟩
theorem Wj{H':Hp}{Q:Unit->ag->Prop}(hu:A.units+1<cLine)(I:Inv X pins σ H s)(g:DPut H a y v H')(ry:RelV y u)(rv:RelV v r)(h:∀s',Inv X pins σ H' s'->Q () s'):wpAny (model X.prog X.w) A (setItem (.ref a) u r) Q E s:=by
 rcases g with⟨kvs,k,e,ey,l,eH⟩|⟨kvs,k,b,e,ey,eb,l,eH⟩
 ·subst ey eH;obtain⟨z,hd,vs,rel,dd⟩:=EA I.hok e;have hz:vs.length<=sizeLine:=by rw[<-rel.length];exact z
  have hl:(putK kvs k v).length<=sizeLine:=by have:=Y5 kvs k v;omega
  refine wpAny_setItem_pairs (hsz:=hz) (Qu ry) dd λh' dd' hs=>h _ ?_;have he:∃q,h'.get? a=some q:=let ⟨q,_,_,hq,_⟩:=dd';⟨q,hq⟩
  exact Px I (by rw[e];exact bK) hs he (F5 hl hd (rel.put k rv) dd')
 ·subst ey eH;cases(show u=Value.ref b from ry);obtain⟨z,hd,xs,rel,dd⟩:=Ez I.hok e;have hz:xs.length<=sizeLine:=by rw[<-aL rel];exact z
  have hl:(putK kvs k v).length<=sizeLine:=by have:=Y5 kvs k v;omega
  refine wpAny_setItem_heap (hsz:=hz) (gN hu) (MQ I.hok eb) dd λh' dd' hs=>h _ ?_;obtain⟨q,es,ep,hq,h2,h3,h4,_,h5⟩:=dd';refine Px I (by rw[e];exact bK) hs ⟨q,hq⟩ ⟨hl,hd,_,(rel.put k eb rv).keeps λc ys ec=>?_,q,es,ep,hq,h2,h3,h4,h5⟩;rw[Zj (ne_of ec e (λz=>nomatch z))];exact ec
end
def NoSl(i:Expr):Prop:=∀ov iv,subscripted i false ov iv=operate [ov,iv] (getItem ov iv)
theorem R4{prog:Program}{w:World}{A:bz}{E:Value->ag->Prop}{s:ag}{env:Env}{value slice:Expr}{pos:Pos}{T id:String}{Q:Value->ag->Prop}(hl:typeLookup (.type T) "__getitem__"=pure (some (.builtin id)))(hs:NoSl slice)(h:wpAny (model prog w) A (eval value env) (λo s₁=>wpAny (model prog w) A (eval slice env) (λi s₂=>s₂.TypeIs o T/\wpAny (model prog w) A (getItem o i) Q E s₂) E s₁) E s):wpAny (model prog w) A (eval (.Subscript value slice pos) env) Q E s:=by
 refine Subscript_ (dC h (λo s₁ h₁=>dC h₁ (λi s₂ h₂=>?_) λ_ _ x=>x) λ_ _ x=>x);obtain⟨hT,h₂⟩:=h₂;unfold gF;refine ae ?_;rw[getitemInPython_of_ne hT.not_modules];refine ae (wpAny_specialOf hT hl ?_);have fin:wpAny (model prog w) A (subscripted slice false o i) (λr s₃=>wpAny (model prog w) A (letTemporaryGo value o r >>= λ_=>pure r) Q E s₃) E s₂:=by rw[hs o i];exact wpAny_operating (dC h₂ (λr s₃ h₃=>ae (wpAny_letTemporaryGo (ai h₃))) λ_ _ x=>x)
 first
 |exact ai (ae fin)
 |exact ae (ai (ae fin))
 |exact ae fin
theorem QD{X:Cx}{pins:List (Addr×Obj)}{σ:St}{H:Hp}{s:ag}{a:Addr}{y:V}{o:Option V}(I:Inv X pins σ H s)(g:DGet H a y o):s.TypeIs (.ref a) "dict":=by
 rcases g with⟨kvs,k,e,_,_⟩|⟨kvs,k,b,e,_,_,_⟩
 ·obtain⟨_,_,vs,_,dd⟩:=Tn I.hok e;exact dd.typeIs
 ·obtain⟨_,_,xs,_,dd⟩:=Tj I.hok e;exact dd.typeIs
def Hv(td ty:TE):TE:=λσ H Q=>td σ H λx H1=>ty σ H1 λy H2=>∃a v,x=.ref a/\DGet H2 a y (some v)/\Q v H2
def tDIn(ty td:TE):TE:=λσ H Q=>ty σ H λy H1=>td σ H1 λx H2=>∃a o,x=.ref a/\DGet H2 a y o/\Q (.bl o.isSome) H2
def HC(td ty tv:TE):TS:=λD σ H=>tv σ H λv H1=>td σ H1 λx H2=>ty σ H2 λy H3=>∃a H4,x=.ref a/\DPut H3 a y v H4/\D.nx σ H4
section
variable {X:Cx}{o i e value:Expr}{pos pos' tpos:Pos}{td ty tv:TE}
theorem Pk(hu:X.A.units+1<cLine)(ho:PE X o td)(hi:PE X i ty)(hs:NoSl i):PE X (.Subscript o i pos) (Hv td ty):=by intro pins s σ H Q I h;refine R4 PySem.F.slot_dict_getitem.lookup hs (thn (ho pins s σ H _ I h) λu s1⟨x,H1,I1,rx,q1⟩=>thn (hi pins s1 σ H1 _ I1 q1) λiv s2 hZ=>?_);obtain⟨y,H2,I2,ry,a,v,ex,g,q2⟩:=hZ;subst ex;obtain rfl:u=Value.ref a:=rx;exact⟨QD I2 g,Wk hu I2 g ry λw' s3 I3 rw'=>⟨v,H2,I3,rw',q2⟩⟩
theorem KS(hu:X.A.units+1<cLine)(hi:PE X i ty)(ho:PE X o td):PC X .In i o (tDIn ty td):=by intro pins s σ H Q I h;refine thn (hi pins s σ H _ I h) λiv s1⟨y,H1,I1,ry,q1⟩=>thn (ho pins s1 σ H1 _ I1 q1) λu s2 hZ=>?_;obtain⟨x,H2,I2,rx,a,ov,ex,g,q2⟩:=hZ;subst ex;obtain rfl:u=Value.ref a:=rx;exact d_in hu I2 g ry λs3 I3=>⟨.bl ov.isSome,H2,I3,rfl,q2⟩
theorem XS(hu:X.A.units+1<cLine)(ho:PE X o td)(hi:PE X i ty)(hv:PE X value tv)(hs:fz value (some (.Subscript o i pos')) pos.line X.env=pure false):PS X (.Assign [.Subscript o i pos'] value pos) (HC td ty tv):=by intro pins s σ H D I h;refine wpAny_Assign_Subscript (thn (hv pins s σ H _ I h) λr s1⟨v,H1,I1,rv,q1⟩=>thn (ho pins s1 σ H1 _ I1 q1) λu s2⟨x,H2,I2,rx,q2⟩=>thn (hi pins s2 σ H2 _ I2 q2) λiv s3 hZ=>?_) hs;obtain⟨y,H3,I3,ry,a,H4,ex,g,q3⟩:=hZ;subst ex;obtain rfl:u=Value.ref a:=rx;exact Wj hu I3 g ry rv λs4 I4=>⟨σ,H4,I4,q3⟩
end
theorem Lx{P:Program}{w:World}{H:Hp}(h:Heap)(hb:sysModules<h.objs.size):Z4 P w H (h.push {cls:=.type "dict",data:=.dict #[]}) h.objs.size (.dK []):=⟨Nat.zero_le _,beq_eq_false_iff_ne.mpr (bD (Nat.ne_of_lt hb)),[],.nil,Heap.DictOf.new h⟩
theorem Lw{P:Program}{w:World}{H:Hp}(h:Heap)(hb:sysModules<h.objs.size):Z4 P w H (h.push {cls:=.type "dict",data:=.dict #[]}) h.objs.size (.dT []):=⟨Nat.zero_le _,beq_eq_false_iff_ne.mpr (bD (Nat.ne_of_lt hb)),[],.nil,_,#[],0,Heap.get?_push_size _ rfl,⟨rfl,rfl,rfl⟩,rfl,rfl,cD⟩
def WT:TE:=λ_ H Q=>∀p,H p=none->Q (.ref p) (upd H p (.dK []))
def EI:TE:=λ_ H Q=>∀p,H p=none->Q (.ref p) (upd H p (.dT []))
section
variable {X:Cx}{pos:Pos}
theorem JZ:PE X (.Dict [] [] pos) WT:=λpins s σ H Q I h=>wpAny_Dict_empty ⟨.ref s.heap.objs.size,_,I.laid (a:=s.heap.objs.size) (o:=.dK []) (t':=s.toks) (λ_ _ q=>Heap.get?_push_of_some _ q) (Nat.le_refl _) (Lx s.heap I.big),rfl,h _ (I.hok.fresh (Nat.le_refl _))⟩
theorem KP:PE X (.Dict [] [] pos) EI:=λpins s σ H Q I h=>wpAny_Dict_empty ⟨.ref s.heap.objs.size,_,I.laid (a:=s.heap.objs.size) (o:=.dT []) (t':=s.toks) (λ_ _ q=>Heap.get?_push_of_some _ q) (Nat.le_refl _) (Lw s.heap I.big),rfl,h _ (I.hok.fresh (Nat.le_refl _))⟩
end
structure M1(X:Cx)(o:Expr)(m:Str)(apos:Pos)(e:Expr)(cpos:Pos):Prop where
 base:fo o m X.env (eval o X.env)=eval o X.env
 few:((cf cpos (aN [e] X.env)).all (λx=>!x.1)&&(d8 cpos (cW [] X.env)).all (λx=>x.1.isSome)
 &&decide (([e]:List Expr).length+([]:List Keyword).length+(if([]:List Keyword).isEmpty then 0 else 1)<30))=true
 line:(apos.endLine==cpos.line)=true
 trees:cf cpos (aN [e] X.env)=[(false,eval e X.env)]
structure M2(X:Cx)(o:Expr)(m:Str)(apos:Pos)(e f:Expr)(cpos:Pos):Prop where
 base:fo o m X.env (eval o X.env)=eval o X.env
 few:((cf cpos (aN [e,f] X.env)).all (λx=>!x.1)&&(d8 cpos (cW [] X.env)).all (λx=>x.1.isSome)
 &&decide (([e,f]:List Expr).length+([]:List Keyword).length+(if([]:List Keyword).isEmpty then 0 else 1)<30))=true
 line:(apos.endLine==cpos.line)=true
 trees:cf cpos (aN [e,f] X.env)=[(false,eval e X.env),(false,eval f X.env)]
open PySem PySem.Spec PyProof.Rows
theorem VV(z:Str):gf z="str_ascii_iterator"\/gf z="str_iterator":=by
 unfold gf;split
 ·exact .inl rfl
 ·exact .inr rfl
theorem Ng{P:Program}{w:World}{A:bz}(hh:A.handled=none)(it:Addr)(x:Str)(t:Tok):Walks P w A it [it] [it] x.cps.size (SignAt x) (λi h=>h.IsStrIter it (gf x) x t i):=by
 rcases VV x with e|e
 ·rw[e];exact Walks.strAscii hh it x t
 ·rw[e];exact Walks.strWide hh it x t
noncomputable def Its(z:Str):It:=⟨λi _=>i<z.length,λi H x H'=>H'=H/\∃c,z.cps.toList[i]?=some c/\x=.str ⟨#[c]⟩,λi _=>z.length<=i⟩
theorem WQ{P:Program}{w:World}{K:aa}{tg:Expr}(z:Str)(t:Tok)(it:Addr):
  Turn P w K tg (Its z) [it] it (λi h=>i<=z.length/\h.IsStrIter it (gf z) z t i) where
 mem:=by simp
 obj:=λi h st b hb=>by
  have e:b=it:=by simpa using hb
  subst e
  obtain⟨_,o,e,c,d⟩:=st
  exact⟨o,e,λv z=>by rw[d]at z;cases z⟩
 keep:=λi h h' st k=>by
  obtain⟨l,o,e,r⟩:=st
  exact⟨l,o,k it (by simp) o e,r⟩
 item:=by
  intro X hP hw hK hc i pins s σ H E I hf st hg
  subst hP hw hK
  obtain⟨f0,f1,f2,f3,f4,f5⟩:=hf it (by simp)
  have W:=Ng (P:=X.prog) (w:=X.w) (I.ok.hd hc) it z t
  refine W.item i s _ _ hg st.2 λv h' tk hv st' kk=>?_
  obtain⟨c,u,hcps,rfl⟩:=hv
  have I1:Inv X pins σ H {s with heap:=h',toks:=tk}:=I.turned (λb o hb e=>kk b o (by simpa using hb) e) f0 f1 f3 f4 f5
  obtain⟨o,e,c',d⟩:=id st'
  refine⟨_,rfl,QA (s:={s with heap:=h',toks:=tk}) e c' d ?_ ⟨.str ⟨#[c]⟩,H,I1,⟨u,rfl⟩,⟨rfl,c,by simpa using hcps,rfl⟩,⟨hg,st'⟩,λb hb=>(hf b hb).1⟩⟩
  rcases VV z with e|e<;>rw[e]<;>decide
 done:=by
  intro X hP hw hK hc i pins s σ H E I hf st hg
  subst hP hw hK
  obtain⟨f0,f1,f2,f3,f4,f5⟩:=hf it (by simp)
  have W:=Ng (P:=X.prog) (w:=X.w) (I.ok.hd hc) it z t
  obtain⟨hl,st⟩:=st
  have e:i=z.length:=Nat.le_antisymm hl hg
  subst e
  exact W.done s _ _ st λh' tk kk=>⟨rfl,I.turned (λb o hb e=>kk b o (by simpa using hb) e) f0 f1 f3 f4 f5⟩
 self:=λA i s Q E st h=>by
  obtain⟨_,st⟩:=st
  rcases VV z with e|e
  ·rw[e]at st;exact wpAny_pyIter_striter_ascii st h
  ·rw[e]at st;exact wpAny_pyIter_striter_wide st h
section
variable {X:Cx}{tg:Expr}
noncomputable def iStr(tl:TE):TI:=λσ H R=>tl σ H λx H1=>∃z,x=.str z/\R (Its z) H1
theorem EY{l:Expr}{tl:TE}(hl:PE X l tl):PI X tg l (iStr tl):=by
 intro pins s σ H R I h;refine thn (hl pins s σ H _ I h) λv s1 hZ=>?_;obtain⟨x,H1,I1,r1,q1⟩:=hZ;obtain⟨z,e,q⟩:=q1;subst e;obtain⟨t,rfl⟩:=r1;refine wpAny_pyIter_strU ?_;refine⟨s1.heap.objs.size,[s1.heap.objs.size],_,_,H1,rfl,I1.kept (t':=s1.toks) λb o e=>Heap.get?_push_of_some _ e,WQ z t _,⟨Nat.zero_le _,_,Heap.get?_push_size _ rfl,rfl,rfl⟩,λb hb=>?_,q⟩;have e:b=s1.heap.objs.size:=by simpa using hb
 subst e;exact I1.fpOk (Nat.le_refl _) (I1.hok.fresh (Nat.le_refl _))
end
theorem Ji{α:Type}{n:Nat}{l:List α}(h:l.length=n+1):∃a t,l=a::t/\t.length=n:=by
 cases l with
|nil=>cases h
|cons a t=>exact⟨a,t,rfl,Nat.succ.inj h⟩
theorem len1{α:Type}{l:List α}(h:l.length=1):∃a,l=[a]:=by obtain⟨a,t,rfl,h'⟩:=Ji h;exact⟨a,by rw[gR h']⟩
theorem len2{α:Type}{l:List α}(h:l.length=2):∃a b,l=[a,b]:=by obtain⟨a,t,rfl,h'⟩:=Ji h;obtain⟨b,rfl⟩:=len1 h';exact⟨a,b,rfl⟩
theorem len3{α:Type}{l:List α}(h:l.length=3):∃a b c,l=[a,b,c]:=by obtain⟨a,t,rfl,h'⟩:=Ji h;obtain⟨b,c,rfl⟩:=len2 h';exact⟨a,b,c,rfl⟩
theorem len4{α:Type}{l:List α}(h:l.length=4):∃a b c d,l=[a,b,c,d]:=by obtain⟨a,t,rfl,h'⟩:=Ji h;obtain⟨b,c,d,rfl⟩:=len3 h';exact⟨a,b,c,d,rfl⟩
theorem len5{α:Type}{l:List α}(h:l.length=5):∃a b c d e,l=[a,b,c,d,e]:=by obtain⟨a,t,rfl,h'⟩:=Ji h;obtain⟨b,c,d,e,rfl⟩:=len4 h';exact⟨a,b,c,d,e,rfl⟩
theorem len6{α:Type}{l:List α}(h:l.length=6):∃a b c d e f,l=[a,b,c,d,e,f]:=by obtain⟨a,t,rfl,h'⟩:=Ji h;obtain⟨b,c,d,e,f,rfl⟩:=len5 h';exact⟨a,b,c,d,e,f,rfl⟩
section
variable {prog:Program}{w:World}{A:bz}{R:Result->ag->Prop}{s:ag}
noncomputable abbrev NoX:Value->ag->Prop:=λ_ _=>False
theorem EB{α:Type}{M:Model}{t:Sem α}{Q:α->ag->Prop}{E:Value->ag->Prop}(h:wpAny M A t Q NoX s):wpAny M A t Q E s:=dC h (λ_ _ q=>q) λ_ _ x=>x.elim
theorem QK{elt target iter:Expr}{ifs:List Expr}{scope:Scope}{pos:Pos}{it acc:Value}{env:Env}(I:Nat->ag->Prop)
  (turn:∀n s,I n s->wpAny (model prog w) A (pyNext it) (λr s₁=>match r with
  |none=>R (.ok .next) s₁
  |some v=>wpAny (model prog w) A (fN target it v) (λ_ s₀=>wpAny (model prog w) A (assign target env v) (λ_ s₂=>
     wpAny (model prog w) A (forIn ifs true λc r=>if r=true then do let ok <-isTrue c env (eval c env);pure (c_ ok)else pure (c_ r)) (λok s₃=>
      if ok=true then wpAny (model prog w) A (eval elt env) (λx s₄=>wpAny (model prog w) A (call (.builtin "list.append") [acc,x]) (λ_ s₅=>∃m,m<n/\I m s₅) NoX s₄) NoX s₃
      else ∃m,m<n/\I m s₃) NoX s₂) NoX s₀) NoX s₁) NoX s)
  (n:Nat) (h:I n s):
  fG (model prog w) A (.compLoop (.ListComp elt [⟨target,iter,ifs,0⟩] scope pos) 0 it acc env) R s:=by
 refine codeAny_loop rfl I (λn s hI=>?_) n h
 show wpAny _ A ((compTurn (.ListComp elt [⟨target,iter,ifs,0⟩] scope pos) 0 it acc env).onRaise (λx=>do noteFrame x env;theTreesLotGoes x)) _ _ s
 refine wpAny_noted (EB ?_)
 rw[compTurn_list]
 refine ae (gC (ae (thn (turn n s hI) (λr s₁ h₁=>?_))))
 cases r with
|none=>exact ai h₁
|some v=>
  refine ae (thn h₁ λ_ s₀ h₀=>?_)
  refine ae (thn h₀ λ_ s₂ h₂=>ae (thn h₂ λok s₃ h₃=>?_))
  cases ok with
 |false=>exact ai ⟨rfl,h₃⟩
 |true=>exact ae (ae (thn h₃ λx s₄ h₄=>ae (thn h₄ λ_ s₅ h₅=>ai (ai ⟨rfl,h₅⟩))))
end
noncomputable def clGo(env:Env):List (Str×dh)->List (Str×Addr)->List (Str×Addr)
|[],cs=>cs
|(n,k)::r,cs=>clGo env r (if k==.free then(n,(env.cells.lookup n).getD 0)::cs else cs)
noncomputable def clOf(scope:Scope)(env:Env):List (Str×Addr):=clGo env scope.names []
theorem V5{env:Env}:∀(names:List (Str×dh))(cs:List (Str×Addr)),(∀x∈names,x.2=.free->∃c,env.cells.lookup x.1=some c) ->
  (forIn names cs λ(x:Str×dh)(r:List (Str×Addr))=>(match x with
  |(name,kind)=>if(kind==.free)=true then(do let c <-cellOf env name;pure (c_ ((name,c)::r)))else pure (c_ r):Sem (ForInStep (List (Str×Addr)))))
   = pure (clGo env names cs)
|[],cs,_=>rfl
|(n,k)::r,cs,h=>by
  rw[List.forIn_cons]
  cases hk:k==bO with
 |true=>
   obtain⟨c,hc⟩:=h (n,k) aE (by simpa using hk)
   have e:cellOf env n=pure c:=by unfold cellOf;rw[show env.cells.lookup n=some c from hc]
   simp only[hk,if_true,e,clGo,pure_bind]
   rw[show env.cells.lookup n=some c from hc]
   exact V5 r _ λx hx=>h x (av _ hx)
 |false=>
   simp only[hk,Bool.false_eq_true,if_false,clGo,pure_bind]
   exact V5 r _ λx hx=>h x (av _ hx)
theorem Rz{scope:Scope}{env:Env}(h:∀x∈scope.names,x.2=.free->∃c,env.cells.lookup x.1=some c):closureFor scope env=pure (clOf scope env):=by have e:=V5 (env:=env) scope.names [] h;unfold closureFor clOf;rw[<-e];simp only[bind_pure]
theorem Vy{env:Env}{x:Str}:∀(names:List (Str×dh))(cs:List (Str×Addr)),(∀y∈names,y.2=.free->∃c,env.cells.lookup y.1=some c)->(∀c,cs.lookup x=some c->env.cells.lookup x=some c) ->(∀c,(clGo env names cs).lookup x=some c->env.cells.lookup x=some c)/\(((x,bO)∈names\/(cs.lookup x).isSome=true)->((clGo env names cs).lookup x).isSome=true)
|[],cs,_,h=>⟨h,λz=>z.elim (λz=>absurd z (by simp)) id⟩
|(n,k)::r,cs,hf,h=>by
  have hr:∀y∈r,y.2=bO->∃c,env.cells.lookup y.1=some c:=λy hy=>hf y (av _ hy);show(∀c,(clGo env r (if k==.free then(n,(env.cells.lookup n).getD 0)::cs else cs)).lookup x=some c->_)/\(_->((clGo env r (if k==.free then(n,(env.cells.lookup n).getD 0)::cs else cs)).lookup x).isSome=true);cases hk:k==bO with
 |true=>
   obtain⟨c0,hc0⟩:=hf (n,k) aE (by simpa using hk);have hc0':env.cells.lookup n=some c0:=hc0;simp only[if_true,hc0',Option.getD_some];have h2:∀c,((n,c0)::cs).lookup x=some c->env.cells.lookup x=some c:=λc q=>by
    rw[cF]at q;cases hx:x==n with
   |true=>
     rw[hx]at q;have e:x=n:=by simpa using hx
     subst e;cases q;exact hc0'
   |false=>rw[hx]at q;exact h c q
   obtain⟨a,b⟩:=Vy r ((n,c0)::cs) hr h2;refine⟨a,λz=>b ?_⟩;by_cases hx:x=n
   ·right;subst hx;simp
   ·rcases z with z|z
    ·rcases ao.mp z with e|z
     ·exact absurd (congrArg Prod.fst e) hx
     ·exact .inl z
    ·right;have:(x==n)=false:=by simpa using hx
     rw[cF,this];exact z
 |false=>
   simp only[Bool.false_eq_true,if_false];obtain⟨a,b⟩:=Vy r cs hr h;refine⟨a,λz=>b ?_⟩;rcases z with z|z
   ·rcases ao.mp z with e|z
    ·have:k=.free:=(congrArg Prod.snd e).symm;rw[this]at hk;exact absurd hk (by decide)
    ·exact .inl z
   ·exact .inr z
structure CompScope(scope sc:Scope):Prop where
 kind:scope.kind=.function
 nocell:∀y∈scope.names,y.2≠.cell
 loc:∀y∈scope.names,y.2=.local->scope.names.lookup y.1=some .local
 free:∀y∈scope.names,y.2=.free->sc.names.lookup y.1=some .cell\/sc.names.lookup y.1=some .free
theorem Uc{scope:Scope}{env:Env}{x:Str}(nc:∀y∈scope.names,y.2≠.cell):∀{k:dh},(relabel scope env).names.lookup x=some k->(k=.cell\/k=.free)->(x,bO)∈scope.names:=by
 have go:∀(names:List (Str×dh)),(∀y∈names,y.2≠d9)->∀{k:dh},(names.map λ(n,k)=>if(k==bO&&env.scope.kind==.function&&env.kindOf n==some .cell)then(n,d9)else(n,k)).lookup x=some k->(k=.cell\/k=.free)->(x,bO)∈names:=by
  intro names;induction names with
 |nil=>intro _ k h _;simp at h
 |cons y r ih=>
   intro hn k h hk;obtain⟨n,k'⟩:=y;have hn':∀y∈r,y.2≠d9:=λy hy=>hn y (av _ hy);have hk':k'≠d9:=hn (n,k') aE;rw[ar]at h;by_cases hc:(k'==bO&&env.scope.kind==.function&&env.kindOf n==some .cell)=true
   ·simp only[hc,if_true]at h;rw[cF]at h;cases hx:x==n with
   |true=>
     have e:x=n:=by simpa using hx
     have e2:k'=.free:=by simp only[Bool.and_eq_true]at hc;simpa using hc.1.1
     subst e e2;exact aE
   |false=>rw[hx]at h;exact av _ (ih hn' h hk)
   ·simp only[hc]at h;simp only[if_false,Bool.false_eq_true]at h;rw[cF]at h;cases hx:x==n with
   |true=>
     rw[hx]at h;cases h;have e:x=n:=by simpa using hx
     subst e;rcases hk with e|e
     ·exact absurd e hk'
     ·rw[e];exact aE
   |false=>rw[hx]at h;exact av _ (ih hn' h hk)
 intro k h hk;exact go scope.names nc h hk
theorem Nd{scope:Scope}{env:Env}{x:Str}:(relabel scope env).names.lookup x=some .local->scope.names.lookup x=some .local:=by
 have go:∀(names:List (Str×dh)),(names.map λ(n,k)=>if(k==bO&&env.scope.kind==.function&&env.kindOf n==some .cell)then(n,d9)else(n,k)).lookup x=some .local->names.lookup x=some .local:=by
  intro names;induction names with
 |nil=>intro h;simp at h
 |cons y r ih=>
   intro h;obtain⟨n,k'⟩:=y;rw[ar]at h;rw[cF];by_cases hc:(k'==bO&&env.scope.kind==.function&&env.kindOf n==some .cell)=true
   ·simp only[hc,if_true]at h;rw[cF]at h;cases hx:x==n with
   |true=>rw[hx]at h;cases h
   |false=>rw[hx]at h;exact ih h
   ·simp only[hc]at h;simp only[if_false,Bool.false_eq_true]at h;rw[cF]at h;cases hx:x==n with
   |true=>rw[hx]at h;exact h
   |false=>rw[hx]at h;exact ih h
 exact go scope.names
noncomputable def XI(X:Cx)(scope:Scope)(N:List Str)(C:Addr)(s:ag)(H:Hp)(ex:List Addr)(pn:List (Addr×Obj)):Cx where
 prog:=X.prog
 w:=X.w
 K:=X.K
 mg:=X.mg
 base:=X.base
 A:=X.A
 N:=N
 s₀:=s
 H₀:=H
 env:=compEnvC scope (clOf scope X.env) C X.env
 outer:=X.stack
 stack:=X.stack
 ex:=ex
 calm:=X.calm
 fn:=λ_=>false
 pn:=pn
 xe:=NoX
noncomputable def inner(cp:List (Option Nat))(σ:St):St:=cp.map λo=>o.bind λj=>(σ[j]?).join
structure CompNames(N0:List Str)(scope:Scope)(N:List Str)(cp:List (Option Nat)):Prop where
 len:cp.length=N.length
 at_:∀(i j:Nat)(x:Str),cp[i]?=some (some j)->N[i]?=some x->N0[j]?=some x/\scope.names.lookup x=some .free
noncomputable def namesOk(N0:List Str)(scope:Scope)(N:List Str)(cp:List (Option Nat)):Bool:=(cp.length==N.length)&&(aT cp.length).all λi=>match cp[i]?,N[i]? with
 |some (some j),some x=>N0[j]?==some x&&scope.names.lookup x==some .free
 |_,_=>true
theorem CompNames.mk'{N0:List Str}{scope:Scope}{N:List Str}{cp:List (Option Nat)}(h:namesOk N0 scope N cp=true):CompNames N0 scope N cp:=by unfold namesOk at h;rw[Bool.and_eq_true,ba]at h;refine⟨by simpa using h.1,λi j x h1 h2=>?_⟩;have hi:i<cp.length:=(aj.mp h1).1;have q:=h.2 i (bj.mpr hi);rw[h1,h2]at q;simpa using q
section
variable {X:Cx}{pins:List (Addr×Obj)}{σ:St}{H:Hp}{s:ag}
theorem QL{scope:Scope}(I:Inv X pins σ H s)(S:CompScope scope X.env.scope):∀y∈scope.names,y.2=.free->∃c,X.env.cells.lookup y.1=some c:=λy hy e=>I.ok.has y.1 (S.free y hy e)
theorem Ll{scope:Scope}{N:List Str}{cp:List (Option Nat)}{fp:List Addr}{od:Obj}{h4:Heap}{tk:Nat}(S:CompScope scope X.env.scope)(CN:CompNames X.N scope N cp)(I:Inv X pins σ H s)(hfp:∀b∈fp,FpOk X pins H b)(hfo:∀b∈fp,∃o,s.heap.get? b=some o)(hod:∀v,od.data≠.cell v)(hns:h4.Ns (s.heap.push od).objs.size (λx=>([]:List (Str×Value)).reverse.lookup x))(hk:∀b o,(s.heap.push od).get? b=some o->h4.get? b=some o)(hfr:od.isFreed=false):Inv (XI X scope N (s.heap.push od).objs.size {s with heap:=s.heap.push od} H (s.heap.objs.size::fp) (X.pn++pins)) [(s.heap.objs.size,od)] (inner cp σ) H {s with heap:=h4,toks:=tk}:=by
 have cl:=QL I S;have look:∀x c,(clOf scope X.env).lookup x=some c->X.env.cells.lookup x=some c:=λx=>(Vy scope.names [] cl (λc q=>by simp at q)).1;have hasc:∀x,(x,bO)∈scope.names->∃c,(clOf scope X.env).lookup x=some c:=λx hx=>
  cy.mp ((Vy scope.names [] cl (λc q=>by simp at q)).2 (.inl hx));have kp:∀b o,s.heap.get? b=some o->(s.heap.push od).get? b=some o:=λb o e=>Heap.get?_push_of_some _ e;have kp4:∀b o,s.heap.get? b=some o->h4.get? b=some o:=λb o e=>hk b o (kp b o e);have hz:(s.heap.push od).objs.size=s.heap.objs.size+1:=Heap.size_push ..;have I3:Inv X pins σ H {s with heap:=s.heap.push od}:=I.kept (t':=s.toks) kp;have hD:H s.heap.objs.size=none:=I.hok.fresh (Nat.le_refl _);have hC:H (s.heap.push od).objs.size=none:=I3.hok.fresh (Nat.le_refl _);have hDo:h4.get? s.heap.objs.size=some od:=hk _ _ (Heap.get?_push_size _ hfr);have stk:∀b∈frs X.stack,b<s.heap.objs.size:=λb hb=>by
  rcases ao.mp (I.stkSub b hb)with e|e
  ·rw[e];exact I.lt
  ·exact Nat.lt_of_not_le λz=>I.nofs z e
 have fpn:∀b∈fp,b∉frs X.stack:=λb hb hs=>by
  obtain⟨_,g1,g2,_⟩:=hfp b hb;rcases ao.mp (I.stkSub b hs)with e|e
  ·exact g1 e
  ·exact g2 e
 have fplt:∀b∈fp,b<s.heap.objs.size:=λb hb=>let ⟨o,e⟩:=hfo b hb;Heap.lt_size e
 refine⟨⟨I.ok.mod,S.kind,I.ok.glob,I.ok.blt,Nat.le_refl _,λx y c h1 h2=>I.ok.inj x y c (look x c h1) (look y c h2),λx hx=>?_,λx c hf _=>(by cases hf),I.ok.hd,I.ok.frames,.inl rfl,λb hb=>?_,I3.bs,Nat.le_trans I.ok.bsz I3.sz,λb o e hb=>?_,λb hb=>?_,I3.stack,I3.stkFree⟩,rfl,I.bare,Un.kept hk,⟨_,hns,λi x v h1 h2 h3=>?_⟩,λx c hx=>?_,hC,λx c hx=>I.freeC x c (look x c hx),λp hp=>?_,I.hok.kept kp4,?_⟩
 ·have hx':(relabel scope X.env).names.lookup x=some .cell\/(relabel scope X.env).names.lookup x=some .free:=hx;rcases hx' with e|e
  ·exact hasc x (Uc S.nocell e (.inl rfl))
  ·exact hasc x (Uc S.nocell e (.inr rfl))
 ·show b≠(s.heap.push od).objs.size/\∀x c,(clOf scope X.env).lookup x=some c->c≠b;rcases ao.mp hb with e|hb
  ·subst e;refine⟨by rw[hz];exact Nat.ne_of_lt (Nat.lt_succ_self _),λx c hx z=>?_⟩;obtain⟨v,q⟩:=I.cell x c (look x c hx);exact absurd q.lt (by rw[z];exact Nat.lt_irrefl _)
  ·exact⟨by rw[hz];exact Nat.ne_of_lt (Nat.lt_succ_of_lt (fplt b hb)),λx c hx=>(hfp b hb).2.2.2.2.1 x c (look x c hx)⟩
 ·rcases ao.mp hb with z|hb
  ·subst z;have h1:=Heap.lt_size (I.bk _ _ e);exact Nat.lt_irrefl _ h1
  ·obtain⟨_,_,_,g3,_⟩:=hfp b hb;rcases g3 with g3|g3
   ·exact I.ok.noex b o e g3
   ·have h1:=Heap.lt_size e;have h2:=I.ok.bsz;exact absurd (Nat.lt_of_lt_of_le h1 (Nat.le_trans h2 g3)) (Nat.lt_irrefl _)
 ·show b∉frs X.stack;rcases ao.mp hb with z|hb
  ·subst z;exact λz=>Nat.lt_irrefl _ (stk _ z)
  ·exact fpn b hb
 ·have h2':(inner cp σ)[i]?=some (some v):=h2;unfold inner at h2';rw[aJ]at h2';cases hc:cp[i]? with
 |none=>rw[hc]at h2';cases h2'
 |some oj=>
   rw[hc]at h2';cases oj with
  |none=>have:(none:Option V)=some v:=aB h2';cases this
  |some j=>
    have h2'':(σ[j]?).join=some v:=aB h2';have hσ:σ[j]?=some (some v):=by
     cases q:σ[j]? with
    |none=>rw[q]at h2'';cases h2''
    |some o=>rw[q]at h2'';exact congrArg some h2''
    obtain⟨hN,hlook⟩:=CN.at_ i j x hc h1;have hfree:(x,bO)∈scope.names:=cz hlook;have hk2:=S.free _ hfree rfl;obtain⟨m,hn,hl⟩:=I.loc;have hvis:Vis X.env.scope x:=hk2.elim (λz=>.inr (.inl z)) λz=>.inr (.inr z);obtain⟨u,ru,lk⟩:=hl j x v hN hσ hvis;refine⟨u,ru,?_⟩;rcases lk with⟨z,_⟩|⟨_,c,hcl,cc⟩
    ·rcases hk2 with q|q<;>(have z':=z.symm.trans q;cases z')
    ·obtain⟨c2,hc2⟩:=hasc x hfree;have hcc:c2=c:=by have:=(look x c2 hc2).symm.trans hcl;exact aB this
     subst hcc;obtain⟨o,ho,hd⟩:=cc;refine .inr ⟨?_,c2,hc2,⟨o,kp4 _ _ ho,hd⟩⟩;rcases h3 with q|q|q
     ·have q':=(Nd q).symm.trans hlook;cases q'
     ·exact .inl q
     ·exact .inr q
 ·obtain⟨v,o,ho,hd⟩:=I.cell x c (look x c hx);exact⟨v,o,kp4 _ _ ho,hd⟩
 ·have hp':p∈(X.pn++pins)++[(s.heap.objs.size,od)]:=hp;rcases aw.mp hp' with hp1|hp1
  ·obtain⟨e,n,ne,nf,d⟩:=I.pin p hp1;have hlt:=Heap.lt_size e;refine⟨kp4 _ _ e,n,by show p.1≠(s.heap.push od).objs.size;rw[hz];exact Nat.ne_of_lt (Nat.lt_succ_of_lt hlt),λhb=>?_,d⟩;rcases ao.mp (I.stkSub _ hb)with z|z
   ·exact ne z
   ·exact nf z
  ·have e:p=(s.heap.objs.size,od):=by simpa using hp1
   subst e;exact⟨hDo,hD,by show s.heap.objs.size≠(s.heap.push od).objs.size;rw[hz];exact Nat.ne_of_lt (Nat.lt_succ_self _),λz=>Nat.lt_irrefl _ (stk _ z),hod⟩
 ·show(inner cp σ).length=N.length;unfold inner;rw[bw];exact CN.len
end
noncomputable def ZX(its:List Value)(k:Nat):Obj:={cls:=.type "list",data:=.seq its.toArray k}
theorem G0{its:List Value}{k:Nat}:∀v,(ZX its k).data≠.cell v:=λv z=>by have z':Data.seq its.toArray k=Data.cell v:=z;cases z'
section
variable {X:Cx}
def PTs(X:Cx)(ifs:List Expr)(t:TT):Prop:=
 ∀(pins:List (Addr×Obj))(s:ag)(σ:St)(H:Hp)(Q:Bool->Hp->Prop),Inv X pins σ H s->t σ H Q ->
  wpAny (model X.prog X.w) X.A (forIn ifs true λc r=>if r=true then do let ok <-isTrue c X.env (eval c X.env);pure (c_ ok)else pure (c_ r)) (TP X pins σ Q) X.xe s
def tYes:TT:=λ_ H Q=>Q true H
theorem Yt:PTs X [] tYes:=λ_ _ _ H _ I h=>wpAny_tests_nil ⟨H,I,h⟩
theorem YN{c:Expr}{t:TT}(h:PT X c t):PTs X [c] t:=λpins s σ H Q I hw=>wpAny_tests_one (h pins s σ H Q I hw)
def R1(cp:List (Option Nat))(wi:TI)(g:TG)(tc:TT)(te:TE):TE:=λσ H Q=>wi σ H λJ H1=>∃W:Nat->Nat->List V->St->Hp->Prop,(∃m,W 0 m [] (inner cp σ) H1)/\∀i m ys τ H,W i m ys τ H ->(J.stop i H/\∀l,H l=none->Q (.ref l) (upd H l (.lst ys))) \/(J.go i H/\ys.length<sizeLine/\∃N:List V->St->Hp->Prop,(∀ys' τ' H',N ys' τ' H'->∃m',m'<m/\W (i+1) m' ys' τ' H') /\∀x H',J.yld i H x H'->g x τ H' λτ2 H2=>tc τ2 H2 λb H3=>if b=true then te τ2 H3 λy H4=>N (ys++[y]) τ2 H4 else N ys τ2 H3)
theorem JG{J:It}{g:TG}{tc:TT}{te:TE}{τ0:St}{H0:Hp}{R:List V->Hp->Prop}(n:Nat)(hn:n<=sizeLine)(Pv:Nat->List V->St->Hp->Prop)(h0:Pv 0 [] τ0 H0)(hl:∀i ys τ H,Pv i ys τ H->ys.length<=i)(hgo:∀i ys τ H,i<n->Pv i ys τ H->J.go i H)(hstop:∀ys τ H,Pv n ys τ H->J.stop n H)(hs:∀i ys τ H x H',i<n->Pv i ys τ H->J.yld i H x H'->g x τ H' λτ2 H2=>tc τ2 H2 λb H3=>if b=true then te τ2 H3 λy H4=>Pv (i+1) (ys++[y]) τ2 H4 else Pv (i+1) ys τ2 H3)(hd:∀ys τ H,Pv n ys τ H->R ys H):∃W:Nat->Nat->List V->St->Hp->Prop,(∃m,W 0 m [] τ0 H0)/\∀i m ys τ H,W i m ys τ H ->(J.stop i H/\R ys H) \/(J.go i H/\ys.length<sizeLine/\∃N:List V->St->Hp->Prop,(∀ys' τ' H',N ys' τ' H'->∃m',m'<m/\W (i+1) m' ys' τ' H') /\∀x H',J.yld i H x H'->g x τ H' λτ2 H2=>tc τ2 H2 λb H3=>if b=true then te τ2 H3 λy H4=>N (ys++[y]) τ2 H4 else N ys τ2 H3):=by
 refine⟨λi m ys τ H=>m=n-i/\i<=n/\Pv i ys τ H,⟨n,rfl,Nat.zero_le _,h0⟩,?_⟩;rintro i m ys τ H ⟨rfl,hi,p⟩;by_cases hlt:i<n
 ·refine .inr ⟨hgo i ys τ H hlt p,?_,Pv (i+1),λys' τ' H' p'=>⟨n-(i+1),by omega,rfl,hlt,p'⟩,λx H' y=>hs i ys τ H x H' hlt p y⟩;have:=hl i ys τ H p;omega
 ·have e:i=n:=by omega
  subst e;exact .inl ⟨hstop ys τ H p,hd ys τ H p⟩
theorem Xg{J:It}{g:TG}{te:TE}{τ0:St}{H0:Hp}{R:List V->Hp->Prop}(n:Nat)(hn:n<=sizeLine)(Pv:Nat->List V->St->Hp->Prop)(h0:Pv 0 [] τ0 H0)(hl:∀i ys τ H,Pv i ys τ H->ys.length<=i)(hgo:∀i ys τ H,i<n->Pv i ys τ H->J.go i H)(hstop:∀ys τ H,Pv n ys τ H->J.stop n H)(hs:∀i ys τ H x H',i<n->Pv i ys τ H->J.yld i H x H'->g x τ H' λτ2 H2=>te τ2 H2 λy H4=>Pv (i+1) (ys++[y]) τ2 H4)(hd:∀ys τ H,Pv n ys τ H->R ys H):∃W:Nat->Nat->List V->St->Hp->Prop,(∃m,W 0 m [] τ0 H0)/\∀i m ys τ H,W i m ys τ H ->(J.stop i H/\R ys H) \/(J.go i H/\ys.length<sizeLine/\∃N:List V->St->Hp->Prop,(∀ys' τ' H',N ys' τ' H'->∃m',m'<m/\W (i+1) m' ys' τ' H') /\∀x H',J.yld i H x H'->g x τ H' λτ2 H2=>tYes τ2 H2 λb H3=>if b=true then te τ2 H3 λy H4=>N (ys++[y]) τ2 H4 else N ys τ2 H3):=JG (J:=J) (g:=g) (tc:=tYes) (te:=te) n hn Pv h0 hl hgo hstop hs hd
theorem NM{use:Option (Value->Sem Unit)}{R:Value->ag->Prop}{elt iter tg:Expr}{ifs:List Expr}{scope:Scope}{pos pos2:Pos}{N:List Str}{cp:List (Option Nat)}{wi:TI}{g:TG}{tc:TT}{te:TE}{Q:VK}{pins:List (Addr×Obj)}{s:ag}{σ:St}{H:Hp}(hc:X.calm=true)(hS:CompScope scope X.env.scope)(hN:CompNames X.N scope N cp)(hi:PI X tg iter wi)(hg:∀C s H ex pn,PG (XI X scope N C s H ex pn) tg g)(ht:∀C s H ex pn,PTs (XI X scope N C s H ex pn) ifs tc)(he:∀C s H ex pn,PE (XI X scope N C s H ex pn) elt te)(hs:∀x,fj iter X.env x=pure x)(I:Inv X pins σ H s)(h:R1 cp wi g tc te σ H Q)(out:∀(D C:Addr)(H5:Hp)(s4:ag)(m:Str->Option Value),Inv X pins σ H5 s4->s4.heap.Ns C m->C≠X.env.locals->(∀y c,X.env.cells.lookup y=some c->c≠C)->H5 C=none->X.s₀.heap.objs.size<=C->(∀p∈X.pn++pins,p.1≠C)->Q (.ref D) H5->compPost (model X.prog X.w) X.A X.xe use R (.ref D) C (.ok .next) s4):wpAny (model X.prog X.w) X.A (comprehension (.ListComp elt [⟨tg,iter,ifs,0⟩] scope pos) scope X.env pos2 (newList []) false (eval iter X.env) use) R X.xe s:=by
 refine wpAny_comprehension_free (use:=use) (cl:=clOf scope X.env) rfl hs (Rz (QL I hS)) hS.kind hS.loc (thn (hi pins s σ H _ I h) λv s1 h1=>thn h1 λitv s2 h2=>?_);obtain⟨it,fp,tn,J,H2,rfl,I2,T,st2,f2,W,⟨m0,w0⟩,turn⟩:=h2;refine c8 (wpAny_newFunctionEnv hS.nocell (by intro y hy;simp at hy) (λh4 hns hsb=>?_) hS.kind);dsimp only at hns hsb ⊢;have hz:(s2.heap.push (ZX [] 0)).objs.size=s2.heap.objs.size+1:=Heap.size_push ..;have hk4:∀b o,(s2.heap.push (ZX [] 0)).get? b=some o->h4.get? b=some o:=λb o e=>hsb.extBut b o (Nat.ne_of_lt (Heap.lt_size e)) (Heap.get?_push_of_some _ e);have hfo:∀b∈fp,∃o,s2.heap.get? b=some o:=λb hb=>let ⟨o,e,_⟩:=T.obj _ _ st2 b hb;⟨o,e⟩
 have fplt:∀b∈fp,b<s2.heap.objs.size:=λb hb=>let ⟨o,e⟩:=hfo b hb;Heap.lt_size e
 generalize hXc:XI X scope N (s2.heap.push (ZX [] 0)).objs.size {s2 with heap:=s2.heap.push (ZX [] 0)} H2 (s2.heap.objs.size::fp) (X.pn++pins)=Xc;have J0:∀tk,Inv Xc [(s2.heap.objs.size,ZX [] 0)] (inner cp σ) H2 {s2 with heap:=h4,toks:=tk}:=λtk=>by rw[<-hXc];exact Ll hS hN I2 f2 hfo G0 hns hk4 rfl
 have hg':PG Xc tg g:=hXc▸hg _ _ _ _ _;have ht':PTs Xc ifs tc:=hXc▸ht _ _ _ _ _;have he':PE Xc elt te:=hXc▸he _ _ _ _ _;have eP:Xc.prog=X.prog:=by rw[<-hXc];rfl
 have eW:Xc.w=X.w:=by rw[<-hXc];rfl
 have eK:Xc.K=X.K:=by rw[<-hXc];rfl
 have eA:Xc.A=X.A:=by rw[<-hXc];rfl
 have eC:Xc.calm=true:=by rw[<-hXc];exact hc
 have eX:Xc.xe=NoX:=by rw[<-hXc];rfl
 have eE:Xc.env=compEnvC scope (clOf scope X.env) (s2.heap.push (ZX [] 0)).objs.size X.env:=by rw[<-hXc];rfl
 have eL:Xc.env.locals=(s2.heap.push (ZX [] 0)).objs.size:=by rw[eE];rfl
 have eFs:Xc.fs=frs X.stack:=by rw[<-hXc];rfl
 have eEx:Xc.ex=s2.heap.objs.size::fp:=by rw[<-hXc];rfl
 have eH0:Xc.H₀=H2:=by rw[<-hXc];rfl
 have eS0:Xc.s₀={s2 with heap:=s2.heap.push (ZX [] 0)}:=by rw[<-hXc];rfl
 have ePn:Xc.pn=X.pn++pins:=by rw[<-hXc];rfl
 have stk:∀b∈frs X.stack,b<s2.heap.objs.size:=λb hb=>by
  rcases ao.mp (I2.stkSub b hb)with e|e
  ·rw[e];exact I2.lt
  ·exact Nat.lt_of_not_le λz=>I2.nofs z e
 have hDne:s2.heap.objs.size≠Xc.env.locals:=by rw[eL,hz];exact Nat.ne_of_lt (Nat.lt_succ_self _)
 have hDfs:s2.heap.objs.size∉Xc.fs:=by rw[eFs];exact λz=>Nat.lt_irrefl _ (stk _ z)
 have hDp:∀p∈Xc.pn,p.1≠s2.heap.objs.size:=λp hp=>by rw[ePn]at hp;exact Nat.ne_of_lt (Heap.lt_size (I2.pin p hp).1)
 have hDc:∀{τ:St}{H':Hp}{s':ag}{ps:List (Addr×Obj)},Inv Xc ps τ H' s'->∀x c,Xc.env.cells.lookup x=some c->c≠s2.heap.objs.size:=λI' x c e=>(I'.ok.exf _ (by rw[eEx];exact aE)).2 x c e;have stat:∀{τ:St}{H':Hp}{s':ag}{ps:List (Addr×Obj)}{o:Obj},Inv Xc ps τ H' s'->(∀b∈fp,H' b=none)->∀b∈fp,FpOk Xc [(s2.heap.objs.size,o)] H' b:=λI' hn b hb=>by
  have q:=I'.ok.exf b (by rw[eEx];exact av _ hb);refine⟨hn b hb,q.1,I'.ok.exfs b (by rw[eEx];exact av _ hb),.inl (by rw[eEx];exact av _ hb),q.2,λp hp=>?_⟩;rcases aw.mp hp with hp|hp
  ·rw[ePn]at hp;exact(f2 b hb).2.2.2.2.2 p hp
  ·have e:p.1=s2.heap.objs.size:=by rw[ay]at hp;rw[hp]
   rw[e];exact Nat.ne_of_gt (fplt b hb)
 have run:∀s5:ag,(∃tk,s5={s2 with heap:=h4,toks:=tk})->fG (model X.prog X.w) X.A (.compLoop (.ListComp elt [⟨tg,iter,ifs,0⟩] scope pos) 0 (.ref it) (.ref s2.heap.objs.size) Xc.env) (compPost (model X.prog X.w) X.A X.xe use R (.ref s2.heap.objs.size) (s2.heap.push (ZX [] 0)).objs.size) s5:=by
  rintro s5 ⟨tk,rfl⟩;refine QK (λn s'=>∃i ys τ H' its k,Inv Xc [(s2.heap.objs.size,ZX its k)] τ H' s'/\Vals ys its/\tn i s'.heap/\(∀b∈fp,H' b=none)/\W i n ys τ H'/\ys.length<=sizeLine) ?_ m0 ⟨0,[],inner cp σ,H2,[],0,J0 tk,.nil,T.keep _ _ _ st2 λb hb o e=>hk4 b o (Heap.get?_push_of_some _ e),λb hb=>(f2 b hb).1,w0,Nat.zero_le _⟩;rintro n s3 ⟨i,ys,τ,H3,its,k,I3,rv,st3,fr3,w3,hl3⟩;rcases turn i n ys τ H3 w3 with⟨stop,qn⟩|⟨go,hl,Nw,hNw,step⟩
  ·have dn:=T.done Xc eP eW eK eC i _ s3 τ H3 NoX I3 (stat I3 fr3) st3 stop;rw[eA]at dn;refine thn dn λr s4⟨hr,I4⟩=>?_;subst hr;obtain⟨m,hn,_⟩:=id I4.loc;rw[eL]at hn;have hs':Heap.SameBut (s2.heap.push (ZX [] 0)).objs.size s4.heap s4.heap:=Heap.SameBut.refl ..;obtain⟨eD,nD,_⟩:=I4.pin (s2.heap.objs.size,ZX its k) (aR _ aE);have u4:=I4.base;rw[eFs,eEx,eH0,eS0]at u4;have hD2:H2 s2.heap.objs.size=none:=I2.hok.fresh (Nat.le_refl _);have hfree:=I4.free;rw[eL]at hfree;have kp:∀b o,s2.heap.get? b=some o->(s2.heap.push (ZX [] 0)).get? b=some o:=λb o e=>Heap.get?_push_of_some _ e;have nD':∀b o,s2.heap.get? b=some o->b≠s2.heap.objs.size:=λb o e=>Nat.ne_of_lt (Heap.lt_size e);have nC':∀b o,s2.heap.get? b=some o->b≠(s2.heap.push (ZX [] 0)).objs.size:=λb o e=>by rw[hz];exact Nat.ne_of_lt (Nat.lt_succ_of_lt (Heap.lt_size e))
   have nex:∀b o,s2.heap.get? b=some o->b∉fp->b∉s2.heap.objs.size::fp:=λb o e hb z=>(ao.mp z).elim (nD' b o e) hb;have I5:Inv X pins σ (upd H3 s2.heap.objs.size (.lst ys)) s4:=by
    refine I2.call' (s':=s4) (ch:=fp) ?_ ⟨λb o e n hb hx=>?_,λb o e n hb hx=>?_,λb o e n hx=>?_,λb o e hx=>?_,λb xs q=>?_,λb o u q=>?_,λb ps q=>?_⟩ ?_ I4.bare λb hb=>?_
    ·have:=I4.os;rw[eS0]at this;exact this
    ·exact(hs'.2 b (nC' b o e)).trans (u4.keep b o (kp b o e) n hb (nex b o e hx))
    ·obtain⟨sl,q⟩:=u4.slot b o (kp b o e) n hb (nex b o e hx);exact⟨sl,(hs'.2 b (nC' b o e)).trans q⟩
    ·rw[Zj (nD' b o e)];exact u4.free b o (kp b o e) n (nex b o e hx)
    ·obtain⟨o',q⟩:=u4.there b o (kp b o e) (nex b o e hx);exact⟨o',(hs'.2 b (nC' b o e)).trans q⟩
    ·rw[Zj (Zi q hD2)];exact u4.tups b xs q
    ·rw[Zj (Zi q hD2)];exact u4.frzs b o u q
    ·rw[Zj (Zi q hD2)];exact u4.tbls b ps q
    ·intro b ob q;have keepC:∀c v,H3 c≠none->s4.heap.get? c=some v->s4.heap.get? c=some v:=λc v hc q=>(hs'.2 c (λz=>hc (by rw[z];exact hfree))).trans q;by_cases hb:b=s2.heap.objs.size
     ·subst hb;rw[Zf]at q;cases q;exact⟨hl3,its,k,rv,(hs'.2 _ (by rw[hz];exact Nat.ne_of_lt (Nat.lt_succ_self _))).trans eD⟩
     ·rw[Zj hb]at q;have ok4:Z4 X.prog X.w H3 s4.heap b ob:=by have:=I4.hok b ob q;rw[eP,eW]at this;exact this
      refine ok4.stay (λc v hc' q'=>keepC c v ?_ q') (λc q'=>by rw[Zj (Zi q' nD)];exact q') λc xs q'=>by rw[Zj (Zi q' nD)];exact q'
      rcases hc' with rfl|hc'
      ·rw[q];simp
      ·rw[hc'];simp
    ·obtain⟨g0,g1,g2,g3,g4,g5⟩:=f2 b hb;exact⟨g3,g1,g4,g5⟩
   have hCn:(s2.heap.push (ZX [] 0)).objs.size≠X.env.locals:=by rw[hz];exact Nat.ne_of_gt (Nat.lt_succ_of_lt I2.lt)
   have hCc:∀y c,X.env.cells.lookup y=some c->c≠(s2.heap.push (ZX [] 0)).objs.size:=λy c e=>by obtain⟨v,o,ho,_⟩:=I2.cell y c e;exact nC' c o ho
   have hCH:upd H3 s2.heap.objs.size (.lst ys) (s2.heap.push (ZX [] 0)).objs.size=none:=by rw[Zj (by rw[hz];exact Nat.succ_ne_self _)];exact hfree
   exact out _ _ _ _ m I5 hn hCn hCc hCH (by rw[hz];exact Nat.le_succ_of_le I2.sz) (λp hp=>nC' p.1 p.2 (I2.pin p hp).1) (qn _ nD)
  ·have itm:=T.item Xc eP eW eK eC i _ s3 τ H3 NoX I3 (stat I3 fr3) st3 go;rw[eA]at itm;refine thn itm λr s4⟨u,hr,h4'⟩=>?_;subst hr;refine thn h4' λ_ s5 hZ=>?_;obtain⟨x,H5,I5,r5,y5,st5,fr5⟩:=hZ;have I5':=I5.pinned (stat I5 fr5) (T.obj _ _ st5);have a1:=hg' _ s5 τ H5 x u _ I5' r5 (step x H5 y5);rw[eP,eW,eA,eX]at a1;refine thn a1 λ_ s6 hZ=>?_;obtain⟨τ6,H6,I6,q6⟩:=hZ;have a2:=ht' _ s6 τ6 H6 _ I6 q6;rw[eP,eW,eA,eX]at a2;refine thn a2 λok s7⟨H7,I7,q7⟩=>?_;have tnAt:∀{τ':St}{H':Hp}{s':ag},Inv Xc ([(s2.heap.objs.size,ZX its k)]++MG fp s5.heap) τ' H' s'->tn (i+1) s'.heap/\∀b∈fp,H' b=none:=λI'=>
    ⟨T.keep _ _ _ st5 λb hb o e=>(I'.pin (b,o) (aR _ (aR _ (mem_pinsAt hb e)))).1,λb hb=>by
     obtain⟨o,e,d⟩:=T.obj _ _ st5 b hb;exact(I'.pin (b,o) (aR _ (aR _ (mem_pinsAt hb e)))).2.1⟩;cases ok with
  |false=>rw[if_neg Bool.false_ne_true]at q7;rw[if_neg Bool.false_ne_true];obtain⟨m',hm,w7⟩:=hNw _ _ _ q7;exact⟨m',hm,i+1,ys,τ6,H7,its,k,I7.unpinned,rv,(tnAt I7).1,(tnAt I7).2,w7,hl3⟩
  |true=>
    rw[if_pos rfl]at q7;rw[if_pos rfl];have a3:=he' _ s7 τ6 H7 _ I7 q7;rw[eP,eW,eA,eX]at a3;refine thn a3 λv s8 hZ=>?_;obtain⟨y,H8,I8,r8,q8⟩:=hZ;obtain⟨m',hm,w8⟩:=hNw _ _ _ q8;obtain⟨eD,nD,_⟩:=I8.pin (s2.heap.objs.size,ZX its k) (aR _ (bq _ aE));have hlen:=rv.length;refine call_meets F.slot_list_append ⟨_,eD,rfl⟩ F.entry_list_append (F.args_list_append_2 _ _) (PySem.list_append s2.heap.objs.size its.toArray k v (by rw[aq];omega)) ⟨eD,?_⟩;have q0:=PySem.IsL.update eD (·.push v);obtain⟨k',q⟩:∃k',(s8.heap.update s2.heap.objs.size (Obj.mapSeq (·.push v))).get? s2.heap.objs.size=some (ZX (its++[v]) k'):=⟨_,by
     have e:(its++[v]).toArray=its.toArray.push v:=by simp
     unfold ZX;rw[e];exact q0⟩;have I9:Inv Xc [] τ6 H8 s8:=I8.pins_of λp hp=>absurd (show p∈([]:List (Addr×Obj))from hp) (by simp);refine⟨m',hm,i+1,ys++[y],τ6,H8,its++[v],k',?_,rv.append (.cons r8 .nil),T.keep _ _ _ (tnAt I8).1 λb hb o e=>?_,(tnAt I8).2,w8,?_⟩
    ·refine Inv.pins_of (pins:=[]) (I9.turned (t':=s8.toks) (it:=s2.heap.objs.size) (λb o hb e=>(Heap.get?_update_other _ _ (bD hb)).trans e) nD hDne (.inl (by rw[eEx];exact aE)) (hDc I9) (λp hp=>hDp p (by simpa using hp))) λp hp=>?_;have e:p=(s2.heap.objs.size,ZX (its++[v]) k'):=by simpa using hp
     subst e;exact⟨q,nD,hDne,hDfs,G0⟩
    ·exact(Heap.get?_update_other _ _ (Nat.ne_of_gt (fplt b hb))).trans e
    ·rw[ah,List.length_singleton];omega
 have st4:tn 0 h4:=T.keep _ _ _ st2 λb hb o e=>hk4 b o (Heap.get?_push_of_some _ e);have fin:=codeAny_compStart_list (run _ ⟨_,rfl⟩) (T.self X.A 0 {s2 with heap:=h4,toks:=s2.toks+([]:List (Str×Value)).length} _ (notedBy (model X.prog X.w) X.A Xc.env λex s'=>(compPost (model X.prog X.w) X.A X.xe use R (.ref s2.heap.objs.size) (s2.heap.push (ZX [] 0)).objs.size) (.error ex) s') st4 (run _ ⟨_,rfl⟩));rw[eE]at fin;exact fin
theorem ZQ{elt iter tg:Expr}{ifs:List Expr}{scope:Scope}{pos:Pos}{N:List Str}{cp:List (Option Nat)}{wi:TI}{g:TG}{tc:TT}{te:TE}(hc:X.calm=true){sc:Scope}{N0:List Str}(hS0:CompScope scope sc)(hN0:CompNames N0 scope N cp)(hi:PI X tg iter wi)(hg:∀C s H ex pn,PG (XI X scope N C s H ex pn) tg g)(ht:∀C s H ex pn,PTs (XI X scope N C s H ex pn) ifs tc)(he:∀C s H ex pn,PE (XI X scope N C s H ex pn) elt te)(hsc:X.env.scope=sc:=by rfl)(hxn:X.N=N0:=by rfl)(hs:∀x,fj iter X.env x=pure x:=by intro _;rfl):PE X (.ListComp elt [⟨tg,iter,ifs,0⟩] scope pos) (R1 cp wi g tc te):=by subst hsc hxn;intro pins s σ H Q I h;rw[eval_ListComp];exact NM (use:=none) hc hS0 hN0 hi hg ht he hs I h λD C H5 s4 m I5 hn h1 h2 h3 h4 h5 q=>⟨m,hn,λh' hs'=>⟨.ref D,_,I5.turned (t':=s4.toks) (it:=C) (λb o hb e=>(hs'.2 b hb).trans e) h3 h1 (.inr h4) h2 h5,rfl,q⟩⟩
theorem RY{bs:List Bool}:∀{us:List Value},Vals (bs.map V.bl) us->∀(i:Nat)(v:Value),us[i]?=some v->∃b,bs[i]?=some b/\v=.bool b:=by
 induction bs with
|nil=>intro us r i v e;rw[d5]at r;cases r;simp at e
|cons b bs ih=>
  intro us r i v e;rw[ar]at r;cases r with
 |cons r1 r2=>
   cases i with
  |zero=>simp at e;subst e;exact⟨b,rfl,r1⟩
  |succ i=>obtain⟨b',h1,h2⟩:=ih r2 i v (by simpa using e);exact⟨b',by simpa using h1,h2⟩
theorem all_range(bs:List Bool):(aT bs.length).all (λi=>bs.getD i true)=bs.all id:=by
 rw[Bool.eq_iff_iff,ba,ba];constructor
 ·intro h b hb;obtain⟨i,hi⟩:=aU.mp hb;have hl:i<bs.length:=(aj.mp hi).1;have:=h i (bj.mpr hl);rw[ax,hi]at this;exact this
 ·intro h i hi;have hl:=bj.mp hi;rw[ax,List.getElem?_eq_getElem hl];exact h _ (aD hl)
theorem M8(hc:X.calm=true):YS X (.builtin "all") (λxs H Q=>∃(p:Addr)(bs:List Bool),xs=[.ref p]/\SqL X.K H p (bs.map V.bl)/\Q (.bl (bs.all id)) H):=by
 intro pins s σ H xs us Q I r h;obtain⟨p,bs,rfl,hq,q⟩:=h;obtain⟨u,rfl,ru⟩:=vals1 r;cases ru;obtain⟨its,rv,pl,hz⟩:=I.list hq;have hl:=rv.length;rw[bw]at hl;refine call_all_walk (dN pl.isList ?_);have hne:p≠s.heap.objs.size:=by obtain⟨o,n,e,_⟩:=pl;exact Nat.ne_of_lt (Heap.lt_size e)
 refine⟨s.heap.objs.size,_,_,_,_,_,λi=>bs.getD i true,rfl,Walks.list (A:=X.A.in1) (I.ok.hd hc) s.heap.objs.size p hne its.toArray,⟨⟨_,Heap.get?_push_size _ rfl,rfl,rfl⟩,?_⟩,λi v s' Q' E' hp hQ=>?_,λh' tk kk=>?_⟩
 ·obtain⟨o,e,c,n,d⟩:=pl.isList;exact⟨o,Heap.get?_push_of_some _ e,c,n,d⟩
 ·obtain⟨b,hb,rfl⟩:=RY rv i v (by simpa using hp);have:bs.getD i true=b:=by rw[ax,hb];rfl
  exact bt (this▸hQ)
 ·have e:(aT its.toArray.size).all (λi=>bs.getD i true)=bs.all id:=by rw[aq,<-hl];exact all_range bs
  rw[e];refine⟨.bl (bs.all id),H,I.kept (t':=tk) λb o q=>?_,rfl,q⟩;exact kk b o (by simp;exact Nat.ne_of_lt (Heap.lt_size q)) (Heap.get?_push_of_some _ q)
theorem L9{ys:List Str}:∀{us:List Value},Vals (ys.map V.str) us->StrsAre us ys:=by
 induction ys with
|nil=>intro us r;rw[d5]at r;cases r;exact .nil
|cons y ys ih=>
  intro us r;rw[ar]at r;cases r with
 |cons r1 r2=>obtain⟨t,e⟩:=r1;subst e;exact .cons y t (ih r2)
theorem DF:MtR X "str.join" (λx vs H Q=>∃(z:Str)(p:Addr)(ys:List Str),x=.str z/\vs=[.ref p]/\SqL X.K H p (ys.map V.str)/\(ys.map (·.length)).sum+ys.length*z.length<=16777216/\Q (.str (Txt.join z ys)) H):=by intro pins s σ H x xs v us Q I rx rs h;obtain⟨z,p,ys,rfl,rfl,hq,hz,q⟩:=h;obtain⟨t,rfl⟩:=rx;obtain⟨u,rfl,ru⟩:=vals1 rs;cases ru;obtain⟨its,rv,pl,hl⟩:=I.list hq;exact join_list pl.isList (by simpa using L9 rv) hz λt' k=>⟨.str (Txt.join z ys),H,I.tok k,⟨t',rfl⟩,q⟩
theorem Q1:SlR X (λx lo hi H Q=>∃z,x=.str z/\z.length<=sizeLine/\Q (.str (Txt.slice z lo hi)) H):=by
 intro pins s σ H x v vl vu lo hi sl Q I rx hs pl pu h;obtain⟨z,rfl,hz,q⟩:=h;obtain⟨t,rfl⟩:=rx;have fin:∀t' k,EP X pins σ Q (.str (Txt.slice z lo hi) t') {s with toks:=k}:=λt' k=>⟨.str _,H,I.tok k,⟨t',rfl⟩,q⟩;have len:=Nat.le_trans (Txt.slice_le z lo hi) hz;refine⟨"str",_,PyProof.Rows.slot_str_getitem.lookup,typeIs_str _ _ _,?_⟩;obtain⟨o,ho,hc,hd⟩:=hs;cases pl with
|none=>
  cases pu with
 |none=>exact dE (l:=none) (u:=none) (st:=none) ⟨o,ho,hc,hd⟩ rfl (fM ⟨len,fin⟩)
 |int j uj=>exact dE (l:=none) (u:=some (j,uj)) (st:=none) ⟨o,ho,hc,hd⟩ rfl (fM ⟨len,fin⟩)
|int i ui=>
  cases pu with
 |none=>exact dE (l:=some (i,ui)) (u:=none) (st:=none) ⟨o,ho,hc,hd⟩ rfl (fM ⟨len,fin⟩)
 |int j uj=>exact dE (l:=some (i,ui)) (u:=some (j,uj)) (st:=none) ⟨o,ho,hc,hd⟩ rfl (fM ⟨len,fin⟩)
def Ac(i j:Int):Prop:=0<j/\j.natAbs.log2<9000
theorem K2:OpR X (d6 .FloorDiv) (rI Ac λi j=>.int (i / j)):=opI λi j _ _ _ _ _ hc q=>by have h1:(0:Int)<j:=hc.1;exact floordiv_int (by omega) (by rw[Int.fdiv_eq_ediv_of_nonneg i (by omega)];exact q) (.inl (PyProof.noPylong_of_log2 hc.2))
theorem LS:YS X (.builtin "isinstance") (λxs H Q=>∃x c t b,xs=[x,.ty c]/\TyOf X.K H x t/\aH X.K t (.type c)=some b/\Q (.bl b) H):=by intro pins s σ H xs us Q I r h;obtain⟨x,c,t,b,rfl,ty,e,q⟩:=h;obtain⟨u,w',rfl,ru,rw'⟩:=vals2 r;cases rw';exact Wb I ru ty e λtk=>⟨.bl b,H,I.tok tk,rfl,q⟩
end
theorem PK:bF "int"=some (.type "int"):=by decide +kernel
theorem Ts:bF "bool"=some (.type "bool"):=by decide +kernel
theorem PJ:bF "str"=some (.type "str"):=by decide +kernel
def Df(K:aa)(mg:Str->Option Value)(x:Str)(st:Stmt)(ps:List Str):Prop:=∃f fd,Fun K x x st f fd/\mg x=some (.ref f)/\Binds K fd ps []
def Can(P:Program)(w:World)(K:aa)(mg:Str->Option Value)(base:Heap)(k:Nat)(x:Str)(ps:List Str)(sp:Sp):Prop:=∃f fd,FnOk P w K mg base CX0 k f fd ps sp/\mg x=some (.ref f)/\bu K (.ref f)=true/\Binds K fd ps []
section
variable {P:Program}{w:World}{K:aa}{mg:Str->Option Value}{base:Heap}
theorem Df.can{x:Str}{st:Stmt}{N ps:List Str}{k:Nat}{sp:Sp}(D:Df K mg x st ps)(S:FnScope N ps (Zd st))(len:∀vs H Q E,sp vs H Q E->vs.length=ps.length)(hbody:∀(f:Addr)(cdv:Value)(A:bz)(outer:List Env)(s:ag)(H:Hp)(vs:List V)(Q:VK)(E:XK),Room k (A.deeper (dI x (Zd st) s.heap.objs.size f cdv))->sp vs H Q E ->∃t,PSs (cxOf CX0 P w K mg base N x (Zd st) f cdv A outer s H E).nox (Yh st) t/\t {nx:=λ_ H'=>Q .non H',rt:=Q} (start N vs) H):Can P w K mg base (k+1) x ps sp:=by obtain⟨f,fd,F,m,b⟩:=D;exact⟨f,fd,F.ok S len (λcdv A outer s H vs Q E hr h=>hbody f cdv A outer s H vs Q E hr h),m,F.kp,b⟩
end
section
variable {X:Cx}
theorem YG{k:Nat}{x:Str}{ps:List Str}{sp:Sp}{p pos:Pos}{e:Expr}{es:List Expr}{t:TA}(C:Can X.prog X.w X.K X.mg X.base k x ps sp)(hr:Room k X.A)(hg:Gl X x)(ha:PA X (e::es) t)(hdb:(x==("__debug__":Str))=false:=by decide)(he:aN (e::es) X.env=(false,eval e X.env)::aN es X.env:=by rfl)(hpl:(cf pos (aN es X.env)).any (·.1)=false:=by rfl):PE X (.Call (.Name x p) (e::es) [] pos) (Mp sp [] E0 t):=by obtain⟨f,fd,F,m,kp,b⟩:=C;exact Dv F hr hg m kp b .nil Ys ha hdb he hpl
end
inductive Th(H:Hp):V->String->Prop where
|non:Th H .non "NoneType"
|bl (b:Bool):Th H (.bl b) "bool"
|int (i:Int):Th H (.int i) "int"
|str (z:Str) (h:z.length<=1000):Th H (.str z) "str"
|lst {a:Addr}{xs:List V} (e:H a=some (.lst xs)):Th H (.ref a) "list"
|tup {a:Addr}{xs:List V} (e:H a=some (.tup xs)):Th H (.ref a) "tuple"
|dK {a:Addr}{kvs:List (Key×V)} (e:H a=some (.dK kvs)):Th H (.ref a) "dict"
theorem Th.ty{K:aa}{H:Hp}{v:V}{T:String}(h:Th H v T):TyOf K H v (.type T):=by
 cases h with
|non=>exact .non
|bl b=>exact .bl b
|int i=>exact .int i
|str z h=>exact .str z
|lst e=>exact .lst e
|tup e=>exact .tup e
|dK e=>exact .dK e
theorem Th.same{H H':Hp}(s:Same H H'){v:V}{T:String}(h:Th H v T):Th H' v T:=by
 cases h with
|non=>exact .non
|bl b=>exact .bl b
|int i=>exact .int i
|str z h=>exact .str z h
|lst e=>exact .lst (s _ _ e)
|tup e=>exact .tup (s _ _ e)
|dK e=>exact .dK (s _ _ e)
section
variable (K:aa)
theorem Fy:aH K (.type "NoneType") (.type "int")=some false:=by kernel_rfl
theorem Fz:aH K (.type "NoneType") (.type "bool")=some false:=by kernel_rfl
theorem Fx:aH K (.type "NoneType") (.type "str")=some false:=by kernel_rfl
theorem FL:aH K (.type "bool") (.type "int")=some true:=by kernel_rfl
theorem Li:aH K (.type "bool") (.type "bool")=some true:=by kernel_rfl
theorem FK:aH K (.type "bool") (.type "str")=some false:=by kernel_rfl
theorem FF:aH K (.type "int") (.type "int")=some true:=by kernel_rfl
theorem FG:aH K (.type "int") (.type "bool")=some false:=by kernel_rfl
theorem FE:aH K (.type "int") (.type "str")=some false:=by kernel_rfl
theorem Fv:aH K (.type "str") (.type "int")=some false:=by kernel_rfl
theorem Fw:aH K (.type "str") (.type "bool")=some false:=by kernel_rfl
theorem Fu:aH K (.type "str") (.type "str")=some true:=by kernel_rfl
theorem FC:aH K (.type "list") (.type "int")=some false:=by kernel_rfl
theorem FD:aH K (.type "list") (.type "bool")=some false:=by kernel_rfl
theorem FA:aH K (.type "list") (.type "str")=some false:=by kernel_rfl
theorem Fs:aH K (.type "tuple") (.type "int")=some false:=by kernel_rfl
theorem Ft:aH K (.type "tuple") (.type "bool")=some false:=by kernel_rfl
theorem Fq:aH K (.type "tuple") (.type "str")=some false:=by kernel_rfl
theorem FI:aH K (.type "dict") (.type "int")=some false:=by kernel_rfl
theorem FJ:aH K (.type "dict") (.type "bool")=some false:=by kernel_rfl
theorem FH:aH K (.type "dict") (.type "str")=some false:=by kernel_rfl
end
noncomputable def FR:V->Bool
|.str _=>true
|_=>false
noncomputable def Lk:V->Bool
|.int _=>true
|_=>false
noncomputable def Ex:V->Bool
|.bl _=>true
|_=>false
theorem Th.kitS{K:aa}{H:Hp}{v:V}{T:String}(h:Th H v T):aH K (.type T) (.type "str")=some (FR v):=by
 cases h with
|non=>exact Fx K
|bl b=>exact FK K
|int i=>exact FE K
|str z h=>exact Fu K
|lst e=>exact FA K
|tup e=>exact Fq K
|dK e=>exact FH K
theorem Th.kitB{K:aa}{H:Hp}{v:V}{T:String}(h:Th H v T):aH K (.type T) (.type "bool")=some (Ex v):=by
 cases h with
|non=>exact Fz K
|bl b=>exact Li K
|int i=>exact FG K
|str z h=>exact Fw K
|lst e=>exact FD K
|tup e=>exact Ft K
|dK e=>exact FJ K
theorem Th.kitI{K:aa}{H:Hp}{v:V}{T:String}(h:Th H v T):aH K (.type T) (.type "int")=some (Lk v||Ex v):=by
 cases h with
|non=>exact Fy K
|bl b=>exact FL K
|int i=>exact FF K
|str z h=>exact Fv K
|lst e=>exact FC K
|tup e=>exact Fs K
|dK e=>exact FI K
section
variable {X:Cx}
def tIsi(K:aa)(c:String)(te:TE):TE:=tCB (λxs H Q=>∃x c t b,xs=[x,.ty c]/\TyOf K H x t/\aH K t (.type c)=some b/\Q (.bl b) H) (Yl te (Yl (tC (.ty c)) tNil))
theorem X1{e:Expr}{te:TE}{c:String}{cx:Str}{p p2 pos:Pos}(he:PE X e te)(hg:Gl X "isinstance")(hm:X.mg "isinstance"=none)(hg2:Gl X cx)(hm2:X.mg cx=none)(hb:bF cx=some (.type c))(hn:cx≠"__name__":=by decide)(hd:(cx==("__debug__":Str))=false:=by decide)(hs:aN [e,.Name cx p2] X.env=(false,eval e X.env)::aN [.Name cx p2] X.env:=by rfl):PE X (.Call (.Name "isinstance" p) [e,.Name cx p2] [] pos) (tIsi X.K c te):=Zy (p:=p) (pos:=pos) (LS (X:=X)) hg hm fR (Zh he (Zh (Pm (v:=V.ty c) (pos:=p2) hg2 hm2 hb rfl hn hd) Zk) hs) (he:=hs)
end
def RecX(B:Heap)(x:Addr)(c:Value)(dd:Option Addr)(fl:Value)(h:Heap):Prop:=∃o vs,h.get? x=some o/\o.cls=c/\o.dict=dd/\o.data=.fields vs/\1<vs.size /\((vs[1]?=some .none/\fl=.none)\/∃T oT ts,vs[1]?=some (.ref T)/\B.get? T=none/\T≠x/\h.get? T=some oT/\oT.data=.fields ts/\ts[3]?=some fl)
noncomputable def ErrC(x C:Addr)(dd:Option Addr):HO:=.ext λh=>∃o vs,h.get? x=some o/\o.cls=.ref C/\o.dict=dd/\o.data=.fields vs
def Hd(X:Cx)(hs:List ExceptHandler)(th:Addr->Addr->Option Addr->TS):Prop:=∀(pins:List (Addr×Obj))(s:ag)(σ:St)(H:Hp)(D:Ends)(x C:Addr)(dd:Option Addr)(B:Heap),Inv X pins σ H s->H x=some (ErrC x C dd)->RecX B x (.ref C) dd .none s.heap->th x C dd D σ H ->wpAny (model X.prog X.w) X.A (handleBy (.ref x) X.env hs) (SP X pins D) X.xe s
section
variable {K:aa}{σ:St}{H:Hp}{Q:VK}{i:Nat}{n:Int}{p:Addr}{xs:List V}{v:V}
theorem iaL(hp:H p=some (.lst xs))(hj:atI xs n=some v)(k:Q v H)(hv:σ[i]?=some (some (.ref p)):=by rfl):tOp (rIxL K) (tVar i) (tC (.int n)) σ H Q:=⟨_,hv,p,xs,n,v,rfl,rfl,SqL.of hp,hj,k⟩
theorem iaT(hp:H p=some (.tup xs))(hj:atI xs n=some v)(k:Q v H)(hv:σ[i]?=some (some (.ref p)):=by rfl):tOp (rIxT K) (tVar i) (tC (.int n)) σ H Q:=⟨_,hv,p,xs,n,v,rfl,rfl,SqT.of hp,hj,k⟩
theorem ixL(j:Nat)(hp:H p=some (.lst xs))(hj:xs[j]?=some v)(k:Q v H)(hv:σ[i]?=some (some (.ref p)):=by rfl):tOp (rIxL K) (tVar i) (tC (.int j)) σ H Q:=iaL hp (Zu hj) k hv
theorem ixT(j:Nat)(hp:H p=some (.tup xs))(hj:xs[j]?=some v)(k:Q v H)(hv:σ[i]?=some (some (.ref p)):=by rfl):tOp (rIxT K) (tVar i) (tC (.int j)) σ H Q:=iaT hp (Zu hj) k hv
theorem mthV{C t dx:Addr}{m:Str}{sp:Sp}{dvs:List V}{E:XK}{ta:TA}{fs:List (Str×V)}(ht:H t=some (.ins C dx fs))(ho:fs.lookup m=none)(k:ta σ H λvs H2=>sp (.ref t::(vs++dvs)) H2 Q E)(hv:σ[i]?=some (some (.ref t)):=by rfl):Nm C m sp dvs E (tVar i) ta σ H Q:=⟨_,hv,t,dx,fs,rfl,ht,ho,k⟩
end
section
variable {X:Cx}{a b e:Expr}{es:List Expr}{ta tb te:TE}{t:TA}{pos:Pos}
noncomputable def notStar:Expr->Bool
|.Starred ..=>false
|_=>true
theorem QY{env:Env}(h:notStar e=true):aN (e::es) env=(false,eval e env)::aN es env:=by cases e<;>first|rfl|cases h
theorem Zc(ha:PE X e te)(hr:PA X es t)(hn:notStar e=true:=by rfl):PA X (e::es) (Yl te t):=Zh ha hr (QY hn)
theorem pa1(ha:PE X e te)(hn:notStar e=true):PA X [e] (Yl te tNil):=Zc ha Zk hn
theorem pa2(ha:PE X e te)(hb:PE X a ta)(hn:(notStar e&&notStar a)=true):PA X [e,a] (Yl te (Yl ta tNil)):=Zc ha (pa1 hb (Bool.and_eq_true_iff.mp hn).2) (Bool.and_eq_true_iff.mp hn).1
theorem pa3(ha:PE X e te)(hb:PE X a ta)(hc:PE X b tb)(hn:(notStar e&&(notStar a&&notStar b))=true):PA X [e,a,b] (Yl te (Yl ta (Yl tb tNil))):=Zc ha (pa2 hb hc (Bool.and_eq_true_iff.mp hn).2) (Bool.and_eq_true_iff.mp hn).1
theorem nmT(i:Nat){x:Str}(hN:X.N.Nodup)(hi:X.N[i]?=some x:=by rfl)(hx:Loc X.env.scope x:=by exact aK rfl)(hf:X.fn x=true\/X.env.scope.names.lookup x=some .local:=by first|exact .inl rfl|exact .inr rfl|assumption):PG X (.Name x pos) (Zt i):=XU hN hi hx hf
theorem il(K:aa)(ha:PE X a ta)(hb:PE X b tb)(hK:X.K=K:=by rfl)(hs:PQ b:=by exact λ_ _=>rfl):PE X (.Subscript a b pos) (tOp (rIxL K) ta tb):=by subst hK;exact Ym DS ha hb hs
theorem it(K:aa)(ha:PE X a ta)(hb:PE X b tb)(hK:X.K=K:=by rfl)(hs:PQ b:=by exact λ_ _=>rfl):PE X (.Subscript a b pos) (tOp (rIxT K) ta tb):=by subst hK;exact Ym Yd ha hb hs
theorem cn{k j:Nat}{x:Str}{ps:List Str}{sp:Sp}{p:Pos}(C:Can X.prog X.w X.K X.mg X.base k x ps sp)(hr:Room j X.A)(ha:PA X (e::es) t)(hk:k<=j:=by decide)(hg:Gl X x:=by rfl)(hdb:(x==("__debug__":Str))=false:=by decide)(he:aN (e::es) X.env=(false,eval e X.env)::aN es X.env:=by rfl)(hpl:(cf pos (aN es X.env)).any (·.1)=false:=by rfl):PE X (.Call (.Name x p) (e::es) [] pos) (Mp sp [] E0 t):=YG C (hr.mono hk) hg ha hdb he hpl
theorem st(i:Nat){x:Str}{p:Pos}(hN:X.N.Nodup)(he:PE X e te)(hi:X.N[i]?=some x:=by rfl)(hx:Loc X.env.scope x:=by exact aK rfl)(hs:fz e (some (.Name x p)) pos.line X.env=pure false:=by rfl)(hf:X.fn x=true\/X.env.scope.names.lookup x=some .local:=by first|exact .inl rfl|exact .inr rfl):PS X (.Assign [.Name x p] e pos) (tAsg te (Zt i)):=Yb hN hi hx he hs hf
end
theorem Room.m{j k:Nat}{A:bz}(r:Room k A)(h:j<=k:=by decide):Room j A:=r.mono h
theorem zl{n:Nat}(h:Nat.ble n 1000=true:=by rfl):n<=sizeLine:=Nat.le_trans (Nat.le_of_ble_eq_true h) (by decide)
theorem gE{α:Type}{l:List α}{i:Nat}(h:i<l.length):l[i]?=some l[i]:=List.getElem?_eq_getElem h
theorem lm{α β:Type}{f:α->β}{l:List α}:(l.map f).length=l.length:=bw f
theorem scO{N P:List Str}{sc:Scope}(h:sc.kind=.function/\sc.isCoroutine=false/\sc.isGenerator=false/\N.Nodup/\N.take P.length=P/\(∀x∈P,sc.names.lookup x=some .local\/sc.names.lookup x=some .cell)/\∀y∈sc.names,y.2≠.free:=by decide +kernel):FnScope N P sc:=⟨h.1,h.2.1,h.2.2.1,h.2.2.2.1,h.2.2.2.2.1,h.2.2.2.2.2.1,h.2.2.2.2.2.2⟩
noncomputable def csx(l:List (Str×dh)):Scope:={kind:=.function,names:=l,isGenerator:=false,isCoroutine:=false,more:=[]}
section
variable {P:Program}{w:World}{K:aa}{mg:Str->Option Value}{base:Heap}{x:Str}{st:Stmt}{N ps:List Str}{k:Nat}{sp:Sp}
theorem Df.cn(D:Df K mg x st ps)(S:FnScope N ps (Zd st))(hb:∀(f:Addr)(cdv:Value)(A:bz)(outer:List Env)(s:ag)(H:Hp)(vs:List V)(Q:VK)(E:XK),Room k (A.deeper (dI x (Zd st) s.heap.objs.size f cdv))->sp vs H Q E->∃t,PSs (cxOf CX0 P w K mg base N x (Zd st) f cdv A outer s H E).nox (Yh st) t/\t {nx:=λ_ H'=>Q .non H',rt:=Q} (start N vs) H)(len:∀vs H Q E,sp vs H Q E->vs.length=ps.length:=by intro _ _ _ _ h;repeat (obtain⟨a,h⟩:=h;first|(subst a;rfl)|skip)):Can P w K mg base (k+1) x ps sp:=D.can S len hb
end
theorem tq{a b:TS}{D:Ends}{σ:St}{H:Hp}(h:∀D':Ends,(∀σ' H',b D σ' H'->D'.nx σ' H')->a D' σ H):tSeq a b D σ H:=h _ λ_ _ x=>x
theorem shp{σ:St}{p:(Nat->Option V)->St}(h:σ=p λi=>σ.getD i none):∃o,σ=p o:=⟨_,h⟩
theorem td{a:TS}{D:Ends}{σ:St}{H:Hp}(h:∀D':Ends,(∀σ' H',D.nx σ' H'->D'.nx σ' H')->a D' σ H):a D σ H:=h _ λ_ _ x=>x
theorem tqr{a b:TS}{D:Ends}{σ:St}{H:Hp}(h:∀D':Ends,(∀σ' H',b D σ' H'->D'.nx σ' H')->(∀v H',D.rt v H'->D'.rt v H')->a D' σ H):tSeq a b D σ H:=h _ (λ_ _ x=>x) (λ_ _ x=>x)
def XN(K:aa)(w:World)(a:Addr)(z:Str)(v:V):Prop:=∃es n u,K.lookup a=some ⟨.type "dict",none,.dict es n,#[]⟩/\PySem.W.KeysLit w.params es.toList/\bS K a z=some (some u)/\RelV v u
def Hu(K:aa)(w:World)(td ty:TE):TE:=λσ H Q=>td σ H λx H1=>ty σ H1 λy H2=>∃a z v,x=.ref a/\y=.str z/\XN K w a z v/\Q v H2
section
variable {X:Cx}{o i:Expr}{td ty:TE}{pos:Pos}
theorem SG(ho:PE X o td)(hi:PE X i ty)(hs:NoSl i):PE X (.Subscript o i pos) (Hu X.K X.w td ty):=by intro pins s σ H Q I h;refine R4 PySem.F.slot_dict_getitem.lookup hs (thn (ho pins s σ H _ I h) λu s1⟨x,H1,I1,rx,q1⟩=>thn (hi pins s1 σ H1 _ I1 q1) λiv s2 hZ=>?_);obtain⟨y,H2,I2,ry,a,z,v,ex,ey,⟨es,n,u',hl,hk,hn,rv⟩,q2⟩:=hZ;subst ex ey;obtain rfl:u=Value.ref a:=rx;obtain⟨t,rfl⟩:=(show ∃t,iv=Value.str z t from ry);have hm:=PySem.W.mapOf_K (prog:=X.prog) I2.kIn hl hk;exact⟨hm.typeIs,wpAny_getItem_of (strKind_is X.prog X.w z t) hm (PySem.W.find_K hl hn) ⟨v,H2,I2.tok _,rv,q2⟩⟩
end
end L2
namespace T
open PySem L2
noncomputable def top(i:Nat):Stmt:=ab.main.body.getD i (.Pass ⟨0,0,0,0⟩)
noncomputable abbrev f_is_whole:Stmt:=top 12
noncomputable abbrev f_is_within:Stmt:=top 13
noncomputable abbrev f_is_text_of:Stmt:=top 14
noncomputable abbrev f_is_name:Stmt:=top 15
noncomputable abbrev f_is_group_name:Stmt:=top 16
noncomputable abbrev m_Step___init__:Stmt:=inClass (top 18) 0
noncomputable abbrev m_Step_tail:Stmt:=inClass (top 18) 2
noncomputable abbrev m_Step_head:Stmt:=inClass (top 18) 3
noncomputable abbrev m_Step_room:Stmt:=inClass (top 18) 4
noncomputable abbrev m_Ride___init__:Stmt:=inClass (top 19) 0
noncomputable abbrev m_Walk___init__:Stmt:=inClass (top 20) 0
noncomputable abbrev m_Wait___init__:Stmt:=inClass (top 21) 0
noncomputable abbrev f_walks_of:Stmt:=top 22
noncomputable abbrev f_waits_of:Stmt:=top 23
noncomputable abbrev f_moves_of:Stmt:=top 24
noncomputable abbrev f_is_spot_of:Stmt:=top 26
noncomputable abbrev f_is_turn:Stmt:=top 28
noncomputable abbrev f_refuse_no_turn:Stmt:=top 29
noncomputable abbrev f_has_form:Stmt:=top 30
noncomputable abbrev f_near_side:Stmt:=top 31
noncomputable abbrev f_set_out_crosses:Stmt:=top 32
noncomputable abbrev f_rooms_across:Stmt:=top 33
noncomputable abbrev f_people_beyond:Stmt:=top 34
noncomputable abbrev f_lets:Stmt:=top 35
noncomputable abbrev f_is_line:Stmt:=top 36
noncomputable abbrev f_is_known:Stmt:=top 44
noncomputable abbrev f_rows_of:Stmt:=top 45
noncomputable abbrev f_wrong_beginning:Stmt:=top 46
noncomputable abbrev f_wrong_ends:Stmt:=top 47
noncomputable abbrev f_wrong_place:Stmt:=top 48
noncomputable abbrev f_wrong_ride:Stmt:=top 49
noncomputable abbrev f_wrong_way:Stmt:=top 50
noncomputable abbrev f_wrong_group:Stmt:=top 51
noncomputable abbrev f_refuse_row:Stmt:=top 52
noncomputable abbrev m_Table___init__:Stmt:=inClass (top 53) 0
noncomputable abbrev m_Table_take_places:Stmt:=inClass (top 53) 1
noncomputable abbrev m_Table_take_rides:Stmt:=inClass (top 53) 2
noncomputable abbrev m_Table_take_ways:Stmt:=inClass (top 53) 3
noncomputable abbrev m_Table_take_groups:Stmt:=inClass (top 53) 4
noncomputable abbrev m_Table_is_place:Stmt:=inClass (top 53) 6
noncomputable abbrev m_Table_is_home:Stmt:=inClass (top 53) 7
noncomputable abbrev m_Table_is_group:Stmt:=inClass (top 53) 10
noncomputable abbrev m_Table_group_row:Stmt:=inClass (top 53) 15
noncomputable abbrev m_Table_people:Stmt:=inClass (top 53) 16
noncomputable abbrev f__law_cell:Stmt:=top 55
noncomputable abbrev f__law_box:Stmt:=top 56
noncomputable abbrev f__law_take:Stmt:=top 57
noncomputable abbrev f__law_names:Stmt:=top 58
noncomputable abbrev f__law_places:Stmt:=top 59
noncomputable abbrev f__law_ride:Stmt:=top 60
noncomputable abbrev f__law_way:Stmt:=top 61
noncomputable abbrev f__law_group:Stmt:=top 62
noncomputable abbrev f__law_rows:Stmt:=top 63
noncomputable abbrev f__law_world:Stmt:=top 64
noncomputable abbrev f__law_made:Stmt:=top 65
noncomputable abbrev f__law_steps:Stmt:=top 66
noncomputable abbrev f__law_lets:Stmt:=top 67
noncomputable abbrev f__law_line:Stmt:=top 68
noncomputable abbrev f__law_may:Stmt:=top 69
noncomputable abbrev f__law_other:Stmt:=top 70
noncomputable abbrev f__law_near:Stmt:=top 71
noncomputable abbrev f__law_asked:Stmt:=top 72
noncomputable abbrev f_law:Stmt:=top 73
end T
namespace K1
noncomputable def LET:List Nat:=[97,98,99,100,101,102,103,104,105,106,107,108,109,110,111,112,113,114,115,116,117,118,119,120,121,122]
noncomputable def FIG:List Nat:=[48,49,50,51,52,53,54,55,56,57]
noncomputable def lenB(n:Int)(y:List Nat):Bool:=decide ((1:Int)<=y.length)&&decide ((y.length:Int)<=n)
noncomputable def YR(n:Int)(zs y:List Nat):Bool:=lenB n y&&y.all λc=>decide (c∈zs)
noncomputable def Jg(n:Int)(zs y:List Nat):Bool:=YR n zs y&&decide (y.getD 0 0∈LET)
open PySem L2
noncomputable abbrev Km:Stmt:=T.f_is_whole
noncomputable abbrev Sv:Stmt:=T.f_is_within
noncomputable abbrev Pd:Stmt:=T.f_is_text_of
noncomputable abbrev En:Stmt:=T.f_is_name
noncomputable abbrev Ko:Stmt:=T.f_is_group_name
noncomputable def tLET:Str:="abcdefghijklmnopqrstuvwxyz"
noncomputable def tNAME:Str:="abcdefghijklmnopqrstuvwxyz0123456789"
noncomputable def tGROUP:Str:="abcdefghijklmnopqrstuvwxyz0123456789."
structure Txt(K:aa)(mg:Str->Option Value):Prop where
 lets:∃t,mg "LETTERS"=some (.str tLET t)
 names:∃t,mg "NAME_SIGNS"=some (.str tNAME t)
 groups:∃t,mg "GROUP_SIGNS"=some (.str tGROUP t)
 ln:∃t,mg "LONGEST_NAME"=some (.int 8 t)
 lg:∃t,mg "LONGEST_GROUP_NAME"=some (.int 12 t)
 isi:mg "isinstance"=none
 int:mg "int"=none
 bool:mg "bool"=none
 str:mg "str"=none
 len:mg "len"=none
 all:mg "all"=none
noncomputable def Mj(x:V):Bool:=Lk x
noncomputable def Zx(x:V)(lo hi:Int):Bool:=match x with
|.int i=>decide (lo<=i)&&decide (i<=hi)
|_=>false
noncomputable def codes(z:Str):List Nat:=z.cps.toList
noncomputable def RZ(x:V)(n:Int)(z:Str):Bool:=match x with
|.str y=>YR n (codes z) (codes y)
|_=>false
noncomputable def Uj(x:V)(n:Int)(z:Str):Bool:=match x with
|.str y=>Jg n (codes z) (codes y)
|_=>false
noncomputable def optV:Option Int->V
|some i=>.int i
|none=>.non
def NZ:Sp:=λvs H Q _=>∃x T,vs=[x]/\Th H x T/\Q (.bl (Mj x)) H
def Xq:Sp:=λvs H Q _=>∃x T lo hi,vs=[x,.int lo,.int hi]/\Th H x T/\Q (.bl (Zx x lo hi)) H
def Ms:Sp:=λvs H Q _=>∃x T n z,vs=[x,.int n,.str z]/\Th H x T/\∀H',Same H H'->Q (.bl (RZ x n z)) H'
def N5(n:Int)(z:Str):Sp:=λvs H Q _=>∃x T,vs=[x]/\Th H x T/\∀H',Same H H'->Q (.bl (Uj x n z)) H'
theorem slen{z:Str}(h:z.length<=1000):z.length<=sizeLine:=Nat.le_of_lt (Jb h)
theorem clen(z:Str):(codes z).length=z.length:=by simp[codes,Str.length]
section
variable {P:Program}{w:World}{K:aa}{mg:Str->Option Value}{base:Heap}
theorem Dl:FnScope ["thing"] ["thing"] (Zd Km):=⟨rfl,rfl,rfl,by decide +kernel,rfl,by decide +kernel,by decide +kernel⟩
theorem NN(T:Txt K mg)(D:Df K mg "is_whole" Km ["thing"]):Can P w K mg base 1 "is_whole" ["thing"] NZ:=by
 refine D.can Dl (λvs H Q E h=>?_) (λf cdv A outer s H vs Q E hr h=>?_)
 ·obtain⟨x,T',rfl,_⟩:=h;rfl
 ·obtain⟨x,T',rfl,th,k⟩:=h;refine⟨_,Ze (Zn (Xk (X1 (c:="int") (pv 0) rfl T.isi rfl T.int PK) (YF (E8 (X1 (c:="bool") (pv 0) rfl T.isi rfl T.bool Ts))))),?_⟩;refine⟨_,rfl,_,_,_,_,rfl,th.ty,th.kitI,_,rfl,?_⟩;have fin:∀b,b=Mj x->Q (.bl b) H:=λb e=>e▸k;refine ite2 (λe=>?_) (λe=>fin _ ?_)
  ·refine⟨_,rfl,_,_,_,_,rfl,th.ty,th.kitB,_,rfl,fin _ ?_⟩;cases th<;>first|rfl|(exact absurd (show false=true from e) Bool.false_ne_true)
  ·cases th<;>first|rfl|(exact absurd rfl e)
theorem Kg:FnScope ["thing","low","high"] ["thing","low","high"] (Zd Sv):=⟨rfl,rfl,rfl,by decide +kernel,rfl,by decide +kernel,by decide +kernel⟩
theorem MZ(D:Df K mg "is_within" Sv ["thing","low","high"])(CW:Can P w K mg base 1 "is_whole" ["thing"] NZ):Can P w K mg base 2 "is_within" ["thing","low","high"] Xq:=by
 refine D.can Kg (λvs H Q E h=>?_) (λf cdv A outer s H vs Q E hr h=>?_)
 ·obtain⟨x,T',lo,hi,rfl,_⟩:=h;rfl
 ·obtain⟨x,T',lo,hi,rfl,th,k⟩:=h;refine⟨_,Ze (Zn (Xk (YG CW hr rfl (Zh (pv 0) Zk)) (YF (KQ Nz Nz (pv 1) (pv 0) (pv 2))))),?_⟩;refine⟨_,rfl,x,T',rfl,th,_,rfl,?_⟩;have fin:∀b,b=Zx x lo hi->Q (.bl b) H:=λb e=>e▸k;refine ite2 (λe=>?_) (λe=>fin _ ?_)
  ·cases th with
  |int i=>
    refine⟨_,rfl,_,rfl,_,_,rfl,rfl,_,rfl,?_⟩;refine ite2 (λe2=>?_) (λe2=>fin _ ?_)
    ·refine⟨_,rfl,_,_,rfl,rfl,fin _ ?_⟩;show _=(decide (lo<=i)&&decide (i<=hi));rw[e2,Bool.true_and]
    ·show false=(decide (lo<=i)&&decide (i<=hi));have e3:decide (lo<=i)=false:=by simpa using e2
     rw[e3,Bool.false_and]
  |_=>exact absurd (show false=true from e) Bool.false_ne_true
  ·cases th<;>first|rfl|(exact absurd rfl e)
theorem Kj:FnScope ["thing","longest","signs"] ["thing","longest","signs"] (Zd Pd):=⟨rfl,rfl,rfl,by decide +kernel,rfl,by decide +kernel,by decide +kernel⟩
noncomputable def cs1:Scope:={kind:=.function,names:=[(Str.ofString ".0",.local),(Str.ofString "sign",.local),(Str.ofString "signs",.free)],isGenerator:=false,isCoroutine:=false,more:=[]}
theorem F6:CompScope cs1 (Zd Pd):=⟨rfl,by decide +kernel,by decide +kernel,by decide +kernel⟩
theorem F8:(["sign","signs"]:List Str).Nodup:=by decide +kernel
theorem F7:CompNames ["thing","longest","signs"] cs1 ["sign","signs"] [none,some 2]:=.mk' (by decide +kernel)
theorem Ru(z:Str)(c:Nat):(!(gK z ⟨#[c]⟩ 0 z.length 1).isEmpty)=decide (c∈codes z):=PySem.StrLaws.found_one z c
theorem take_all{α β:Type}(l:List α)(p:α->β)(i:Nat)(c:α)(h:l[i]?=some c):(l.take (i+1)).map p=(l.take i).map p++[p c]:=by rw[List.take_add_one,h,aI];rfl
theorem RD(T:Txt K mg)(D:Df K mg "is_text_of" Pd ["thing","longest","signs"]):Can P w K mg base 1 "is_text_of" ["thing","longest","signs"] Ms:=by
 refine D.can Kj (λvs H Q E h=>?_) (λf cdv A outer s H vs Q E hr h=>?_)
 ·obtain⟨x,T',n,z,rfl,_⟩:=h;rfl
 ·obtain⟨x,T',n,z,rfl,th,k⟩:=h;refine⟨_,Za (ZF (PW.pt (JN (Z9 (ZZ (X1 (c:="str") (pv 0) rfl T.isi rfl T.str PJ))) (XC (Z9 (KC Nz Nz Zb (Zy LR rfl T.len aZ (Zh (pv 0) Zk)) (pv 1)))))) (Ze (Zn YW)) Zr) (Ze (Zn (Zy (M8 rfl) rfl T.all eO (Zh (ZQ (scope:=cs1) (N:=["sign","signs"]) (cp:=[none,some 2]) rfl F6 F7 (EY (pv 0)) (λC s H ex pn=>XU (i:=0) F8 rfl (aK rfl)) (λC s H ex pn=>Yt) (λC s H ex pn=>Yp UU (pv 0) (pv 1) (by with_unfolding_all rfl))) Zk)))),?_⟩;have fin:∀b H',Same H H'->b=RZ x n z->Q (.bl b) H':=λb H' sm e=>e▸k H' sm;refine⟨_,rfl,_,_,_,_,rfl,th.ty,th.kitS,_,rfl,?_⟩;refine ite2 (λe=>?_) (λe=>?_)
  ·refine iteT (fin _ _ (Same.refl _) ?_);cases th<;>first|rfl|(exact absurd (show false=true from e) Bool.false_ne_true)
  ·cases th with
  |str y hy=>
    have hlen:(codes y).length=y.length:=clen y;refine⟨_,rfl,_,_,rfl,⟨slen hy,rfl⟩,_,_,rfl,rfl,_,rfl,?_⟩;refine ite2 (λe1=>?_) (λe1=>?_)
    ·refine⟨_,rfl,_,_,rfl,rfl,_,rfl,?_⟩;refine ite2 (λe2=>?_) (λe2=>?_)
     ·refine fin _ _ (Same.refl _) ?_;show false=YR n (codes z) (codes y);unfold YR lenB;have e3:decide ((y.length:Int)<=n)=false:=by simpa using e2
      rw[hlen,e3,Bool.and_false,Bool.false_and]
     ·have e3:decide ((y.length:Int)<=n)=true:=by simpa using e2
      refine⟨_,rfl,y,rfl,Xg (J:=Its y) y.length (slen hy) (λi ys τ H1=>H1=H/\ys=((codes y).take i).map (λc=>V.bl (decide (c∈codes z)))/\∃v,τ=[v,some (.str z)]) ⟨rfl,rfl,none,rfl⟩ (λi ys τ H1 p=>?_) (λi ys τ H1 hi p=>hi) (λys τ H1 p=>Nat.le_refl _) (λi ys τ H1 x' H2 hi p yl=>?_) (λys τ H1 p l hl=>?_)⟩
      ·rw[p.2.1,bw,aG];omega
      ·obtain⟨rfl,rfl,v,rfl⟩:=p;obtain⟨rfl,c,hc,rfl⟩:=yl;refine⟨_,rfl,_,rfl,_,_,rfl,rfl,rfl,?_,_,rfl⟩;rw[Ru];exact(take_all (codes y) (λc=>V.bl (decide (c∈codes z))) i c hc).symm
      ·obtain⟨rfl,rfl,v,rfl⟩:=p;refine⟨l,(codes y).map (λc=>decide (c∈codes z)),rfl,SqL.of ?_,fin _ _ (λb o q=>?_) ?_⟩
       ·rw[Zf,<-hlen,aV,bA];rfl
       ·rw[Zj (Zi q hl)];exact q
       ·show _=YR n (codes z) (codes y);unfold YR lenB;rw[hlen,e1,e3,Bool.true_and,Bool.true_and,List.all_map];rfl
    ·refine⟨_,rfl,iteT (fin _ _ (Same.refl _) ?_)⟩;show false=YR n (codes z) (codes y);unfold YR lenB;have e3:decide ((1:Int)<=y.length)=false:=by simpa using e1
     rw[hlen,e3,Bool.false_and,Bool.false_and]
  |_=>exact absurd rfl e
theorem cLET:codes tLET=LET:=by decide +kernel
theorem Aa:codes tNAME=LET++FIG++[]:=by decide +kernel
theorem F9:codes tGROUP=LET++FIG++[46]:=by decide +kernel
theorem Nl{x:V}{n:Int}{z:Str}(h:RZ x n z=true):∃y c r,x=.str y/\codes y=c::r:=by
 cases x with
|str y=>
  have h':YR n (codes z) (codes y)=true:=h;unfold YR lenB at h';rw[Bool.and_eq_true,Bool.and_eq_true]at h';have h1:=of_decide_eq_true h'.1.1;cases e:codes y with
 |nil=>rw[e]at h1;simp at h1
 |cons c r=>exact⟨y,c,r,rfl,e⟩
|_=>exact absurd (show false=true from h) Bool.false_ne_true
theorem Tu{y:Str}{c:Nat}{r:List Nat}(e:codes y=c::r):atI y.cps.toList 0=some c:=by have e':y.cps.toList=c::r:=e;rw[e'];exact Zu (j:=0) rfl
theorem _root_.L2.Th.strLen{H:Hp}{y:Str}{T:String}(h:Th H (.str y) T):y.length<=1000:=by
 cases h with
|str z h=>exact h
theorem GW{x:V}{n:Int}{z:Str}(h:RZ x n z=false):Uj x n z=false:=by
 cases x with
|str y=>have h':YR n (codes z) (codes y)=false:=h;show(YR n (codes z) (codes y)&&_)=false;rw[h',Bool.false_and]
|_=>rfl
theorem Dk:FnScope ["thing"] ["thing"] (Zd En):=⟨rfl,rfl,rfl,by decide +kernel,rfl,by decide +kernel,by decide +kernel⟩
theorem LI(T:Txt K mg)(D:Df K mg "is_name" En ["thing"])(CT:Can P w K mg base 1 "is_text_of" ["thing","longest","signs"] Ms):Can P w K mg base 2 "is_name" ["thing"] (N5 8 tNAME):=by
 refine D.can Dk (λvs H Q E h=>?_) (λf cdv A outer s H vs Q E hr h=>?_)
 ·obtain⟨x,T',rfl,_⟩:=h;rfl
 ·obtain⟨x,T',rfl,th,k⟩:=h;obtain⟨t1,h1⟩:=T.ln;obtain⟨t2,h2⟩:=T.names;obtain⟨t3,h3⟩:=T.lets;refine⟨_,Ze (Zn (Xk (YG CT hr rfl (Zh (pv 0) (Zh (Z7 (v:=V.int 8) rfl h1 ⟨t1,rfl⟩) (Zh (Z7 (v:=V.str tNAME) rfl h2 ⟨t2,rfl⟩) Zk)))) (YF (Yp UU (Ym Pu (pv 0) Zb (λ_ _=>rfl)) (Z7 (v:=V.str tLET) rfl h3 ⟨t3,rfl⟩) (by with_unfolding_all rfl))))),?_⟩;refine⟨_,rfl,x,T',8,tNAME,rfl,th,λH' sm=>⟨_,rfl,?_⟩⟩;have fin:∀b,b=Uj x 8 tNAME->Q (.bl b) H':=λb e=>e▸k H' sm;refine ite2 (λe=>?_) (λe=>fin _ ?_)
  ·obtain⟨y,c,r,rfl,ey⟩:=Nl e;refine⟨_,rfl,y,0,c,rfl,rfl,slen th.strLen,Tu ey,_,_,rfl,rfl,fin _ ?_⟩;have e':YR 8 (codes tNAME) (codes y)=true:=e;show _=(YR 8 (codes tNAME) (codes y)&&decide ((codes y).getD 0 0∈LET));rw[Ru,e',Bool.true_and,cLET,ey];rfl
  ·exact(GW (by simpa using e)).symm
theorem Kf:FnScope ["thing"] ["thing"] (Zd Ko):=⟨rfl,rfl,rfl,by decide +kernel,rfl,by decide +kernel,by decide +kernel⟩
theorem WE(T:Txt K mg)(D:Df K mg "is_group_name" Ko ["thing"])(CT:Can P w K mg base 1 "is_text_of" ["thing","longest","signs"] Ms):Can P w K mg base 2 "is_group_name" ["thing"] (N5 12 tGROUP):=by
 refine D.can Kf (λvs H Q E h=>?_) (λf cdv A outer s H vs Q E hr h=>?_)
 ·obtain⟨x,T',rfl,_⟩:=h;rfl
 ·obtain⟨x,T',rfl,th,k⟩:=h;obtain⟨t1,h1⟩:=T.lg;obtain⟨t2,h2⟩:=T.groups;obtain⟨t3,h3⟩:=T.lets;refine⟨_,Ze (Zn (Xk (YG CT hr rfl (Zh (pv 0) (Zh (Z7 (v:=V.int 12) rfl h1 ⟨t1,rfl⟩) (Zh (Z7 (v:=V.str tGROUP) rfl h2 ⟨t2,rfl⟩) Zk)))) (YF (Yp UU (Ym Pu (pv 0) Zb (λ_ _=>rfl)) (Z7 (v:=V.str tLET) rfl h3 ⟨t3,rfl⟩) (by with_unfolding_all rfl))))),?_⟩;refine⟨_,rfl,x,T',12,tGROUP,rfl,th,λH' sm=>⟨_,rfl,?_⟩⟩;have fin:∀b,b=Uj x 12 tGROUP->Q (.bl b) H':=λb e=>e▸k H' sm;refine ite2 (λe=>?_) (λe=>fin _ ?_)
  ·obtain⟨y,c,r,rfl,ey⟩:=Nl e;refine⟨_,rfl,y,0,c,rfl,rfl,slen th.strLen,Tu ey,_,_,rfl,rfl,fin _ ?_⟩;have e':YR 12 (codes tGROUP) (codes y)=true:=e;show _=(YR 12 (codes tGROUP) (codes y)&&decide ((codes y).getD 0 0∈LET));rw[Ru,e',Bool.true_and,cLET,ey];rfl
  ·exact(GW (by simpa using e)).symm
end
end K1
namespace TB
open PySem L2 PySem.Spec PyProof.Rows
section
variable {P:Program}{w:World}{K:aa}{mg:Str->Option Value}{base:Heap}{C:Addr}
structure Txt(K:aa)(mg:Str->Option Value):Prop where
 turns:∃t,mg "MOST_TURNS"=some (.int 50 t)
 room:∃t,mg "MOST_ROOM"=some (.int 1000 t)
 way:∃t,mg "LONGEST_WAY"=some (.int 50 t)
 people:∃t,mg "MOST_PEOPLE"=some (.int 300 t)
 isi:mg "isinstance"=none
 str:mg "str"=none
 tup:mg "tuple"=none
 lst:mg "list"=none
 len:mg "len"=none
noncomputable def YA(r:V):V:=if(decide (r=.non)||K1.Zx r 0 1000)=true then .non else .str "number"
def Mr:Sp:=λvs H Q _=>∃p n r T,vs=[.ref p]/\H p=some (.tup [n,r])/\Th H r T/\Q (YA r) H
theorem Kh:FnScope ["row"] ["row"] (Zd T.f_wrong_place):=scO
theorem RA(G:Txt K mg)(D:Df K mg "wrong_place" T.f_wrong_place ["row"])(CI:Can P w K mg base 2 "is_within" ["thing","low","high"] K1.Xq):Can P w K mg base 3 "wrong_place" ["row"] Mr:=by
 obtain⟨t1,h1⟩:=G.room;refine D.cn Kh λf cdv A outer s H vs Q E hr h=>?_;obtain⟨p,n,r,T',rfl,hp,th,k⟩:=h;refine⟨_,Za (ZF (PW.pt (JN (Zq V0 (Ym Yd (pv 0) Zb (λ_ _=>rfl)) ZK (ZA _)) (XC (ZZ (YG CI hr rfl (Zh (Ym Yd (pv 0) Zb (λ_ _=>rfl)) (Zh Zb (Zh (Z7 (v:=V.int 1000) rfl h1 ⟨t1,rfl⟩) Zk)))))))) (Ze (Zn ZK)) Zr) (Ze (Zn ZH)),?_⟩;refine⟨_,rfl,p,[n,r],1,r,rfl,rfl,SqT.of hp,rfl,rfl,_,rfl,?_⟩;unfold YA at k;refine ite2 (λe=>?_) (λe=>?_)
 ·rw[if_pos (by simp[e])]at k;exact iteT k
 ·refine⟨_,rfl,p,[n,r],1,r,rfl,rfl,SqT.of hp,rfl,r,T',0,1000,rfl,th,_,rfl,?_⟩;refine ite2 (λe2=>?_) (λe2=>?_)
  ·rw[if_pos (by simp[e2])]at k;exact k
  ·rw[if_neg (by simpa using⟨by simpa using e,by simpa using e2⟩)]at k;exact k
noncomputable def ZY(x:V)(kvs:List (Key×V)):Bool:=match x with
|.str z=>(valV kvs (.inr z)).isSome
|_=>false
def N6:Sp:=λvs H Q _=>∃x T d kvs,vs=[x,.ref d]/\Th H x T/\H d=some (.dK kvs)/\Q (.bl (ZY x kvs)) H
theorem Dm:FnScope ["thing","names"] ["thing","names"] (Zd T.f_is_known):=scO
theorem NO(G:Txt K mg)(D:Df K mg "is_known" T.f_is_known ["thing","names"]):Can P w K mg base 1 "is_known" ["thing","names"] N6:=by
 refine D.cn Dm λf cdv A outer s H vs Q E hr h=>?_;obtain⟨x,T',d,kvs,rfl,th,hd,k⟩:=h;refine⟨_,Ze (Zn (Xk (X1 (c:="str") (pv 0) rfl G.isi rfl G.str PJ) (YF (Fc (KS (YX hr) (pv 0) (pv 1)))))),?_⟩;refine⟨_,rfl,_,_,_,_,rfl,th.ty,th.kitS,_,rfl,?_⟩;have fin:∀b,b=ZY x kvs->Q (.bl b) H:=λb e=>e▸k;refine ite2 (λe=>?_) (λe=>fin _ ?_)
 ·obtain⟨z,rfl⟩:∃z,x=.str z:=by cases th<;>first|exact⟨_,rfl⟩|(exact absurd (show false=true from e) Bool.false_ne_true)
  exact⟨_,rfl,_,rfl,d,_,rfl,DGet.k (k:=cA z) hd,k⟩
 ·cases th<;>first|rfl|(exact absurd rfl e)
end
end TB
namespace L2
open PySem PySem.Spec PyProof.Rows
theorem XM:bF "tuple"=some (.type "tuple"):=by decide +kernel
theorem JI:bF "list"=some (.type "list"):=by decide +kernel
theorem Th.kitT{K:aa}{H:Hp}{v:V}{T:String}(h:Th H v T):aH K (.type T) (.type "tuple")=some (decide (T="tuple")):=by cases h<;>(unfold aH;first|rfl|decide +kernel|(show _=_;simp;rfl))
end L2
namespace TB
open PySem L2 PySem.Spec PyProof.Rows
noncomputable def Yc(g:Bool)(x:V):Bool:=if g=true then K1.Uj x 12 K1.tGROUP else K1.Uj x 8 K1.tNAME
noncomputable def begV(g:Bool)(n:Nat)(kvs:List (Key×V))(xs:List V):V:=if xs.length≠n then .str "form" else if Yc g (xs.getD 0 .non)=false then .str "name" else if ZY (xs.getD 0 .non) kvs=true then .str "double" else .non
def Row(H:Hp)(v:V)(r:Option (List V)):Prop:=match r with
|none=>∃T,Th H v T/\T≠"tuple"
|some xs=>∃p,v=.ref p/\H p=some (.tup xs)/\∀x∈xs,∃T,Th H x T
noncomputable def begR(g:Bool)(n:Nat)(kvs:List (Key×V)):Option (List V)->V
|none=>.str "form"
|some xs=>begV g n kvs xs
structure Sizes(K:aa)(w:World)(mg:Str->Option Value):Prop where
 at_:∃a,mg "ROW_SIZES"=some (.ref a)/\XN K w a "places" (.int 2)/\XN K w a "rides" (.int 6)/\XN K w a "ways" (.int 5)/\XN K w a "groups" (.int 4)
noncomputable def Qh:List (Str×Nat):=[("places",2),("rides",6),("ways",5),("groups",4)]
def X9:Sp:=λvs H Q _=>∃z n row r d kvs,vs=[.str z,row,.ref d]/\(z,n)∈Qh/\Row H row r/\H d=some (.dK kvs)/\∀H',Same H H'->Q (begR (decide (z="groups")) n kvs r) H'
section
variable {P:Program}{w:World}{K:aa}{mg:Str->Option Value}{base:Heap}{C:Addr}
theorem Ki:FnScope ["part","row","names_ahead","fits"] ["part","row","names_ahead"] (Zd T.f_wrong_beginning):=scO
theorem RC(G:Txt K mg)(Z:Sizes K w mg)(D:Df K mg "wrong_beginning" T.f_wrong_beginning ["part","row","names_ahead"])(CN:Can P w K mg base 2 "is_name" ["thing"] (K1.N5 8 K1.tNAME))(CG:Can P w K mg base 2 "is_group_name" ["thing"] (K1.N5 12 K1.tGROUP)):Can P w K mg base 3 "wrong_beginning" ["part","row","names_ahead"] X9:=by
 obtain⟨aS,hS,k1,k2,k3,k4⟩:=Z.at_;have nd:(["part","row","names_ahead","fits"]:List Str).Nodup:=by decide +kernel
 refine D.cn Ki λf cdv A outer s H vs Q E hr h=>?_;obtain⟨z,n,row,r,d,kvs,rfl,hz,hrow,hd,k⟩:=h;have hK:XN K w aS z (.int n):=by simp only[Qh,ao,fB,aF,or_false]at hz;rcases hz with⟨rfl,rfl⟩|⟨rfl,rfl⟩|⟨rfl,rfl⟩|⟨rfl,rfl⟩<;>assumption
 refine⟨_,Za (ZF (PW.pt (JN (Z9 (ZZ (X1 (c:="tuple") (pv 1) rfl G.isi rfl G.tup XM))) (XC (Zq MJ (Zy JH rfl G.len aZ (Zh (pv 1) Zk)) (SG (Z7 (v:=V.ref aS) rfl hS rfl) (pv 0) (λ_ _=>rfl)) (ZA _))))) (Ze (Zn ZH)) Zr) (Za (Yb (i:=3) nd rfl (aK rfl) (Qg (Zq Xd (pv 0) ZH (ZA _)) (YG CG hr rfl (Zh (Ym Yd (pv 1) Zb (λ_ _=>rfl)) Zk)) (YG CN hr rfl (Zh (Ym Yd (pv 1) Zb (λ_ _=>rfl)) Zk)))) (Za (ZF (Z9 (ZZ (pv 3))) (Ze (Zn ZH)) Zr) (Za (ZF (EW (KS (YX hr) (Ym Yd (pv 1) Zb (λ_ _=>rfl)) (pv 2))) (Ze (Zn ZH)) Zr) (Ze (Zn ZK))))),?_⟩;cases r with
|none=>obtain⟨T',th,hT⟩:=hrow;refine⟨_,rfl,_,_,_,_,rfl,th.ty,th.kitT,_,rfl,?_⟩;rw[decide_eq_false hT];refine iteT ?_;exact k H (Same.refl H)
|some xs=>
  obtain⟨p,rfl,hp,hx⟩:=hrow;have th:Th H (.ref p) "tuple":=.tup hp;refine⟨_,rfl,_,_,_,_,rfl,th.ty,th.kitT,_,rfl,?_⟩;refine iteF ?_;refine⟨_,rfl,p,xs,rfl,.inr (SqT.of hp),_,rfl,aS,z,.int n,rfl,rfl,hK,rfl,_,rfl,?_⟩;refine ite2 (λe=>?_) (λe=>?_)
  ·have hl:xs.length≠n:=λq=>by rw[q]at e;simp at e
   show Q (.str "form") H;have q:=k H (Same.refl H);simpa[begR,begV,hl]using q
  ·have hl:xs.length=n:=by
    have e':(xs.length:Int)=n:=by simpa using e
    omega
   obtain⟨x,r,rfl⟩:∃x r,xs=x::r:=by
    cases xs with
   |nil=>simp only[Qh,ao,fB,aF,or_false]at hz;simp at hl;omega
   |cons x r=>exact⟨x,r,rfl⟩
   obtain⟨T',tx⟩:=hx x (by simp);have a0:∀(u:V)(l:List V),atI (u::l) 0=some u:=λu l=>Zu (xs:=u::l) (j:=0) rfl;have fin:∀b H',Same H H'->b=Yc (decide (z="groups")) x->(if(!b)=true then Q (.str "name") H' else if ZY x kvs=true then Q (.str "double") H' else Q .non H'):=by
    rintro b H' sm rfl;have q:=k H' sm;simp only[begR,begV,hl,ne_eq,not_true_eq_false,if_false,List.getD_cons_zero]at q;cases hb:Yc (decide (z="groups")) x with
   |false=>rw[if_pos (by decide)];rw[hb,if_pos rfl]at q;exact q
   |true=>
     rw[if_neg (by decide)];rw[hb,if_neg (by decide)]at q;by_cases hk:ZY x kvs=true
     ·rw[if_pos hk]at q ⊢;exact q
     ·rw[if_neg hk]at q ⊢;exact q
   have isS:∀b,b=Yc (decide (z="groups")) x->b=true->∃y,x=.str y:=by
    rintro _ rfl hb;unfold Yc at hb;cases x with
   |str y=>exact⟨y,rfl⟩
   |_=>split at hb<;>cases hb
   refine⟨_,rfl,rfl,_,rfl,?_⟩;refine ite2 (λe2=>?_) (λe2=>?_)
   ·refine⟨_,rfl,p,x::r,0,x,rfl,rfl,SqT.of hp,a0 x r,x,T',rfl,tx,λH' sm=>?_⟩;have hb:K1.Uj x 12 K1.tGROUP=Yc (decide (z="groups")) x:=by
     have e3:z="groups":=by simpa using e2
     simp[Yc,e3]
    have q:=fin _ H' sm hb;refine⟨_,rfl,_,rfl,?_⟩;refine ite2 (λe3=>?_) (λe3=>?_)
    ·rw[if_pos e3]at q;exact q
    ·rw[if_neg e3]at q;obtain⟨y,rfl⟩:=isS _ hb (by simpa using e3);exact⟨_,rfl,p,_::r,0,_,rfl,rfl,SqT.of (sm _ _ hp),a0 _ r,_,rfl,d,_,rfl,DGet.k (k:=cA y) (sm _ _ hd),_,rfl,q⟩
   ·refine⟨_,rfl,p,x::r,0,x,rfl,rfl,SqT.of hp,a0 x r,x,T',rfl,tx,λH' sm=>?_⟩;have hb:K1.Uj x 8 K1.tNAME=Yc (decide (z="groups")) x:=by
     have e3:z≠"groups":=by simpa using e2
     simp[Yc,e3]
    have q:=fin _ H' sm hb;refine⟨_,rfl,_,rfl,?_⟩;refine ite2 (λe3=>?_) (λe3=>?_)
    ·rw[if_pos e3]at q;exact q
    ·rw[if_neg e3]at q;obtain⟨y,rfl⟩:=isS _ hb (by simpa using e3);exact⟨_,rfl,p,_::r,0,_,rfl,rfl,SqT.of (sm _ _ hp),a0 _ r,_,rfl,d,_,rfl,DGet.k (k:=cA y) (sm _ _ hd),_,rfl,q⟩
end
end TB
namespace L2
open PySem PySem.Spec PyProof.Rows
def DfM(K:aa)(C:Addr)(m qual:Str)(st:Stmt)(ps:List Str):Prop:=∃f fd,Fun K m qual st f fd/\Meth K C m f/\Binds K fd ps []
def CanM(P:Program)(w:World)(K:aa)(mg:Str->Option Value)(base:Heap)(CX:CXT)(k:Nat)(C:Addr)(m:Str)(ps:List Str)(sp:Sp):Prop:=∃f fd,FnOk P w K mg base CX k f fd ps sp/\Meth K C m f/\Binds K fd ps []
section
variable {P:Program}{w:World}{K:aa}{mg:Str->Option Value}{base:Heap}{C:Addr}{m qual:Str}{st:Stmt}{N ps:List Str}{k:Nat}{sp:Sp}
theorem DfM.can(D:DfM K C m qual st ps)(S:FnScope N ps (Zd st))(len:∀vs H Q E,sp vs H Q E->vs.length=ps.length)(hbody:∀(f:Addr)(cdv:Value)(A:bz)(outer:List Env)(s:ag)(H:Hp)(vs:List V)(Q:VK)(E:XK),Room k (A.deeper (dI qual (Zd st) s.heap.objs.size f cdv))->sp vs H Q E ->∃t,PSs (cxOf CX0 P w K mg base N qual (Zd st) f cdv A outer s H E).nox (Yh st) t/\t {nx:=λ_ H'=>Q .non H',rt:=Q} (start N vs) H):CanM P w K mg base CX0 (k+1) C m ps sp:=by obtain⟨f,fd,F,me,b⟩:=D;exact⟨f,fd,F.ok S len (λcdv A outer s H vs Q E hr h=>hbody f cdv A outer s H vs Q E hr h),me,b⟩
theorem DfM.cn(D:DfM K C m qual st ps)(S:FnScope N ps (Zd st))(hbody:∀(f:Addr)(cdv:Value)(A:bz)(outer:List Env)(s:ag)(H:Hp)(vs:List V)(Q:VK)(E:XK),Room k (A.deeper (dI qual (Zd st) s.heap.objs.size f cdv))->sp vs H Q E ->∃t,PSs (cxOf CX0 P w K mg base N qual (Zd st) f cdv A outer s H E).nox (Yh st) t/\t {nx:=λ_ H'=>Q .non H',rt:=Q} (start N vs) H)(len:∀vs H Q E,sp vs H Q E->vs.length=ps.length:=by intro _ _ _ _ h;repeat (obtain⟨a,h⟩:=h;first|(subst a;rfl)|skip)):CanM P w K mg base CX0 (k+1) C m ps sp:=D.can S len hbody
end
section
variable {X:Cx}{CX:CXT}{k:Nat}{C:Addr}{ps:List Str}{sp:Sp}{E:XK}{m:Str}{pos apos:Pos}{e o:Expr}{es:List Expr}{ta:TE}{t:TA}
theorem YH{pl:Sem Bool}(c:CanM X.prog X.w X.K X.mg X.base CX k C m ps sp)(cl:Cls X.K C)(hx:Passes CX X E)(hr:Room k X.A)(he:PE X o ta)(ha:PA X (e::es) t)
  (hst:aN (e::es) X.env=(false,eval e X.env)::aN es X.env:=by rfl) (hpl:(cf pos (aN es X.env)).any (·.1)=false:=by rfl)
  (ht:eval (.Call (.Attribute o m apos) (e::es) [] pos) X.env=(do
   let ov <-eval o X.env
   gm apos.atName
   let (f,first) <-dY [ov] (eU ov m pl)
   f_ pos f first (cf pos (aN (e::es) X.env)) (d8 pos (cW [] X.env))):=by rfl):
  PE X (.Call (.Attribute o m apos) (e::es) [] pos) (Nm C m sp [] E ta t):=by
 obtain⟨f,fd,F,me,b⟩:=c
 exact Du he cl me F hr b .nil hx ha hst hpl ht
end
end L2
namespace TB
open PySem L2 PySem.Spec PyProof.Rows
noncomputable def fields:List Str:=["turns","places","room_by_place","rides","ride_by_name","ways","way_by_name","groups","group_by_name"]
structure TCl(K:aa)(C:Addr):Prop where
 cl:Cls K C
 na:∀f∈fields,JK K C f
structure Tab(H:Hp)(C t:Addr)(fs:List (Str×V)):Prop where
 at_:∃dx,H t=some (.ins C dx fs)
 only:∀g,g∉fields->fs.lookup g=none
section
variable {P:Program}{w:World}{K:aa}{mg:Str->Option Value}{base:Heap}{C:Addr}
def GX(C:Addr)(fld:Str):Sp:=λvs H Q _=>∃t x T fs d kvs,vs=[.ref t,x]/\Tab H C t fs/\fs.lookup fld=some (.ref d)/\H d=some (.dK kvs)/\Th H x T/\Q (.bl (ZY x kvs)) H
theorem HA:FnScope ["self","thing"] ["self","thing"] (Zd T.m_Table_is_place):=scO
theorem G5(Z:TCl K C)(D:DfM K C "is_place" "Table.is_place" T.m_Table_is_place ["self","thing"])(CK:Can P w K mg base 1 "is_known" ["thing","names"] N6):CanM P w K mg base CX0 2 C "is_place" ["self","thing"] (GX C "room_by_place"):=by refine D.cn HA λf cdv A outer s H vs Q E hr h=>?_;obtain⟨t,x,T',fs,d,kvs,rfl,⟨⟨dx,ht⟩,_⟩,hl,hd,th,k⟩:=h;refine⟨_,Ze (Zn (YG CK hr rfl (Zh (pv 1) (Zh (Z2 (pv 0) rfl) Zk)))),?_⟩;exact⟨_,rfl,_,rfl,t,C,dx,fs,_,rfl,ht,Z.cl,Z.na _ (by simp[fields]),hl,x,T',d,kvs,rfl,th,hd,k⟩
noncomputable def Ul(x:V)(kvs:List (Key×V)):Bool:=match x with
|.str z=>decide (valV kvs (.inr z)=some .non)
|_=>false
theorem Yx{x:V}{kvs:List (Key×V)}(h:ZY x kvs=true):∃z v,x=.str z/\valV kvs (.inr z)=some v:=by
 cases x with
|str z=>have h':(valV kvs (.inr z)).isSome=true:=h;exact⟨z,_,rfl,(Option.some_get h').symm⟩
|_=>cases h
theorem Rv{x:V}{kvs:List (Key×V)}(h:ZY x kvs=false):Ul x kvs=false:=by
 cases x with
|str z=>
  have h':(valV kvs (.inr z)).isSome=false:=h;show decide (valV kvs (.inr z)=some .non)=false;cases e:valV kvs (.inr z)with
 |none=>simp
 |some v=>rw[e]at h';cases h'
|_=>rfl
def Mv(C:Addr):Sp:=λvs H Q _=>∃t x T fs d kvs,vs=[.ref t,x]/\Tab H C t fs/\fs.lookup ("room_by_place":Str)=some (.ref d)/\H d=some (.dK kvs)/\Th H x T/\Q (.bl (Ul x kvs)) H
theorem Kl:FnScope ["self","thing"] ["self","thing"] (Zd T.m_Table_is_home):=scO
theorem M0(Z:TCl K C)(D:DfM K C "is_home" "Table.is_home" T.m_Table_is_home ["self","thing"])(CP:CanM P w K mg base CX0 2 C "is_place" ["self","thing"] (GX C "room_by_place")):CanM P w K mg base CX0 3 C "is_home" ["self","thing"] (Mv C):=by
 refine D.cn Kl λf cdv A outer s H vs Q E hr h=>?_;obtain⟨t,x,T',fs,d,kvs,rfl,tb,hl,hd,th,k⟩:=h;obtain⟨dx,ht⟩:=id tb.at_;refine⟨_,Ze (Zn (Xk (YH CP Z.cl Ys hr (pv 0) (Zh (pv 1) Zk)) (YF (Yp V0 (Pk (YX hr) (Z2 (pv 0) rfl) (pv 1) (λ_ _=>rfl)) ZK (by with_unfolding_all rfl))))),?_⟩;refine mthV ht (tb.only _ (by decide +kernel)) ⟨_,rfl,t,x,T',fs,d,kvs,rfl,tb,hl,hd,th,_,rfl,?_⟩;have fin:∀b,b=Ul x kvs->Q (.bl b) H:=λb e=>e▸k;refine ite2 (λe=>?_) (λe=>fin _ ?_)
 ·obtain⟨z,v,rfl,hv⟩:=Yx e;refine⟨_,rfl,t,C,dx,fs,_,rfl,ht,Z.cl,Z.na _ (by simp[fields]),hl,_,rfl,d,v,rfl,(by rw[<-hv];exact DGet.k (k:=cA z) hd),rfl,fin _ ?_⟩;show decide (v=.non)=decide (valV kvs (.inr z)=some .non);rw[hv];simp
 ·have e':ZY x kvs=false:=by simpa using e
  exact(Rv e').symm
noncomputable def Y7(kvs:List (Key×V))(s g:V):V:=if(!ZY s kvs||!ZY g kvs)=true then .str "place" else if Ul s kvs=true then .str "home" else if g=s then .str "alike" else .non
def Q0(C:Addr):Sp:=λvs H Q _=>∃t x y T T' fs d kvs,vs=[.ref t,x,y]/\Tab H C t fs/\fs.lookup ("room_by_place":Str)=some (.ref d)/\H d=some (.dK kvs)/\Th H x T/\Th H y T'/\Q (Y7 kvs x y) H
theorem ES:FnScope ["table","start","goal"] ["table","start","goal"] (Zd T.f_wrong_ends):=scO
theorem LP(Z:TCl K C)(D:Df K mg "wrong_ends" T.f_wrong_ends ["table","start","goal"])(CP:CanM P w K mg base CX0 2 C "is_place" ["self","thing"] (GX C "room_by_place"))(CH:CanM P w K mg base CX0 3 C "is_home" ["self","thing"] (Mv C)):Can P w K mg base 4 "wrong_ends" ["table","start","goal"] (Q0 C):=by
 refine D.cn ES λf cdv A outer s H vs Q E hr h=>?_;obtain⟨t,x,y,T1,T2,fs,d,kvs,rfl,tb,hl,hd,tx,ty,k⟩:=h;obtain⟨dx,ht⟩:=id tb.at_;have hr2:Room 2 (A.deeper (dI "wrong_ends" (Zd T.f_wrong_ends) s.heap.objs.size f cdv)):=hr.mono (by decide);refine⟨_,Za (ZF (PW.pt (JN (Z9 (ZZ (YH CP Z.cl Ys hr2 (pv 0) (Zh (pv 1) Zk)))) (XC (Z9 (ZZ (YH CP Z.cl Ys hr2 (pv 0) (Zh (pv 2) Zk))))))) (Ze (Zn ZH)) Zr) (Za (ZF (ZZ (YH CH Z.cl Ys hr (pv 0) (Zh (pv 1) Zk))) (Ze (Zn ZH)) Zr) (Za (ZF (Zq Xd (pv 2) (pv 1) (ZA _)) (Ze (Zn ZH)) Zr) (Ze (Zn ZK)))),?_⟩;unfold Y7 at k;refine mthV ht (tb.only _ (by decide +kernel)) ⟨_,rfl,t,x,T1,fs,d,kvs,rfl,tb,hl,hd,tx,_,rfl,?_⟩;refine ite2 (λe=>?_) (λe=>?_)
 ·rw[if_pos (by rw[e];rfl)]at k;exact iteT k
 ·refine mthV ht (tb.only _ (by decide +kernel)) ⟨_,rfl,t,y,T2,fs,d,kvs,rfl,tb,hl,hd,ty,_,rfl,?_⟩;refine ite2 (λe2=>?_) (λe2=>?_)
  ·rw[if_pos (by rw[e2];simp)]at k;exact k
  ·have kx:ZY x kvs=true:=by simpa using e
   have ky:ZY y kvs=true:=by simpa using e2
   rw[if_neg (by rw[kx,ky];decide)]at k;refine mthV ht (tb.only _ (by decide +kernel)) ⟨_,rfl,t,x,T1,fs,d,kvs,rfl,tb,hl,hd,tx,_,rfl,?_⟩;refine ite2 (λe3=>?_) (λe3=>?_)
   ·rw[if_pos e3]at k;exact k
   ·rw[if_neg e3]at k;obtain⟨zx,_,rfl,_⟩:=Yx kx;obtain⟨zy,_,rfl,_⟩:=Yx ky;refine⟨_,rfl,_,rfl,rfl,_,rfl,?_⟩;refine ite2 (λe4=>?_) (λe4=>?_)
    ·rw[if_pos (by simpa using e4)]at k;exact k
    ·rw[if_neg (by simpa using e4)]at k;exact k
noncomputable def Ub(kvs:List (Key×V))(n:Int)(s l g a m:V):V:=if Y7 kvs s g≠.non then Y7 kvs s g else match l with
 |.int i=>if(!K1.Zx (.int i) 0 (n-1)||!K1.Zx a (i+1) n)=true then .str "turn" else if(!K1.Zx m 0 1000)=true then .str "number" else .non
 |_=>.str "turn"
noncomputable def wayV(kvs:List (Key×V))(s g l m:V):V:=if Y7 kvs s g≠.non then Y7 kvs s g else if(!K1.Zx l 1 50||!K1.Zx m 0 1000)=true then .str "number" else .non
theorem at0{α:Type}{xs:List α}(j:Nat){v:α}(h:xs[j]?=some v):atI xs (j:Int)=some v:=Zu h
def QZ(C:Addr):Sp:=λvs H Q _=>∃t p x0 x1 x2 x3 x4 x5 fs d kvs n,vs=[.ref t,.ref p]/\Tab H C t fs/\fs.lookup ("room_by_place":Str)=some (.ref d)/\fs.lookup ("turns":Str)=some (.int n)/\H d=some (.dK kvs) /\H p=some (.tup [x0,x1,x2,x3,x4,x5])/\(∀x∈[x0,x1,x2,x3,x4,x5],∃T,Th H x T)/\Q (Ub kvs n x1 x2 x3 x4 x5) H
theorem ER:FnScope ["table","row","leave","why"] ["table","row"] (Zd T.f_wrong_ride):=scO
theorem LF(G:Txt K mg)(Z:TCl K C)(D:Df K mg "wrong_ride" T.f_wrong_ride ["table","row"])(CI:Can P w K mg base 2 "is_within" ["thing","low","high"] K1.Xq)(CE:Can P w K mg base 4 "wrong_ends" ["table","start","goal"] (Q0 C)):Can P w K mg base 5 "wrong_ride" ["table","row"] (QZ C):=by
 obtain⟨t1,h1⟩:=G.room;have nd:(["table","row","leave","why"]:List Str).Nodup:=by decide +kernel
 refine D.cn ER λf cdv A outer s H vs Q E hr h=>?_;obtain⟨t,p,x0,x1,x2,x3,x4,x5,fs,d,kvs,n,rfl,tb,hl,hn,hd,hp,hx,k⟩:=h;obtain⟨dx,ht⟩:=id tb.at_;obtain⟨T1,h01⟩:=hx x1 (by simp);obtain⟨T2,h02⟩:=hx x2 (by simp);obtain⟨T3,h03⟩:=hx x3 (by simp);obtain⟨T4,h04⟩:=hx x4 (by simp);obtain⟨T5,h05⟩:=hx x5 (by simp);have hr2:Room 2 (A.deeper (dI "wrong_ride" (Zd T.f_wrong_ride) s.heap.objs.size f cdv)):=hr.mono (by decide);refine⟨_,Za (Yb (i:=2) nd rfl (aK rfl) (Ym Yd (pv 1) Zb (λ_ _=>rfl))) (Za (Yb (i:=3) nd rfl (aK rfl) (YG CE hr rfl (Zh (pv 0) (Zh (Ym Yd (pv 1) Zb (λ_ _=>rfl)) (Zh (Ym Yd (pv 1) Zb (λ_ _=>rfl)) Zk))))) (Za (ZF (Zq JA (pv 3) ZK (ZA _)) (Ze (Zn (pv 3))) Zr) (Za (ZF (PW.pt (JN (Z9 (ZZ (YG CI hr2 rfl (Zh (pv 2) (Zh Zb (Zh (Zp XE (Z2 (pv 0) rfl) Zb) Zk)))))) (XC (Z9 (ZZ (YG CI hr2 rfl (Zh (Ym Yd (pv 1) Zb (λ_ _=>rfl)) (Zh (Zp ZG (pv 2) Zb) (Zh (Z2 (pv 0) rfl) Zk))))))))) (Ze (Zn ZH)) Zr) (Za (ZF (Z9 (ZZ (YG CI hr2 rfl (Zh (Ym Yd (pv 1) Zb (λ_ _=>rfl)) (Zh Zb (Zh (Z7 (v:=V.int 1000) rfl h1 ⟨t1,rfl⟩) Zk)))))) (Ze (Zn ZH)) Zr) (Ze (Zn ZK)))))),?_⟩;refine⟨_,rfl,p,_,2,x2,rfl,rfl,SqT.of hp,at0 2 rfl,?_⟩;refine⟨_,rfl,_,rfl,p,_,1,x1,rfl,rfl,SqT.of hp,at0 1 rfl,_,rfl,p,_,3,x3,rfl,rfl,SqT.of hp,at0 3 rfl,t,x1,x3,T1,T3,fs,d,kvs,rfl,tb,hl,hd,h01,h03,?_⟩;unfold Ub at k;refine⟨_,rfl,rfl,_,rfl,?_⟩;refine ite2 (λe=>?_) (λe=>?_)
 ·have e':Y7 kvs x1 x3≠.non:=by simpa using e
  rw[if_pos e']at k;exact⟨_,rfl,k⟩
 ·have e':¬Y7 kvs x1 x3≠.non:=by simpa using e
  rw[if_neg e']at k;refine⟨_,rfl,_,rfl,t,C,dx,fs,_,rfl,ht,Z.cl,Z.na _ (by simp[fields]),hn,_,_,rfl,rfl,x2,T2,0,n-1,rfl,h02,_,rfl,?_⟩;refine ite2 (λe2=>?_) (λe2=>?_)
  ·have q:Q (.str "turn") H:=by
    cases x2 with
   |int i=>
     have k':Q (if(!K1.Zx (.int i) 0 (n-1)||!K1.Zx x4 (i+1) n)=true then V.str "turn" else if(!K1.Zx x5 0 1000)=true then .str "number" else .non) H:=k
     rw[if_pos (by rw[e2];rfl)]at k';exact k'
   |_=>exact k
   exact iteT q
  ·obtain⟨i,rfl⟩:∃i,x2=.int i:=by
    cases x2 with
   |int i=>exact⟨i,rfl⟩
   |_=>exact absurd rfl e2
   have k':Q (if(!K1.Zx (.int i) 0 (n-1)||!K1.Zx x4 (i+1) n)=true then V.str "turn" else if(!K1.Zx x5 0 1000)=true then .str "number" else .non) H:=k
   have w1:K1.Zx (.int i) 0 (n-1)=true:=by simpa using e2
   rw[w1]at k';refine⟨_,rfl,p,_,4,x4,rfl,rfl,SqT.of hp,at0 4 rfl,_,rfl,_,_,rfl,rfl,_,rfl,t,C,dx,fs,_,rfl,ht,Z.cl,Z.na _ (by simp[fields]),hn,x4,T4,i+1,n,rfl,h04,_,rfl,?_⟩;refine ite2 (λe3=>?_) (λe3=>?_)
   ·rw[if_pos (by rw[e3];rfl)]at k';exact k'
   ·have w2:K1.Zx x4 (i+1) n=true:=by simpa using e3
    rw[w2,if_neg (by decide)]at k';refine⟨_,rfl,p,_,5,x5,rfl,rfl,SqT.of hp,at0 5 rfl,x5,T5,0,1000,rfl,h05,_,rfl,?_⟩;refine ite2 (λe4=>?_) (λe4=>?_)
    ·rw[if_pos e4]at k';exact k'
    ·rw[if_neg e4]at k';exact k'
noncomputable def Xm(kvs:List (Key×V))(n pa:Int)(p t m:V):V:=if(!ZY p kvs)=true then .str "place" else if(!K1.Zx t 0 n)=true then .str "turn" else match m with
 |.int i=>if(!K1.Zx (.int i) 0 300)=true then .str "number" else if pa+i>300 then .str "people" else .non
 |_=>.str "number"
def W5(C:Addr):Sp:=λvs H Q _=>∃t p x0 x1 x2 x3 x4 fs d kvs,vs=[.ref t,.ref p]/\Tab H C t fs/\fs.lookup ("room_by_place":Str)=some (.ref d)/\H d=some (.dK kvs) /\H p=some (.tup [x0,x1,x2,x3,x4])/\(∀x∈[x0,x1,x2,x3,x4],∃T,Th H x T)/\Q (wayV kvs x1 x2 x3 x4) H
theorem Hy:FnScope ["table","row","why"] ["table","row"] (Zd T.f_wrong_way):=scO
theorem DV(G:Txt K mg)(Z:TCl K C)(D:Df K mg "wrong_way" T.f_wrong_way ["table","row"])(CI:Can P w K mg base 2 "is_within" ["thing","low","high"] K1.Xq)(CE:Can P w K mg base 4 "wrong_ends" ["table","start","goal"] (Q0 C)):Can P w K mg base 5 "wrong_way" ["table","row"] (W5 C):=by
 obtain⟨t1,h1⟩:=G.room;obtain⟨t2,h2⟩:=G.way;have nd:(["table","row","why"]:List Str).Nodup:=by decide +kernel
 refine D.cn Hy λf cdv A outer s H vs Q E hr h=>?_;obtain⟨t,p,x0,x1,x2,x3,x4,fs,d,kvs,rfl,tb,hl,hd,hp,hx,k⟩:=h;obtain⟨dx,ht⟩:=id tb.at_;obtain⟨T1,h01⟩:=hx x1 (by simp);obtain⟨T2,h02⟩:=hx x2 (by simp);obtain⟨T3,h03⟩:=hx x3 (by simp);obtain⟨T4,h04⟩:=hx x4 (by simp);have hr2:Room 2 (A.deeper (dI "wrong_way" (Zd T.f_wrong_way) s.heap.objs.size f cdv)):=hr.mono (by decide);refine⟨_,Za (Yb (i:=2) nd rfl (aK rfl) (YG CE hr rfl (Zh (pv 0) (Zh (Ym Yd (pv 1) Zb (λ_ _=>rfl)) (Zh (Ym Yd (pv 1) Zb (λ_ _=>rfl)) Zk))))) (Za (ZF (Zq JA (pv 2) ZK (ZA _)) (Ze (Zn (pv 2))) Zr) (Za (ZF (PW.pt (JN (Z9 (ZZ (YG CI hr2 rfl (Zh (Ym Yd (pv 1) Zb (λ_ _=>rfl)) (Zh Zb (Zh (Z7 (v:=V.int 50) rfl h2 ⟨t2,rfl⟩) Zk)))))) (XC (Z9 (ZZ (YG CI hr2 rfl (Zh (Ym Yd (pv 1) Zb (λ_ _=>rfl)) (Zh Zb (Zh (Z7 (v:=V.int 1000) rfl h1 ⟨t1,rfl⟩) Zk))))))))) (Ze (Zn ZH)) Zr) (Ze (Zn ZK)))),?_⟩;refine⟨_,rfl,_,rfl,p,_,1,x1,rfl,rfl,SqT.of hp,at0 1 rfl,_,rfl,p,_,2,x2,rfl,rfl,SqT.of hp,at0 2 rfl,t,x1,x2,T1,T2,fs,d,kvs,rfl,tb,hl,hd,h01,h02,?_⟩;unfold wayV at k;refine⟨_,rfl,rfl,_,rfl,?_⟩;refine ite2 (λe=>?_) (λe=>?_)
 ·have e':Y7 kvs x1 x2≠.non:=by simpa using e
  rw[if_pos e']at k;exact⟨_,rfl,k⟩
 ·have e':¬Y7 kvs x1 x2≠.non:=by simpa using e
  rw[if_neg e']at k;refine⟨_,rfl,p,_,3,x3,rfl,rfl,SqT.of hp,at0 3 rfl,x3,T3,1,50,rfl,h03,_,rfl,?_⟩;refine ite2 (λe2=>?_) (λe2=>?_)
  ·rw[if_pos (by rw[e2];rfl)]at k;exact iteT k
  ·have w1:K1.Zx x3 1 50=true:=by simpa using e2
   rw[w1]at k;refine⟨_,rfl,p,_,4,x4,rfl,rfl,SqT.of hp,at0 4 rfl,x4,T4,0,1000,rfl,h04,_,rfl,?_⟩;refine ite2 (λe3=>?_) (λe3=>?_)
   ·rw[if_pos (by rw[e3];rfl)]at k;exact k
   ·have w2:K1.Zx x4 0 1000=true:=by simpa using e3
    rw[w2,if_neg (by decide)]at k;exact k
def N7(C:Addr):Sp:=λvs H Q _=>∃t p x0 x1 x2 x3 fs d kvs n pa,vs=[.ref t,.ref p,.int pa]/\Tab H C t fs/\fs.lookup ("room_by_place":Str)=some (.ref d)/\fs.lookup ("turns":Str)=some (.int n)/\H d=some (.dK kvs) /\H p=some (.tup [x0,x1,x2,x3])/\(∀x∈[x0,x1,x2,x3],∃T,Th H x T)/\Q (Xm kvs n pa x1 x2 x3) H
theorem Dn:FnScope ["table","row","people_ahead"] ["table","row","people_ahead"] (Zd T.f_wrong_group):=scO
theorem RB(G:Txt K mg)(Z:TCl K C)(D:Df K mg "wrong_group" T.f_wrong_group ["table","row","people_ahead"])(CI:Can P w K mg base 2 "is_within" ["thing","low","high"] K1.Xq)(CP:CanM P w K mg base CX0 2 C "is_place" ["self","thing"] (GX C "room_by_place")):Can P w K mg base 3 "wrong_group" ["table","row","people_ahead"] (N7 C):=by
 obtain⟨t1,h1⟩:=G.people;refine D.cn Dn λf cdv A outer s H vs Q E hr h=>?_;obtain⟨t,p,x0,x1,x2,x3,fs,d,kvs,n,pa,rfl,tb,hl,hn,hd,hp,hx,k⟩:=h;obtain⟨dx,ht⟩:=id tb.at_;obtain⟨T1,h01⟩:=hx x1 (by simp);obtain⟨T2,h02⟩:=hx x2 (by simp);obtain⟨T3,h03⟩:=hx x3 (by simp);refine⟨_,Za (ZF (Z9 (ZZ (YH CP Z.cl Ys hr (pv 0) (Zh (Ym Yd (pv 1) Zb (λ_ _=>rfl)) Zk)))) (Ze (Zn ZH)) Zr) (Za (ZF (Z9 (ZZ (YG CI hr rfl (Zh (Ym Yd (pv 1) Zb (λ_ _=>rfl)) (Zh Zb (Zh (Z2 (pv 0) rfl) Zk)))))) (Ze (Zn ZH)) Zr) (Za (ZF (Z9 (ZZ (YG CI hr rfl (Zh (Ym Yd (pv 1) Zb (λ_ _=>rfl)) (Zh Zb (Zh (Z7 (v:=V.int 300) rfl h1 ⟨t1,rfl⟩) Zk)))))) (Ze (Zn ZH)) Zr) (Za (ZF (Zq ML (Zp ZG (pv 2) (Ym Yd (pv 1) Zb (λ_ _=>rfl))) (Z7 (v:=V.int 300) rfl h1 ⟨t1,rfl⟩) (ZA _)) (Ze (Zn ZH)) Zr) (Ze (Zn ZK))))),?_⟩;unfold Xm at k;refine mthV ht (tb.only _ (by decide +kernel)) ⟨_,rfl,p,_,1,x1,rfl,rfl,SqT.of hp,at0 1 rfl,t,x1,T1,fs,d,kvs,rfl,tb,hl,hd,h01,_,rfl,?_⟩;refine ite2 (λe=>?_) (λe=>?_)
 ·rw[if_pos e]at k;exact k
 rw[if_neg e]at k;refine⟨_,rfl,p,_,2,x2,rfl,rfl,SqT.of hp,at0 2 rfl,_,rfl,t,C,dx,fs,_,rfl,ht,Z.cl,Z.na _ (by simp[fields]),hn,x2,T2,0,n,rfl,h02,_,rfl,?_⟩;refine ite2 (λe2=>?_) (λe2=>?_)
 ·rw[if_pos e2]at k;exact k
 rw[if_neg e2]at k;refine⟨_,rfl,p,_,3,x3,rfl,rfl,SqT.of hp,at0 3 rfl,x3,T3,0,300,rfl,h03,_,rfl,?_⟩;refine ite2 (λe3=>?_) (λe3=>?_)
 ·cases x3 with
 |int i=>have k':Q (if(!K1.Zx (.int i) 0 300)=true then V.str "number" else if pa+i>300 then .str "people" else .non) H:=k;rw[if_pos e3]at k';exact k'
 |_=>exact k
 ·obtain⟨i,rfl⟩:∃i,x3=.int i:=by
   cases x3 with
  |int i=>exact⟨i,rfl⟩
  |_=>exact absurd rfl e3
  have k':Q (if(!K1.Zx (.int i) 0 300)=true then V.str "number" else if pa+i>300 then .str "people" else .non) H:=k;rw[if_neg e3]at k';refine⟨_,rfl,_,rfl,p,_,3,_,rfl,rfl,SqT.of hp,at0 3 rfl,_,_,rfl,rfl,_,_,rfl,rfl,_,rfl,?_⟩;refine ite2 (λe4=>?_) (λe4=>?_)
  ·rw[if_pos (by simpa using e4)]at k';exact k'
  ·rw[if_neg (by simpa using e4)]at k';exact k'
end
end TB
namespace L2
open PySem PySem.Spec PyProof.Rows
theorem sameNew{l:Addr}{H H1:Hp}{o:HO}(x:Same H H1)(hl:H1 l=none):Same H (upd H1 l o):=λc u h=>by rw[Zj (Zi (x c u h) hl)];exact x c u h
theorem nl{c:Addr}{H:Hp}{o:HO}{G:Hp->Prop}(h:H c=none)(k:∀H',Same H H'->H' c=some o->G H'):G (upd H c o):=k _ (sameNew (λ_ _ e=>e) h) Zf
theorem nl2{c:Addr}{H:Hp}{o:HO}{R:Type}{q:R}{G:Hp->R->Prop}(h:H c=none)(k:∀H',Same H H'->H' c=some o->G H' q):G (upd H c o) q:=nl (G:=λH=>G H q) h k
theorem RX:∀{cs:List String}{us:List Value},Vals (cs.map V.ty) us->us=cs.map Value.type
|[],_,h=>by cases h;rfl
|c::cs,_,h=>by
  cases h with
 |cons r t=>have e:=RX t;cases(show _=Value.type c from r);rw[e];rfl
section
variable {X:Cx}
theorem WH:YS X (.builtin "isinstance") (λxs H Q=>∃(x:V)(p:Addr)(cs:List String)(T:String)(b:Bool),xs=[x,.ref p]/\Th H x T/\H p=some (.tup (cs.map V.ty))/\gP X.K (.type T) (cs.map Value.type)=some b/\Q (.bl b) H):=by
 intro pins s σ H xs us Q I r h;obtain⟨x,p,cs,T,b,rfl,th,hp,e,q⟩:=h;obtain⟨u,w',rfl,ru,rw'⟩:=vals2 r;cases(show w'=Value.ref p from rw');obtain⟨_,its,rv,⟨oc,od,odt,osl⟩,h1,hc,n,hdt⟩:=(show Z4 X.prog X.w H s.heap p (.tup (cs.map V.ty))from I.hok p _ hp);have ei:=RX rv;subst ei;obtain rfl:oc=.type "tuple":=hc;obtain rfl:odt=.seq (cs.map Value.type).toArray n:=hdt;have fin:∀tk,EP X pins σ Q (.bool b) {s with toks:=tk}:=λtk=>⟨.bl b,H,I.tok tk,rfl,q⟩;cases th with
|non=>cases(show u=Value.none from ru);exact cS PySem.W.kitx_none I.kIn bK h1 e (λz=>nomatch z) fin
|bl y=>cases(show u=Value.bool y from ru);exact cS PySem.W.kitx_bool I.kIn bK h1 e (λz=>nomatch z) fin
|int i=>obtain⟨t,z⟩:=(show ∃t,u=Value.int i t from ru);cases z;exact cS PySem.W.kitx_int I.kIn bK h1 e (λz=>nomatch z) fin
|str y _=>obtain⟨t,z⟩:=(show ∃t,u=Value.str y t from ru);cases z;exact cS PySem.W.kitx_str I.kIn bK h1 e (λz=>nomatch z) fin
|@lst a xs ea=>cases(show u=Value.ref a from ru);obtain⟨_,_,n',_,h2⟩:=(show Z4 X.prog X.w H s.heap a (.lst xs)from I.hok a _ ea);exact cS fV I.kIn ⟨_,h2,rfl⟩ h1 e (λz=>nomatch z) fin
|@tup a xs ea=>cases(show u=Value.ref a from ru);obtain⟨_,_,_,o,h2,h3,_⟩:=(show Z4 X.prog X.w H s.heap a (.tup xs)from I.hok a _ ea);exact cS PySem.W.kitx_tuple I.kIn ⟨o,h2,h3⟩ h1 e (λz=>nomatch z) fin
|@dK a kvs ea=>cases(show u=Value.ref a from ru);obtain⟨_,_,vs,_,o,es,ep,h2,h3,_⟩:=(show Z4 X.prog X.w H s.heap a (.dK kvs)from I.hok a _ ea);exact cS fW I.kIn ⟨o,h2,h3.1⟩ h1 e (λz=>nomatch z) fin
end
theorem Th.kitLT{K:aa}{H:Hp}{v:V}{T:String}(h:Th H v T):gP K (.type T) (["list","tuple"].map Value.type)=some (decide (T="list"\/T="tuple")):=by cases h<;>(first|kernel_rfl|(unfold gP;rfl))
end L2
namespace TB
open PySem L2 PySem.Spec PyProof.Rows
structure Mosts(K:aa)(w:World)(mg:Str->Option Value):Prop where
 at_:∃a,mg "MOST_ROWS"=some (.ref a)/\XN K w a "places" (.int 14)/\XN K w a "rides" (.int 80)/\XN K w a "ways" (.int 40)/\XN K w a "groups" (.int 300)
noncomputable def SI:List (Str×Nat):=[("places",14),("rides",80),("ways",40),("groups",300)]
def Part(H:Hp)(v:V)(r:Option (List V)):Prop:=match r with
|none=>∃T,Th H v T/\T≠"list"/\T≠"tuple"
|some xs=>∃p,v=.ref p/\(H p=some (.lst xs)\/H p=some (.tup xs))
end TB
namespace L2
open PySem PySem.Spec PyProof.Rows
open AutoSeq1 (wpAny_loadPart')
section
variable {prog:Program}{w:World}{A:bz}{E:Value->ag->Prop}{s:ag}
theorem DB{it t:Addr}{i:Nat}{items:Array Value}{x:Value}{Q:Value->ag->Prop}(hit:s.heap.IsTupleIter it t i)(ht:s.heap.IsTuple t items)(hx:items[i]?=some x)(hQ:∀h',h'.IsTupleIter it t (i+1)->Heap.SameBut it s.heap h'->Q x {s with heap:=h'}):wpAny (model prog w) A (cO (.ref it)) Q E s:=by obtain⟨o,ho,hc,hd⟩:=id hit;obtain⟨ol,hol,_,nl,hdl⟩:=id ht;unfold cO;refine ae (bZ (name:=Str.ofString "__next__") hit.typeIs F.slot_tuple_iterator_next (cV F.slot_tuple_iterator_next hit.typeIs F.entry_tuple_iterator_next ?_ (F.args_tuple_iterator_next_1 _)));show wpAny (model prog w) _ (field (.ref it) 0 >>= _) _ _ s;refine ae (wpAny_field (x:=.ref t) ho hd rfl ?_);show wpAny (model prog w) _ (if(Value.ref t==Value.none)=true then _ else _) _ _ s;rw[if_neg (by exact Bool.false_ne_true)];show wpAny (model prog w) _ (field (.ref it) 1 >>= _) _ _ s;refine ae (wpAny_field (x:=.int i 0) ho hd rfl ?_);show wpAny (model prog w) _ (seqItems? (.ref t) >>= _) _ _ s;refine ae (wpAny_seqItems hol hdl ?_);simp only[hx,Int.toNat_natCast];refine ae (gg ho hd (by simp) (ai ⟨x,rfl,ai (hQ _ ⟨_,Heap.get?_update_self _ ho (Obj.isFreed_of_fields (Obj.data_mapFields hd _)),(Obj.cls_mapFields ..).trans hc,by rw[Obj.data_mapFields hd];simp[fF]⟩ (Heap.SameBut.update ..))⟩))
theorem K8{it t:Addr}{i:Nat}{items:Array Value}{Q:Value->ag->Prop}(hh:A.handled=none)(hit:s.heap.IsTupleIter it t i)(ht:s.heap.IsTuple t items)(hx:items[i]?=none)(hE:∀h' e,Heap.ExtBut it s.heap h'->(∃o,h'.get? e=some o/\o.cls=.type "StopIteration")->E (.ref e) {s with heap:=h'}):wpAny (model prog w) A (cO (.ref it)) Q E s:=by
 obtain⟨o,ho,hc,hd⟩:=id hit;obtain⟨ol,hol,_,nl,hdl⟩:=id ht;unfold cO;refine ae (bZ (name:=Str.ofString "__next__") hit.typeIs F.slot_tuple_iterator_next (cV F.slot_tuple_iterator_next hit.typeIs F.entry_tuple_iterator_next ?_ (F.args_tuple_iterator_next_1 _)));show wpAny (model prog w) _ (field (.ref it) 0 >>= _) _ _ s;refine ae (wpAny_field (x:=.ref t) ho hd rfl ?_);show wpAny (model prog w) _ (if(Value.ref t==Value.none)=true then _ else _) _ _ s;rw[if_neg (by exact Bool.false_ne_true)];show wpAny (model prog w) _ (field (.ref it) 1 >>= _) _ _ s;refine ae (wpAny_field (x:=.int i 0) ho hd rfl ?_);show wpAny (model prog w) _ (seqItems? (.ref t) >>= _) _ _ s;refine ae (wpAny_seqItems hol hdl ?_);simp only[hx,Int.toNat_natCast];refine ae (dB (ae (gg ho hd (by simp) ?_)));show wpAny (model prog w) _ (newExc (.type "StopIteration") [] >>= _) _ _ _;refine ae ?_;simp only[newTuple,newExc];refine ae (c8 (ae (m:=gi _ _) (gc (a:=Value.none) (by first|rfl|(simp only[gi];rfl)) (c8 ?_ (by size_fits)))) (by size_fits))
 simp only[raiseNew];refine ae (wpAny_handled ?_);first|rw[show A.in1.handled=none from hh]|rw[hh]
 refine ae (ai (wpAny_throw ?_));exact hE _ _ (((Heap.SameBut.update ..).extBut.push _).push _) ⟨_,Heap.get?_push_size _ rfl,rfl⟩
end
theorem NI{prog:Program}{w:World}{A:bz}(hh:A.handled=none)(it t:Addr)(hne:t≠it)(items:Array Value):
  Draws prog w A it [it,t] items.size (λi v=>items[i]?=some v) (λi h=>h.IsTupleIter it t i/\h.IsTuple t items) where
 live:=λ_ _ st=>by obtain⟨⟨o,ho,_⟩,_⟩:=st;exact⟨o,ho⟩
 frame:=λ_ _ _ st hk=>by
  obtain⟨⟨o,ho,r⟩,⟨o2,ho2,r2⟩⟩:=st
  exact⟨⟨o,hk it (by simp) o ho,r⟩,⟨o2,hk t (by simp) o2 ho2,r2⟩⟩
 item:=λi s Q E hi st hQ=>DB st.1 st.2 (x:=items[i]) (by simp[hi]) λh' hit' hs'=>hQ _ h' s.toks (by simp[hi]) ⟨hit',st.2.extBut hs'.extBut hne⟩ hs'
 done:=λs Q E st hE=>K8 hh st.1 st.2 (by simp) hE
theorem Wh(l:Addr)(items:Array Value)(n:Nat)(dct:Option Addr)(sl:Array (Option Value)):Meets (dZ.«enumerate.__new__» ⟨[.type "enumerate",.ref l],[]⟩) (λ_ R s=>s.heap.get? l=some {cls:=.type "tuple",dict:=dct,data:=.seq items n,slots:=sl} /\R (.ok (.ret (.ref (s.heap.push {cls:=.type "tuple_iterator",data:=.fields #[.ref l,.int 0 0]}).objs.size))) {s with heap:=(s.heap.push {cls:=.type "tuple_iterator",data:=.fields #[.ref l,.int 0 0]}).push {cls:=.type "enumerate",data:=.fields #[.none,.bool false,.ref s.heap.objs.size,fF 0,.none,.none]}}):=.of_wp λprog w A R s h=>by
  obtain⟨hp,g,d,tk,os⟩:=s;obtain⟨hl,h⟩:=h;have hsub:=sub_enumerate;have hT:Heap.IsTuple (Shared.heap ⟨hp,g,d,tk,os⟩) l items:=⟨_,hl,rfl,n,rfl⟩;wp_walk using fJ hl;refine wpAny_stack_any λst=>ai ?_;split
  ·rename_i c _ _ _ _ _;cases(c==Value.type "enumerate")<;>(wp_walk using fJ hl,gM hT;exact⟨_,rfl,h⟩)
  ·wp_walk using fJ hl,gM hT;exact⟨_,rfl,h⟩
theorem RR{prog:Program}{w:World}{A:bz}{E:Value->ag->Prop}{s:ag}{l:Addr}{items:Array Value}{Q:Value->ag->Prop}(hL:s.heap.IsTuple l items)(h:∀h',IsEnum h' (s.heap.objs.size+1) s.heap.objs.size 0 .none->h'.IsTupleIter s.heap.objs.size l 0->(∀b o,s.heap.get? b=some o->h'.get? b=some o)->Q (.ref (s.heap.objs.size+1)) {s with heap:=h'}):wpAny (model prog w) A (call (.type "enumerate") [.ref l]) Q E s:=by
 obtain⟨⟨c,dct,dt,sl⟩,hl,hc,n,hd⟩:=hL;simp only at hc hd;subst hc hd;refine callType_new F.called_enumerate (by decide) (F.typeCall_enumerate_1 _) (F.newCall_enumerate_1 _) (λobj=>F.args_object_init_2 obj _) F.entry_enumerate_new (Wh l items n dct sl) ⟨hl,?_⟩;have hz:(s.heap.push {cls:=.type "tuple_iterator",data:=.fields #[.ref l,.int 0 0]}).objs.size=s.heap.objs.size+1:=Heap.size_push ..;show _/\_;rw[hz];have he:IsEnum ((s.heap.push {cls:=.type "tuple_iterator",data:=.fields #[.ref l,.int 0 0]}).push {cls:=.type "enumerate",data:=.fields #[.none,.bool false,.ref s.heap.objs.size,fF 0,.none,.none]}) (s.heap.objs.size+1) s.heap.objs.size 0 .none:=by have:=Heap.get?_push_size (s.heap.push {cls:=.type "tuple_iterator",data:=.fields #[.ref l,.int 0 0]}) (o:={cls:=.type "enumerate",data:=.fields #[.none,.bool false,.ref s.heap.objs.size,fF 0,.none,.none]}) rfl;rwa [hz]at this
 exact⟨⟨_,he,rfl⟩,h _ he ⟨_,Heap.get?_push_of_some _ (Heap.get?_push_size _ rfl),rfl,rfl⟩ λb o x=>Heap.get?_push_of_some _ (Heap.get?_push_of_some _ x)⟩
noncomputable def Iten(l:Addr):It:=⟨λi H=>∃xs,H l=some (.tup xs)/\i<xs.length,λi H x H'=>∃(T:Addr)(xs:List V)(y:V),H T=none/\H l=some (.tup xs)/\xs[i]?=some y/\x=.ref T/\H'=upd H T (.tup [.int i,y]),λi H=>∃xs,H l=some (.tup xs)/\i=xs.length⟩
theorem QS{P:Program}{w:World}{K:aa}{es:List Expr}{k:Nat}{pt:Pos}(l e it:Addr)(hei:e≠it)(hle:l≠e)(hli:l≠it):
  Turn P w K (.Tuple es k pt) (Iten l) [e,it] e (λi h=>(∃old,IsEnum h e it i old)/\h.IsTupleIter it l i) where
 mem:=by simp
 obj:=λi h st b hb=>by
  obtain⟨⟨old,he⟩,o,ho,c,d⟩:=st
  have hb':b=e\/b=it:=by simpa using hb
  rcases hb' with rfl|rfl
  ·exact⟨_,he,λv z=>by cases z⟩
  ·exact⟨o,ho,λv z=>by rw[d]at z;cases z⟩
 keep:=λi h h' st kk=>by
  obtain⟨⟨old,he⟩,o,ho,r⟩:=st
  exact⟨⟨old,kk e (by simp) _ he⟩,o,kk it (by simp) o ho,r⟩
 item:=by
  intro X hP hw hK hc i pins s σ H E I hf st hg
  subst hP hw hK
  obtain⟨xs,hx,hi⟩:=hg
  obtain⟨⟨old,he⟩,hs⟩:=st
  obtain⟨its,rv,pl,_⟩:=I.tuple (SqT.of hx)
  have hlen:=rv.length
  have D:=NI (prog:=X.prog) (w:=X.w) (A:=X.A.in1) (I.ok.hd hc) it l hli its.toArray
  have W:=eI D e hei (by simp[hei,bD hle]) (by simp)
  refine W.item i s _ _ (by simp only[aq];omega) ⟨⟨old,he⟩,hs,pl⟩ λT vals h' tk hv hT ht hm kk=>?_
  obtain⟨tk',u,hu,rfl⟩:=hv
  obtain⟨y,hy⟩:∃y,xs[i]?=some y:=⟨xs[i],gE hi⟩
  obtain⟨u2,hu2,ru⟩:=rv.get hy
  have hu':its[i]?=some u:=by simpa using hu
  rw[hu']at hu2;cases hu2
  refine⟨_,rfl,?_⟩
  refine W.go es k pt i T {s with heap:=h',toks:=tk} _ _ hm λh2 st2 kk2=>?_
  have hTn:H T=none:=I.hok.fresh hT
  have hap:=W.apart i T h' hm
  have hb2:∀b,b∉[e,it]->∀o,s.heap.get? b=some o->h2.get? b=some o:=λb hb o q=>kk2 b o hb (kk b o hb q)
  have nb:∀b u,H b=some u->b∉[e,it]:=λb u q hb=>by rw[(hf b hb).1]at q;cases q
  have I1:Inv X pins σ (upd H T (.tup [.int i,y])) {s with heap:=h2,toks:=tk}:=by
   refine I.step (g':=s.gens) (d':=s.drawn) (ch:=[e,it]) (λb hb=>?_) (λb o _ _ hb q _=>hb2 b hb o q) (λb o _ _ hb q _=>⟨o.slots,hb2 b hb o q⟩)
    (λb o hb q n=>?_) (λb o hb q=>⟨o,hb2 b hb o q⟩) (λb xs q=>?_) (λb o u q=>?_) (λb ps q=>?_) (λm hm=>?_) ?_ I.bare
   ·obtain⟨g0,g1,g2,g3,g4,g5⟩:=hf b hb
    exact⟨g3,g1,g4,g5⟩
   ·rw[Zj (Nat.ne_of_lt (Nat.lt_of_lt_of_le (Heap.lt_size q) hT))];exact n
   ·rw[Zj (Zi q hTn)];exact q
   ·rw[Zj (Zi q hTn)];exact q
   ·exact⟨#[],by rw[Zj (Zi q hTn),q];simp⟩
   ·obtain⟨o,es',ep,ho,r⟩:=hm
    refine⟨o,es',ep,hb2 _ ?_ o ho,r⟩
    intro hb
    obtain⟨g0,g1,_⟩:=hf _ hb
    exact g1 rfl
   ·intro b ob q
    by_cases hb:b=T
    ·subst hb
     rw[Zf]at q
     cases q
     obtain⟨o,h1,h2',h3⟩:=ht
     exact⟨zl,[.int i tk',u],.cons ⟨_,rfl⟩ (.cons ru .nil),⟨o,kk2 _ _ hap h1,h2',h3⟩⟩
    ·rw[Zj hb]at q
     refine(I.hok b ob q).stay (λc' v hc' q'=>hb2 c' ?_ v q') (λc' q'=>by rw[Zj (Zi q' hTn)];exact q') λc' xs q'=>by rw[Zj (Zi q' hTn)];exact q'
     rcases hc' with rfl|hc'
     ·exact nb _ _ q
     ·exact nb _ _ hc'
  refine⟨.ref T,_,I1,rfl,⟨T,xs,y,hTn,hx,hy,rfl,rfl⟩,⟨st2.1,st2.2.1⟩,λb hb=>?_⟩
  rw[Zj]
  ·exact(hf b hb).1
  ·rintro rfl
   exact hap hb
 done:=by
  intro X hP hw hK hc i pins s σ H E I hf st hg
  subst hP hw hK
  obtain⟨xs,hx,hi⟩:=hg
  obtain⟨⟨old,he⟩,hs⟩:=st
  obtain⟨its,rv,pl,_⟩:=I.tuple (SqT.of hx)
  have hlen:=rv.length
  have D:=NI (prog:=X.prog) (w:=X.w) (A:=X.A.in1) (I.ok.hd hc) it l hli its.toArray
  have W:=eI D e hei (by simp[hei,bD hle]) (by simp)
  have ei:i=its.toArray.size:=by simp only[aq];omega
  subst ei
  refine W.done s _ _ ⟨⟨old,he⟩,hs,pl⟩ λh' tk kk=>⟨rfl,?_⟩
  have nb:∀b u,H b=some u->b∉[e,it]:=λb u q hb=>by rw[(hf b hb).1]at q;cases q
  refine I.step (g':=s.gens) (d':=s.drawn) (ch:=[e,it]) (λb hb=>?_) (λb o _ _ hb q _=>kk b o hb q) (λb o _ _ hb q _=>⟨o.slots,kk b o hb q⟩)
   (λb o hb q n=>n) (λb o hb q=>⟨o,kk b o hb q⟩) (λb xs q=>q) (λb o u q=>q) (λb ps q=>⟨#[],by rw[q];simp⟩) (λm hm=>?_) (λb u q=>?_) I.bare
  ·obtain⟨g0,g1,g2,g3,g4,g5⟩:=hf b hb
   exact⟨g3,g1,g4,g5⟩
  ·obtain⟨o,es',ep,ho,r⟩:=hm
   refine⟨o,es',ep,kk _ o ?_ ho,r⟩
   intro hb
   obtain⟨g0,g1,_⟩:=hf _ hb
   exact g1 rfl
  ·refine(I.hok b u q).stay (λc' v hc' q'=>kk c' v ?_ q') (λ_ q'=>q') λ_ _ q'=>q'
   rcases hc' with rfl|hc'
   ·exact nb _ _ q
   ·exact nb _ _ hc'
 self:=λA i s Q E st h=>by
  obtain⟨⟨old,he⟩,_⟩:=st
  exact fh he h
section
variable {X:Cx}
noncomputable def iEnT(ta:TA):TI:=λσ H R=>ta σ H λvs H1=>∃(l:Addr)(xs:List V),vs=[.ref l]/\H1 l=some (.tup xs)/\R (Iten l) H1
theorem Ud{a:Expr}{ta:TA}{p pos pt:Pos}{es:List Expr}{k:Nat}(hg:Gl X "enumerate")(hm:X.mg "enumerate"=none)(ha:PA X [a] ta)(hb:bF "enumerate"=some (.type "enumerate"))(hs:aN [a] X.env=[(false,eval a X.env)]:=by rfl):PI X (.Tuple es k pt) (.Call (.Name "enumerate" p) [a] [] pos) (iEnT ta):=by
 intro pins s σ H R I h;refine Call_ (V1 I hg hm hb (bT (thn (ha pos pins s σ H _ I h) λus s1 hZ=>?_) hs rfl));obtain⟨vs,H1,I1,r1,q1⟩:=hZ;obtain⟨l,xs,e,hx,q⟩:=q1;subst e;cases r1 with
|cons r rr=>
  cases rr;cases r;obtain⟨its,rv,pl,_⟩:=I1.tuple (SqT.of hx);refine RR pl λh' he hst kk=>?_;have I2:Inv X pins σ H1 {s1 with heap:=h'}:=I1.kept (t':=s1.toks) kk;refine fh he ?_;have lt:l<s1.heap.objs.size:=I1.hok.lt hx;refine⟨s1.heap.objs.size+1,[s1.heap.objs.size+1,s1.heap.objs.size],_,_,H1,rfl,I2,QS l (s1.heap.objs.size+1) s1.heap.objs.size (Nat.succ_ne_self _) (Nat.ne_of_lt (Nat.lt_succ_of_lt lt)) (Nat.ne_of_lt lt),⟨⟨_,he⟩,hst⟩,λb hb=>?_,q⟩;have e:b=s1.heap.objs.size+1\/b=s1.heap.objs.size:=by simpa using hb
  rcases e with e|e<;>subst e
  ·exact I1.fpOk (Nat.le_succ _) (I1.hok.fresh (Nat.le_succ _))
  ·exact I1.fpOk (Nat.le_refl _) (I1.hok.fresh (Nat.le_refl _))
end
theorem Mi:bF "enumerate"=some (.type "enumerate"):=by decide +kernel
def tOrX(K:aa)(ta tb:TE):TE:=λσ H Q=>ta σ H λx H1=>∃k,TruV K x H1 k/\if k=true then Q x H1 else tb σ H1 Q
theorem MI{X:Cx}{a b:Expr}{rest:List Expr}{pos:Pos}{ta tb:TE}(ha:PE X a ta)(hb:PE X (.BoolOp .Or (b::rest) pos) tb):PE X (.BoolOp .Or (a::b::rest) pos) (tOrX X.K ta tb):=by
 intro pins s σ H Q I h;refine BoolOp_or (thn (ha pins s σ H _ I h) λv s1 hZ=>?_);obtain⟨x,H1,I1,r1,k,q1,q2⟩:=hZ;refine thn (EG pins s1 σ H1 x v (λk' H'=>H'=H1/\k'=k) I1 r1 ⟨k,q1,rfl,rfl⟩) λc s2 hZ=>?_;obtain⟨H2,I2,e1,e2⟩:=hZ;subst e1 e2;cases c with
|false=>exact hb pins s2 σ H2 Q I2 q2
|true=>exact⟨x,H2,I2,r1,q2⟩
def Zg(b:Addr)(H H':Hp):Prop:=∀c o,H c=some o->c≠b->H' c=some o
theorem Zg.refl(b:Addr)(H:Hp):Zg b H H:=λ_ _ h _=>h
theorem Zg.trans{b:Addr}{H H1 H2:Hp}(x:Zg b H H1)(y:Zg b H1 H2):Zg b H H2:=λc o h hc=>y c o (x c o h hc) hc
theorem Zg.upd{b:Addr}{H H1:Hp}{o:HO}(x:Zg b H H1):Zg b H (upd H1 b o):=λc u h hc=>by rw[Zj hc];exact x c u h hc
theorem Zg.of{b:Addr}{H H1:Hp}(x:Same H H1):Zg b H H1:=λc u h _=>x c u h
theorem Th.sameB{H H':Hp}{t C dx:Addr}{fs:List (Str×V)}(ht:H t=some (.ins C dx fs))(s:Zg t H H'){v:V}{T:String}(h:Th H v T):Th H' v T:=by
 cases h with
|non=>exact .non
|bl b=>exact .bl b
|int i=>exact .int i
|str z h=>exact .str z h
|lst e=>exact .lst (s _ _ e (ne_of e ht (by intro z;cases z)))
|tup e=>exact .tup (s _ _ e (ne_of e ht (by intro z;cases z)))
|dK e=>exact .dK (s _ _ e (ne_of e ht (by intro z;cases z)))
theorem YU{J:It}{g:TG}{tb:TS}{D:Ends}{σ:L2.St}{H:Hp}(n:Nat)(Pv:Nat->L2.St->Hp->Prop)(h0:Pv 0 σ H)(hgo:∀i σ H,i<n->Pv i σ H->J.go i H)(hstop:∀σ H,Pv n σ H->J.stop n H)(hs:∀i σ H x H',i<n->Pv i σ H->J.yld i H x H'->g x σ H' λσ2 H2=>tb {D with nx:=Pv (i+1),ct:=Pv (i+1),bk:=D.nx} σ2 H2)(hd:∀σ H,Pv n σ H->D.nx σ H):∃W:Nat->Nat->L2.St->Hp->Prop,(∃m,W 0 m σ H)/\∀i m σ H,W i m σ H ->(J.stop i H/\D.nx σ H)\/(J.go i H/\∃N:L2.St->Hp->Prop,(∀σ' H',N σ' H'->∃m',m'<m/\W (i+1) m' σ' H')/\∀x H',J.yld i H x H'->g x σ H' λσ2 H2=>tb {D with nx:=N,ct:=N,bk:=D.nx} σ2 H2):=by
 refine⟨λi m σ H=>m=n-i/\i<=n/\Pv i σ H,⟨n,rfl,Nat.zero_le _,h0⟩,?_⟩;rintro i m σ H ⟨rfl,hi,p⟩;by_cases hlt:i<n
 ·exact .inr ⟨hgo i σ H hlt p,Pv (i+1),λσ' H' p'=>⟨n-(i+1),by omega,rfl,hlt,p'⟩,λx H' y=>hs i σ H x H' hlt p y⟩
 ·have e:i=n:=by omega
  subst e;exact .inl ⟨hstop σ H p,hd σ H p⟩
end L2
namespace TB
open PySem L2 PySem.Spec PyProof.Rows
theorem Row.sameB{H H':Hp}{t C dx:Addr}{fs:List (Str×V)}(ht:H t=some (.ins C dx fs))(s:Zg t H H'){v:V}{r:Option (List V)}(h:Row H v r):Row H' v r:=by
 cases r with
|none=>obtain⟨T,th,hT⟩:=h;exact⟨T,th.sameB ht s,hT⟩
|some xs=>obtain⟨p,rfl,hp,hx⟩:=h;exact⟨p,rfl,s _ _ hp (ne_of hp ht (by intro z;cases z)),λx hx'=>let ⟨T,th⟩:=hx x hx';⟨T,th.sameB ht s⟩⟩
def Y9(H:Hp)(xs:List V)(rs:List (Option (List V))):Prop:=xs.length=rs.length/\∀(i:Nat)x r,xs[i]?=some x->rs[i]?=some r->Row H x r
noncomputable def Jf:Nat->List (Key×V)->List (Option (List V))->Sum (Nat×V) (List (Key×V))
|_,kvs,[]=>.inr kvs
|i,kvs,r::rs=>
  if begR false 2 kvs r≠.non then .inl (i,begR false 2 kvs r)else match r with
  |some [.str n,room]=>if YA room≠.non then .inl (i,YA room)else Jf (i+1) (putK kvs (.inr n) room) rs
  |_=>.inl (i,.str "form")
theorem Rg{i:Nat}{kvs:List (Key×V)}{r:Option (List V)}{rs:List (Option (List V))}(h:begR false 2 kvs r≠.non):Jf i kvs (r::rs)=.inl (i,begR false 2 kvs r):=by unfold Jf;rw[if_pos h]
theorem LV{g:Bool}{n:Nat}{kvs:List (Key×V)}{r:Option (List V)}(h:begR g n kvs r=.non):∃xs y,r=some xs/\xs.length=n/\xs.getD 0 .non=.str y:=by
 cases r with
|none=>cases h
|some xs=>
  have h':begV g n kvs xs=.non:=h;unfold begV at h';by_cases h1:xs.length≠n
  ·rw[if_pos h1]at h';cases h'
  ·rw[if_neg h1]at h';by_cases h2:Yc g (xs.getD 0 .non)=false
   ·rw[if_pos h2]at h';cases h'
   ·have h2':Yc g (xs.getD 0 .non)=true:=by simpa using h2
    unfold Yc at h2';cases e:xs.getD 0 .non with
   |str y=>exact⟨xs,y,rfl,by omega,e⟩
   |_=>rw[e]at h2';split at h2'<;>cases h2'
noncomputable def nameOf(ys:List V):Str:=match ys.getD 0 .non with
|.str y=>y
|_=>Str.empty
noncomputable def Jw(g:Bool)(n:Nat)(why:List V->V):Nat->List (Key×V)->List (V×Option (List V))->Sum (Nat×V) (List (Key×V))
|_,kvs,[]=>.inr kvs
|i,kvs,(x,r)::rs=>
  if begR g n kvs r≠.non then .inl (i,begR g n kvs r)else match r with
  |some ys=>if why ys≠.non then .inl (i,why ys)else Jw g n why (i+1) (putK kvs (.inr (nameOf ys)) x) rs
  |none=>.inl (i,.str "form")
theorem Ku{g:Bool}{n:Nat}{why:List V->V}{i:Nat}{kvs:List (Key×V)}{x:V}{r:Option (List V)}{rs:List (V×Option (List V))}(h:begR g n kvs r≠.non):Jw g n why i kvs ((x,r)::rs)=.inl (i,begR g n kvs r):=by unfold Jw;rw[if_pos h]
theorem TF{g:Bool}{n:Nat}{why:List V->V}{i:Nat}{kvs:List (Key×V)}{x:V}{ys:List V}{rs:List (V×Option (List V))}(h:begR g n kvs (some ys)=.non):Jw g n why i kvs ((x,some ys)::rs)=if why ys≠.non then .inl (i,why ys)else Jw g n why (i+1) (putK kvs (.inr (nameOf ys)) x) rs:=by
 conv=>lhs;unfold Jw
 rw[if_neg (λz=>z h)]
noncomputable def at_(ys:List V)(i:Nat):V:=ys.getD i .non
noncomputable def Kx(kvs:List (Key×V))(n:Int)(ys:List V):V:=Ub kvs n (at_ ys 1) (at_ ys 2) (at_ ys 3) (at_ ys 4) (at_ ys 5)
noncomputable def wayW(kvs:List (Key×V))(ys:List V):V:=wayV kvs (at_ ys 1) (at_ ys 2) (at_ ys 3) (at_ ys 4)
noncomputable def UZ(kvs:List (Key×V))(n pp:Int)(ys:List V):V:=Xm kvs n pp (at_ ys 1) (at_ ys 2) (at_ ys 3)
noncomputable def ZC(ys:List V):Int:=match ys.getD 3 .non with
|.int i=>i
|_=>0
noncomputable def XH(kvsP:List (Key×V))(nT:Int):Nat->Int->List (Key×V)->List (V×Option (List V))->Sum (Nat×V) (List (Key×V))
|_,_,kvs,[]=>.inr kvs
|i,pp,kvs,(x,r)::rs=>
  if begR true 4 kvs r≠.non then .inl (i,begR true 4 kvs r)else match r with
  |some ys=>if UZ kvsP nT pp ys≠.non then .inl (i,UZ kvsP nT pp ys)else XH kvsP nT (i+1) (pp+ZC ys) (putK kvs (.inr (nameOf ys)) x) rs
  |none=>.inl (i,.str "form")
section
variable {kvsP:List (Key×V)}{nT pp:Int}{i:Nat}{kvs:List (Key×V)}{x:V}{rs:List (V×Option (List V))}
theorem Qw{ys:List V}(h:begR true 4 kvs (some ys)=.non):XH kvsP nT i pp kvs ((x,some ys)::rs)=if UZ kvsP nT pp ys≠.non then .inl (i,UZ kvsP nT pp ys)else XH kvsP nT (i+1) (pp+ZC ys) (putK kvs (.inr (nameOf ys)) x) rs:=by
 conv=>lhs;unfold XH
 rw[if_neg (λz=>z h)]
end
noncomputable abbrev PR:=Option (List V×List (Option (List V)))
def LZ(H:Hp)(v:V)(r:PR):Prop:=match r with
|none=>Part H v none
|some (xs,rs)=>Part H v (some xs)/\Y9 H xs rs
theorem Y9.sameB{H H':Hp}{t C dx:Addr}{fs:List (Str×V)}(ht:H t=some (.ins C dx fs))(s:Zg t H H'){xs:List V}{rs:List (Option (List V))}(h:Y9 H xs rs):Y9 H' xs rs:=⟨h.1,λi x r a b=>(h.2 i x r a b).sameB ht s⟩
noncomputable def KU(n:Nat)(go:List V->List (Option (List V))->Sum (Nat×V) (List (Key×V)))(r:PR):Sum (V×V) (List (Key×V)):=match r with
|none=>.inl (.non,.str "form")
|some (xs,rs)=>if xs.length>n then .inl (.int n,.str "many")else match go xs rs with
 |.inl (i,why)=>.inl (.int i,why)
 |.inr kvs=>.inr kvs
noncomputable def goP(_:List V)(rs:List (Option (List V))):Sum (Nat×V) (List (Key×V)):=Jf 0 [] rs
noncomputable def goR(k1:List (Key×V))(n:Int)(xs:List V)(rs:List (Option (List V))):Sum (Nat×V) (List (Key×V)):=Jw false 6 (Kx k1 n) 0 [] (xs.zip rs)
noncomputable def goW(k1:List (Key×V))(xs:List V)(rs:List (Option (List V))):Sum (Nat×V) (List (Key×V)):=Jw false 5 (wayW k1) 0 [] (xs.zip rs)
noncomputable def goG(k1:List (Key×V))(n:Int)(xs:List V)(rs:List (Option (List V))):Sum (Nat×V) (List (Key×V)):=XH k1 n 0 0 [] (xs.zip rs)
noncomputable abbrev Ks:=List (Key×V)×List (Key×V)×List (Key×V)×List (Key×V)
def Vp(H:Hp)(fs:List (Str×V))(f g:Str)(r:PR)(k:List (Key×V)):Prop:=∃l d xs rs,fs.lookup f=some (.ref l)/\fs.lookup g=some (.ref d)/\r=some (xs,rs)/\H l=some (.tup xs)/\H d=some (.dK k)
structure TabOf(H:Hp)(C t:Addr)(fs:List (Str×V))(n:Int)(r1 r2 r3 r4:PR)(k:Ks):Prop where
 tab:Tab H C t fs
 turns:fs.lookup ("turns":Str)=some (.int n)
 p:Vp H fs "places" "room_by_place" r1 k.1
 r:Vp H fs "rides" "ride_by_name" r2 k.2.1
 w:Vp H fs "ways" "way_by_name" r3 k.2.2.1
 g:Vp H fs "groups" "group_by_name" r4 k.2.2.2
end TB
namespace L2
open PySem PySem.Spec PyProof.Rows
section
variable {X:Cx}{CX:CXT}{k:Nat}{C:Addr}{ps:List Str}{sp:Sp}{E:XK}{m:Str}{pos apos:Pos}{o:Expr}{ta:TE}
theorem Uh{pl:Sem Bool}(c:CanM X.prog X.w X.K X.mg X.base CX k C m ps sp)(cl:Cls X.K C)(hx:Passes CX X E)(hr:Room k X.A)(he:PE X o ta)
  (ht:eval (.Call (.Attribute o m apos) [] [] pos) X.env=(do
   let ov <-eval o X.env
   gm apos.atName
   let (f,first) <-dY [ov] (eU ov m pl)
   f_ pos f first (cf pos (aN [] X.env)) (d8 pos (cW [] X.env))):=by rfl):
  PE X (.Call (.Attribute o m apos) [] [] pos) (Nm C m sp [] E ta tNil):=by
 obtain⟨f,fd,F,me,b⟩:=c
 exact KN he cl me F hr b .nil hx ht
end
section
variable {prog:Program}{w:World}{A:bz}{E:Value->ag->Prop}
theorem NJ{it l:Addr}{items:Array Value}(hne:l≠it):∀(n i:Nat)(s:ag)(Q:List Value->ag->Prop),s.heap.IsListIter it l i->s.heap.IsList l items->i+n<=items.size ->(∀h',h'.IsListIter it l (i+n)->Heap.SameBut it s.heap h'->Q ((items.toList.drop i).take n) {s with heap:=h'})->wpAny (model prog w) A (draw (.ref it) n) Q E s
|0,i,s,Q,hit,_,_,hQ=>by show wpAny _ _ (pure []) Q E s;exact ai (by simpa using hQ s.heap hit (Heap.SameBut.refl ..))
|n+1,i,s,Q,hit,hl,hle,hQ=>by
  have hlt:i<items.size:=by omega
  show wpAny _ _ (pyNext (.ref it) >>= _) Q E s;refine ae (wpAny_pyNext_list_item hit hl (x:=items[i]) (by simp[hlt]) λh₁ hit₁ hs₁=>?_);refine ae (bh (NJ hne n (i+1) _ _ hit₁ (hl.at λo e=>hs₁.extBut _ _ hne e) (by omega) λh₂ hit₂ hs₂=>ai ?_));have hd:items.toList.drop i=items[i]::items.toList.drop (i+1):=by simp[eR,hlt]
  have:=hQ h₂ (by rw[show i+(n+1)=i+1+n by omega];exact hit₂) (hs₁.trans hs₂);rw[hd,List.take_succ_cons]at this;exact this
theorem UM{s:ag}{t:Addr}{items:Array Value}{Q:List Value->ag->Prop}(hh:A.handled=none)(ht:s.heap.IsList t items)(hQ:∀h',Heap.ExtBut s.heap.objs.size s.heap h'->Q items.toList {s with heap:=h'}):wpAny (model prog w) A (unpackItems (.ref t) items.size none) Q E s:=by
 have hlt:t≠s.heap.objs.size:=by obtain⟨o,ho,_⟩:=ht;exact Nat.ne_of_lt (Heap.lt_size ho)
 unfold unpackItems;refine ae ?_
 ·unfold notIterableAtAll;refine ae (wpAny_specialOf ht.typeIs slot_list_iter.lookup ?_);refine ai ?_;simp only[Bool.false_eq_true,if_false];refine ae (bh (dN ht ?_));have ht0:(s.heap.push {cls:=.type "list_iterator",data:=.fields #[.ref t,.int 0 0]}).IsList t items:=ht.at λo e=>Heap.get?_push_of_some _ e;refine ae (bh (NJ hlt items.size 0 _ _ ⟨_,Heap.get?_push_size _ rfl,rfl,rfl⟩ ht0 (by omega) λh₁ hit₁ hs₁=>?_));have hall:List.take items.size (List.drop 0 items.toList)=items.toList:=by rw[fC];exact aX (by simp)
  rw[hall];rw[if_neg (by simp)];have ht₁:h₁.IsList t items:=ht0.at λo e=>hs₁.extBut _ _ hlt e;refine ae (bh (wpAny_pyNext_list_end hh hit₁ ht₁ (by simp) λh₂ he₂=>?_));simp only[Option.isSome_none,Bool.false_eq_true,if_false];refine ai (hQ h₂ λb o hb e=>he₂ b o hb (hs₁.extBut b o hb (Heap.get?_push_of_some _ e)))
theorem UJ{s:ag}{env:Env}{elts:List Expr}{x1}{pos:Pos}{t:Addr}{items:Array Value}{Q:Unit->ag->Prop}(hh:A.handled=none)(ht:s.heap.IsList t items)(hn:(cq elts env).length=items.size)(hstar:(cq elts env).findIdx? (·.1)=none)(h:∀h',Heap.ExtBut s.heap.objs.size s.heap h'->wpAny (model prog w) A (assignInOrder ((cq elts env).map (·.2)) items.toList) Q E {s with heap:=h'}):wpAny (model prog w) A (assign (.Tuple elts x1 pos) env (.ref t)) Q E s:=by rw[assign_Tuple];refine ae (gC ?_);unfold unpack;rw[hn,hstar];exact ae (bh (UM hh ht h))
end
section
variable {X:Cx}{pos:Pos}
def gLst(K:aa)(n:Nat)(t:TGs):TG:=λv σ H Q=>∃a xs,v=.ref a/\SqL K H a xs/\xs.length=n/\t xs σ H Q
theorem EZ{es:List Expr}{k:Nat}{t:TGs}{n:Nat}(hc:X.calm=true)(h:PGs X es t)(hn:(cq es X.env).length=n:=by rfl)(hst:(cq es X.env).findIdx? (·.1)=none:=by rfl):PG X (.Tuple es k pos) (gLst X.K n t):=by intro pins s σ H v u Q I r hw;obtain⟨a,xs,e1,hq,hl,hw⟩:=hw;subst e1;cases r;obtain⟨its,rv,ht,hz⟩:=I.list hq;refine UJ (I.ok.hd hc) ht.isList (by simp[hn,<-hl,rv.length]) hst λh' hx=>?_;have I1:Inv X pins σ H {s with heap:=h'}:=I.kept (t':=s.toks) λb o e=>hx b o (Nat.ne_of_lt (Heap.lt_size e)) e;exact h pins _ σ H xs _ Q I1 (by simpa using rv) hw
noncomputable def rLen(K:aa):List V->Hp->VK->Prop:=λxs H Q=>∃p ys,xs=[.ref p]/\(SqL K H p ys\/SqT K H p ys)/\Q (.int ys.length) H
theorem ZU:YS X (.builtin "len") (rLen X.K):=JH
noncomputable def rSum(K:aa):List V->Hp->VK->Prop:=λxs H Q=>∃(p:Addr)(ns:List Int),xs=[.ref p]/\SqL K H p (ns.map V.int)/\Q (.int ns.sum) H
theorem Js(hc:X.calm=true):YS X (.builtin "sum") (rSum X.K):=by intro pins s σ H xs us Q I r h;obtain⟨p,ns,rfl,hq,q⟩:=h;obtain⟨u,rfl,rx⟩:=vals1 r;cases rx;obtain⟨its,rv,pl,hz⟩:=I.list hq;have hi:IntsAre its ns:=intsAre_of rv;obtain⟨xs',e⟩:=(show AllInts its.toArray from hi.allInts).items;have hl:s.heap.IsList p (intItems xs'):=e▸pl.isList;refine sum_intListG (I.ok.hd hc) hl λh' tk t' hk=>⟨.int ns.sum,H,I.kept hk,⟨t',?_⟩,q⟩;rw[preSum_eq,aX (by simp),<-nums_intItems,<-e];have:numsOf its=ns:=hi.numsOf;rw[show its.toArray.toList=its from rfl,this]
end
mutual
inductive Is(H:Hp):V->PyData->Prop
|non:Is H .non .none
|bl (b:Bool):Is H (.bl b) (.bool b)
|int (i:Int):Is H (.int i) (.int i)
|str (z:Str):Is H (.str z) (.str z)
|lst {a:Addr}{xs:List V}{ds:List PyData} (e:H a=some (.lst xs)) (r:IsAll H xs ds):Is H (.ref a) (.list ds)
|tup {a:Addr}{xs:List V}{ds:List PyData} (e:H a=some (.tup xs)) (r:IsAll H xs ds):Is H (.ref a) (.tuple ds)
inductive IsAll(H:Hp):List V->List PyData->Prop
|nil:IsAll H [] []
|cons {x:V}{xs:List V}{d:PyData}{ds:List PyData} (h:Is H x d) (r:IsAll H xs ds):IsAll H (x::xs) (d::ds)
end
section
variable {P:Program}{w:World}{H:Hp}{h:Heap}
mutual
theorem Is.reads(ok:HOk P w H h):∀{x:V}{d:PyData}{v:Value},Is H x d->RelV x v->∃as,Reads h v d as
|_,_,_,.non,r=>by cases r;exact⟨_,.none⟩
|_,_,_,.bl b,r=>by cases r;exact⟨_,.bool b⟩
|_,_,_,.int i,r=>by obtain⟨t,rfl⟩:=r;exact⟨_,.int i t⟩
|_,_,_,.str z,r=>by obtain⟨t,rfl⟩:=r;exact⟨_,.str z t⟩
|_,_,_,.lst e q,r=>by cases r;obtain⟨_,its,n,rv,e2⟩:=ok _ _ e;obtain⟨as,ra⟩:=IsAll.reads ok q rv;exact⟨_,.list e2 rfl rfl (by simpa using ra)⟩
|_,_,_,.tup e q,r=>by cases r;obtain⟨_,its,rv,o,e2,hc,n,hd⟩:=ok _ _ e;obtain⟨as,ra⟩:=IsAll.reads ok q rv;exact⟨_,.tuple e2 hc hd (by simpa using ra)⟩
theorem IsAll.reads(ok:HOk P w H h):∀{xs:List V}{ds:List PyData}{us:List Value},IsAll H xs ds->Vals xs us->∃as,ReadsAll h us ds as
|_,_,_,.nil,r=>by cases r;exact⟨_,.nil⟩
|_,_,_,.cons a b,r=>by
  cases r with
 |cons r1 r2=>obtain⟨as,h1⟩:=Is.reads ok a r1;obtain⟨bs,h2⟩:=IsAll.reads ok b r2;exact⟨_,.cons h1 h2⟩
end
mutual
theorem Is.nodict:∀{x:V}{d:PyData},Is H x d->d.hasDict=false
|_,_,.non=>by simp only[PyData.hasDict]
|_,_,.bl b=>by simp only[PyData.hasDict]
|_,_,.int i=>by simp only[PyData.hasDict]
|_,_,.str z=>by simp only[PyData.hasDict]
|_,_,.lst e q=>by simp only[PyData.hasDict];exact IsAll.nodict q
|_,_,.tup e q=>by simp only[PyData.hasDict];exact IsAll.nodict q
theorem IsAll.nodict:∀{xs:List V}{ds:List PyData},IsAll H xs ds->PyData.hasDictAll ds=false
|_,_,.nil=>by simp only[PyData.hasDictAll]
|_,_,.cons a b=>by simp only[PyData.hasDictAll,Is.nodict a,IsAll.nodict b,Bool.or_false]
end
mutual
theorem Is.same{H':Hp}(s:Same H H'):∀{x:V}{d:PyData},Is H x d->Is H' x d
|_,_,.non=>.non
|_,_,.bl b=>.bl b
|_,_,.int i=>.int i
|_,_,.str z=>.str z
|_,_,.lst e q=>.lst (s _ _ e) (IsAll.same s q)
|_,_,.tup e q=>.tup (s _ _ e) (IsAll.same s q)
theorem IsAll.same{H':Hp}(s:Same H H'):∀{xs:List V}{ds:List PyData},IsAll H xs ds->IsAll H' xs ds
|_,_,.nil=>.nil
|_,_,.cons a b=>.cons (Is.same s a) (IsAll.same s b)
end
end
section
variable {X:Cx}
noncomputable def HG:List V->Hp->VK->Prop:=λxs H Q=>∃a d,xs=[.ref a]/\Is H (.ref a) d/\d.showable=true/\d.depth<=64/\d.shown.length<=sizeLine/\Q (.str d.shown) H
theorem M6{k:Nat}(hr:Room k X.A):YS X (.builtin "repr") HG:=by intro pins s σ H xs us Q I r h;obtain⟨a,d,rfl,hd,hs,hdp,hz,q⟩:=h;obtain⟨u,rfl,rx⟩:=vals1 r;obtain⟨as,rd⟩:=hd.reads I.hok rx;cases rx;exact repr_of_reads' rd hs (PyData.noDict_hsm hd.nodict) hr.gd (by have:=hr.un;omega) (λ_ _ e=>e) (λh' u tk hk=>⟨.str d.shown,H,I.kept hk,⟨u,rfl⟩,q⟩) hz
end
theorem Zg.new'{b l:Addr}{H H1:Hp}{o:HO}(x:Zg b H H1)(hl:H1 l=none):Zg b H (L2.upd H1 l o):=λc u h hc=>by rw[Zj (Zi (x c u h hc) hl)];exact x c u h hc
theorem Zg.put{b:Addr}{H H1:Hp}{o:HO}(x:Zg b H H1):Zg b H (L2.upd H1 b o):=λc u h hc=>by rw[Zj hc];exact x c u h hc
theorem at_of{α:Type}{xs:List α}{r:Int}(h0:0<=r)(h1:r<(xs.length:Int)):∃v,atI xs r=some v/\v∈xs:=by
 have e1:((r.toNat:Nat):Int)=r:=Int.toNat_of_nonneg h0;have hr':r.toNat<xs.length:=by omega
 refine⟨xs[r.toNat],?_,aD hr'⟩;have h:=Zu (xs:=xs) (gE hr');rwa [e1]at h
end L2
namespace WD
open PySem L2 PySem.Spec PyProof.Rows TB
noncomputable def Blts:List Str:=["len","range","int","list","tuple","zip","sum","repr","max","isinstance","bool","str","enumerate"]
theorem bm{mg:Str->Option Value}(B:∀x∈Blts,mg x=none){x:Str}(h:x∈Blts:=by decide +kernel):mg x=none:=B x h
noncomputable def boxV(x y z:Int):HO:=.lst [.int x,.int y,.int z]
def ZD(H:Hp)(b:Addr):Prop:=∃x y z:Int,H b=some (boxV x y z)
theorem ZD.new{H:Hp}{b l:Addr}{o:HO}(h:ZD H b)(hl:H l=none):ZD (upd H l o) b:=by obtain⟨x,y,z,e⟩:=h;exact⟨x,y,z,by rw[Zj (Zi e hl)];exact e⟩
theorem ZD.ne{H:Hp}{b l:Addr}(h:ZD H b)(hl:H l=none):l≠b:=by obtain⟨x,y,z,e⟩:=h;exact(Zi e hl).symm
theorem ZD.same{H H':Hp}{b:Addr}(h:ZD H b)(s:Same H H'):ZD H' b:=by obtain⟨x,y,z,e⟩:=h;exact⟨x,y,z,s _ _ e⟩
theorem al{b c:Addr}{H:Hp}{o:HO}{G:Hp->Prop}(B:ZD H b)(h:H c=none)(k:∀H',ZD H' b->Zg b H H'->H' c=some o->c≠b->G H'):G (upd H c o):=k _ (B.new h) ((Zg.refl b H).new' h) Zf (B.ne h)
theorem al2{b c:Addr}{H:Hp}{o:HO}{R:Type}{q:R}{G:Hp->R->Prop}(B:ZD H b)(h:H c=none)(k:∀H',ZD H' b->Zg b H H'->H' c=some o->c≠b->G H' q):G (upd H c o) q:=al (G:=λH=>G H q) B h k
theorem al2E{b c:Addr}{H:Hp}{o o':HO}{R:Type}{q:R}{G:Hp->R->Prop}(e:o=o')(B:ZD H b)(h:H c=none)(k:∀H',ZD H' b->Zg b H H'->H' c=some o'->c≠b->G H' q):G (upd H c o) q:=by subst e;exact al2 B h k
def Sn:Sp:=λvs H Q _=>∃c:Int,vs=[.int c]/\∀l H',H l=none->ZD H' l->Same H H'->Q (.ref l) H'
def Y2:Sp:=λvs H Q _=>∃(b:Addr)(n:Int),vs=[.ref b,.int n]/\ZD H b/\0<n/\n.natAbs.log2<9000/\∀(r:Int)H',0<=r->r<n->ZD H' b->Zg b H H'->Q (.int r) H'
theorem Nu(a m:Int)(h:0<m)(hm:m<2 ^ 64):-(2 ^ 64)<a % m/\a % m<2 ^ 64:=by have h1:=Int.emod_nonneg a (by omega:m≠0);have h2:=Int.emod_lt_of_pos a h;omega
theorem ZT{n:Int}(h:0<=n)(h2:n<=1000):n.natAbs.log2<9000:=Nat.lt_of_le_of_lt (Nat.log2_le_self _) (by omega)
theorem tkC{b:Addr}{i:Nat}{n:Int}{σ:L2.St}{H:Hp}{Q:VK}{E:XK}(hb:ZD H b)(k:∀(r:Int)H',0<=r->r<n->ZD H' b->Zg b H H'->Q (.int r) H')(h0:0<n:=by decide)(hl:n.natAbs.log2<9000:=by exact ZT (by decide) (by decide))(hv:σ[i]?=some (some (.ref b)):=by rfl):Mp Y2 [] E (Yl (tVar i) (Yl (tC (.int n)) tNil)) σ H Q:=⟨_,hv,b,n,rfl,hb,h0,hl,k⟩
theorem Xh{p:Bool}{A B:Prop}(h1:p=true->A)(h2:p=false->B):if p=true then A else B:=by
 cases p
 ·exact h2 rfl
 ·exact h1 rfl
section
variable {P:Program}{w:World}{K:aa}{mg:Str->Option Value}{base:Heap}
theorem Q5:FnScope ["_law_cell_here"] ["_law_cell_here"] (Zd T.f__law_box):=scO
theorem DY(B:∀x∈Blts,mg x=none)(D:Df K mg "_law_box" T.f__law_box ["_law_cell_here"]):Can P w K mg base 1 "_law_box" ["_law_cell_here"] Sn:=by refine D.cn Q5 λf cdv A outer s H vs Q E hr h=>?_;obtain⟨c,rfl,k⟩:=h;refine⟨_,(Ze (Zn (Zz (Zc (Zy (GR rfl) rfl (bm B) eJ (Zc Zb (Zc (Zp XE (pv 0) (Zp Fe Zb Zb)) Zk))) (Zc (Zp Xu (pv 0) Zb) (Zc Zb Zk)))))),?_⟩;refine⟨_,rfl,_,_,rfl,rfl,⟨by decide,by decide,by decide⟩,_,_,rfl,rfl,_,_,rfl,_,rfl,_,_,rfl,rfl,(by show(0:Int)<2147483647;decide),(zl),λp hp=>?_⟩;exact k p _ hp ⟨_,_,_,Zf⟩ (sameNew (Same.refl _) hp)
theorem XQ:FnScope [q_b,"_law_many","_law_digit","_law_number"] [q_b,"_law_many"] (Zd T.f__law_take):=scO
theorem LC(D:Df K mg "_law_take" T.f__law_take [q_b,"_law_many"]):Can P w K mg base 1 "_law_take" [q_b,"_law_many"] Y2:=by
 refine D.cn XQ λf cdv A outer s H vs Q E hr h=>?_;obtain⟨b,n,rfl,⟨x,y,z,hb⟩,hn,hlog,k0⟩:=h;have k:∀r x' y' z':Int,0<=r->r<n->Q (.int r) (upd H b (boxV x' y' z')):=λr x' y' z' h0 h1=>k0 r _ h0 h1 ⟨_,_,_,Zf⟩ (Zg.refl b H).put;refine⟨_,(Za (ZF (Zq ML (il K (pv 0) Zb) Zb (ZA _)) (Za (st 2 XQ.nd (Zp Xu (il K (pv 0) Zb) (pv 1))) (Za (X0 (Zp K2 (il K (pv 0) Zb) (pv 1)) (Rh (pv 0) Zb set_list)) (Ze (Zn (pv 2))))) Zr) (Za (X0 (Zp ZG (il K (pv 0) Zb) Zb) (Rh (pv 0) Zb set_list)) (Za (st 3 XQ.nd (Zp Xu (Zp ZG (Zp ZG (Zp JB (il K (pv 0) Zb) Zb) (Zp JB Zb (il K (pv 0) Zb))) Zb) Zb)) (Za (st 3 XQ.nd (Zp Xu (Zp JB (Zp Xu (Zp JB (pv 3) (pv 3)) Zb) Zb) Zb)) (Ze (Zn (Zp Xu (Zp SM (Zp Xu (Zp JB (pv 3) (pv 3)) Zb) Zb) (pv 1)))))))),?_⟩;have a0:atI [V.int x,V.int y,V.int z] 0=some (.int x):=Zu (j:=0) rfl;refine iaL hb a0 ⟨_,_,rfl,rfl,_,rfl,?_⟩;refine ite2 (λe=>?_) (λe=>?_)
 ·refine iaL hb a0 ⟨_,rfl,_,_,rfl,rfl,hn,?_⟩;refine iaL hb a0 ⟨_,rfl,_,_,rfl,rfl,⟨hn,hlog⟩,?_⟩;refine⟨_,rfl,b,_,0,0,rfl,rfl,hb,rfl,_,rfl,?_⟩;exact k _ _ _ _ (Int.emod_nonneg _ (by omega)) (Int.emod_lt_of_pos _ hn)
 ·have a2:atI [V.int x,V.int y,V.int z] 2=some (.int z):=Zu (j:=2) rfl;refine iaL hb a2 ⟨_,_,rfl,rfl,?_⟩;refine⟨_,rfl,b,_,2,2,rfl,rfl,hb,rfl,?_⟩;have hb2:upd H b (.lst ([V.int x,V.int y,V.int z].set 2 (.int (z+1)))) b=some (boxV x y (z+1)):=Zf;have b1:atI [V.int x,V.int y,V.int (z+1)] 1=some (.int y):=Zu (j:=1) rfl;have b2:atI [V.int x,V.int y,V.int (z+1)] 2=some (.int (z+1)):=Zu (j:=2) rfl;refine iaL hb2 b1 ⟨_,_,rfl,rfl,.inr ⟨by decide,by decide⟩,iaL hb2 b2 ⟨_,_,rfl,rfl,.inl ⟨by decide,by decide⟩,_,_,rfl,rfl,_,_,rfl,rfl,_,_,rfl,rfl,(by show(0:Int)<2147483629;decide),?_⟩⟩;refine⟨_,rfl,_,rfl,_,_,rfl,rfl,.inl (Nu _ _ (by decide) (by decide)),_,_,rfl,rfl,(by show(0:Int)<2147483587;decide),_,_,rfl,rfl,.inr ⟨by decide,by decide⟩,_,_,rfl,rfl,(by show(0:Int)<2147483647;decide),?_⟩;refine⟨_,rfl,_,rfl,_,_,rfl,rfl,.inl (Nu _ _ (by decide) (by decide)),_,_,rfl,rfl,(by show(0:Int)<2147483629;decide),_,_,rfl,rfl,⟨by decide,by decide⟩,_,rfl,_,_,rfl,rfl,hn,?_⟩;exact k _ _ _ _ (Int.emod_nonneg _ (by omega)) (Int.emod_lt_of_pos _ hn)
end
noncomputable abbrev codes:=K1.codes
noncomputable abbrev LET:=K1.LET
theorem Wn{a b:Str}(h:codes a=codes b):a=b:=by
 obtain⟨x⟩:=a;obtain⟨y⟩:=b;have:x=y:=by simpa[K1.codes]using h
 rw[this]
theorem YQ(a b:Str):codes (a++b)=codes a++codes b:=by show(a.cps++b.cps).toList=_;simp[K1.codes]
theorem Wm(c:Nat):codes ⟨#[c]⟩=[c]:=rfl
theorem VZ{α:Type}(xs:List α)(a:Nat):∀k,a+k<=xs.length->((aT k).map λi=>a+i).filterMap (λi=>xs[i]?)=(xs.drop a).take k
|0,_=>by simp
|k+1,h=>by
  rw[bR,aI,List.filterMap_append,VZ xs a k (by omega)];have hk:a+k<xs.length:=by omega
  rw[a9];congr 1;simp[hk]
theorem Ln(n:Nat)(j:Int)(h:0<=j):cQ none (some j) 1 n=(aT (min j.toNat n)).map λi=>0+i:=by
 unfold cQ sliceRange;obtain⟨m,rfl⟩:=Int.eq_ofNat_of_zero_le h;simp only[show(1:Int)>0 by decide,if_true,show ¬(m:Int)<0 by omega,if_false];rw[show max 0 (min (m:Int) n)=((min m n:Nat):Int) by omega,Int.toNat_natCast];generalize min m n=t;have e:(if(0:Int)<t then((t:Int)-0+1-1) / 1 else 0).toNat=t:=by rw[Int.ediv_one];split<;>omega
 rw[e];apply de;intro k _;omega
theorem Lo(n:Nat)(j:Int)(h:0<=j)(h2:j<=n):cQ (some j) none 1 n=(aT (n-j.toNat)).map λi=>j.toNat+i:=by
 unfold cQ sliceRange;obtain⟨m,rfl⟩:=Int.eq_ofNat_of_zero_le h;simp only[show(1:Int)>0 by decide,if_true,show ¬(m:Int)<0 by omega,if_false];rw[show max 0 (min (m:Int) n)=m by omega,Int.toNat_natCast];have e:(if(m:Int)<(n:Int)then((n:Int)-m+1-1) / 1 else 0).toNat=n-m:=by rw[Int.ediv_one];split<;>omega
 rw[e];apply de;intro k _;omega
theorem Qf(x:Str)(l:List Nat):(l.filterMap (x.cps[·]?))=l.filterMap (λi=>(codes x)[i]?):=by congr 1;funext i;simp[K1.codes]
theorem Z1(x:Str):(codes x).length=x.length:=K1.clen x
theorem MX(x:Str)(j:Int)(h:0<=j):codes (Txt.slice x none (some j))=(codes x).take j.toNat:=by
 unfold Txt.slice;rw[Ln _ _ h];split
 ·rename_i hq;have:min j.toNat x.length=x.length:=by simpa using hq
  rw[aX (by rw[Z1];omega)]
 ·show(List.filterMap _ _)=_;rw[Qf,VZ _ 0 _ (by rw[Z1];omega),fC];rcases Nat.le_total j.toNat x.length with hh|hh
  ·rw[Nat.min_eq_left hh]
  ·rw[Nat.min_eq_right hh,aX (by rw[Z1];exact Nat.le_refl _),aX (by rw[Z1];omega)]
theorem Ry(x:Str)(j:Int)(h:0<=j)(h2:j<=x.length):codes (Txt.slice x (some j) none)=(codes x).drop j.toNat:=by
 unfold Txt.slice;rw[Lo _ _ h h2];split
 ·rename_i hq;have:x.length-j.toNat=x.length:=by simpa using hq
  have hl:=Z1 x;rcases Nat.eq_zero_or_pos x.length with e|e
  ·have:codes x=[]:=gR (by omega);rw[this];simp
  ·have:j.toNat=0:=by omega
   rw[this,fC]
 ·show(List.filterMap _ _)=_;rw[Qf,VZ _ j.toNat _ (by rw[Z1];omega),aX (by rw[bf,Z1];omega)]
theorem MY:∀(ts:List Str),codes (Txt.join Str.empty ts)=(ts.map codes).flatten
|[]=>rfl
|[t]=>by show codes (Txt.join Str.empty [t])=_;unfold Txt.join;rw[fQ];show codes t=_;simp
|t::u::r=>by have ih:=MY (u::r);unfold Txt.join at ih ⊢;rw[fQ]at ih ⊢;show codes (t++Str.empty++Str.join Str.empty (u::r))=_;rw[YQ,YQ,ih];simp[K1.codes,Str.empty]
def Bs(n:Nat)(t:Str):Prop:=(codes t).length=n/\∀c∈codes t,c∈LET
theorem Bs.join{ts:List Str}(h:∀t∈ts,Bs 1 t):Bs ts.length (Txt.join Str.empty ts):=by
 unfold Bs;rw[MY];induction ts with
|nil=>simp
|cons t r ih=>
  obtain⟨a,b⟩:=h t aE;obtain⟨a',b'⟩:=ih λu hu=>h u (av _ hu);refine⟨by simp only[ar,List.flatten_cons,ah,aW];omega,λc hc=>?_⟩;rw[ar,List.flatten_cons]at hc;rcases aw.mp hc with hc|hc
  ·exact b c hc
  ·exact b' c hc
theorem nodup_map_on{α β:Type}{f:α->β}:∀{l:List α},l.Nodup->(∀a∈l,∀b∈l,f a=f b->a=b)->(l.map f).Nodup
|[],_,_=>cD
|a::l,h,i=>by rw[ar,bB];rw[bB]at h;refine⟨λhm=>?_,nodup_map_on h.2 λx hx y hy e=>i x (av _ hx) y (av _ hy) e⟩;obtain⟨b,hb,e⟩:=af.mp hm;exact h.1 (i b (av _ hb) a aE e▸hb)
noncomputable def put(base:Str)(at_:Nat)(c:Nat):Str:=Txt.slice base none (some (at_:Int))++⟨#[c]⟩++Txt.slice base (some (at_:Int)) none
theorem Wl{base:Str}{a:Nat}(h:a<=base.length)(c:Nat):codes (put base a c)=(codes base).take a++[c]++(codes base).drop a:=by unfold put;rw[YQ,YQ,MX _ _ (by omega),Ry _ _ (by omega) (by omega),Wm];simp
noncomputable def sgn(f k:Nat):Nat:=LET.getD ((f+5*k) % 26) 0
noncomputable def puts(base:Str)(a f n:Nat):List Str:=(aT n).map λk=>put base a (sgn f k)
end WD
namespace L2
open PySem PySem.Spec PyProof.Rows
section
variable {X:Cx}
theorem Pg{i:Nat}{x:Str}{pos' pos2:Pos}{elt iter tg:Expr}{ifs:List Expr}{scope:Scope}{pos:Pos}{N:List Str}{cp:List (Option Nat)}{wi:TI}{g:TG}{tc:TT}{te:TE}(hNd:X.N.Nodup)(hix:X.N[i]?=some x)(hlx:Loc X.env.scope x)(hc:X.calm=true){sc:Scope}{N0:List Str}(hS0:CompScope scope sc)(hN0:CompNames N0 scope N cp)
  (hi:PI X tg iter wi) (hg:∀C s H ex pn,PG (XI X scope N C s H ex pn) tg g) (ht:∀C s H ex pn,PTs (XI X scope N C s H ex pn) ifs tc) (he:∀C s H ex pn,PE (XI X scope N C s H ex pn) elt te)
  (hsw:fz (.ListComp elt [⟨tg,iter,ifs,0⟩] scope pos) (some (.Name x pos')) pos2.line X.env=pure true:=by with_unfolding_all rfl) (hff:X.fn x=true\/X.env.scope.names.lookup x=some .local:=by first|exact .inl rfl|exact .inr rfl|assumption)
  (hsc:X.env.scope=sc:=by rfl) (hxn:X.N=N0:=by rfl) (hs:∀x,fj iter X.env x=pure x:=by intro _;rfl):PS X (.Assign [.Name x pos'] (.ListComp elt [⟨tg,iter,ifs,0⟩] scope pos) pos2) (tAsg (R1 cp wi g tc te) (Zt i)):=by
 subst hsc hxn
 intro pins s σ H D I h
 rw[exec_Assign_Name_used _ _ _ _ hsw]
 refine ae (gC (ae ?_))
 show wpAny _ _ (do let _ <-comprehension (.ListComp elt [⟨tg,iter,ifs,0⟩] scope pos) scope X.env _ (newList []) false (eval iter X.env) (some (assign (.Name x pos') X.env))) _ _ s
 refine ae (dC (NM (R:=λ_ s'=>SP X pins D .next s') (use:=some (assign (.Name x pos') X.env)) hc hS0 hN0 hi hg ht he hs I h λD' C H5 s4 m I5 hn h1 h2 h3 h4 h5 q=>?_) (λ_ s' hq=>ai (ai hq)) λ_ _ e=>e)
 refine wpAny_assign_Name (Nq I5 hNd hix hlx (v:=.ref D') rfl (λs' I6 hsb=>?_) hff)
 obtain⟨a,hsb,ha⟩:=hsb
 have haC:C≠a:=by
  rcases ha with rfl|ha
  ·exact h1
  ·exact(h2 _ _ ha).symm
 exact⟨m,hn.sameBut hsb haC,λh'' hs''=>⟨_,_,I6.turned (t':=s'.toks) (it:=C) (λb o hb e=>(hs''.2 b hb).trans e) h3 h1 (.inr h4) h2 h5,q⟩⟩
end
end L2
namespace WD
open PySem L2 PySem.Spec PyProof.Rows TB
noncomputable abbrev Pl:=List (Str×Option Int)
noncomputable def VF:Option Int->V
|none=>.non
|some i=>.int i
noncomputable def plRow(p:Str×Option Int):List V:=[.str p.1,VF p.2]
def Xn(b:Addr)(H:Hp)(l:Addr)(rows:List (List V)):Prop:=l≠b/\∃as:List Addr,H l=some (.lst (as.map V.ref))/\as.length=rows.length/\∀(i:Nat)a r,as[i]?=some a->rows[i]?=some r->a≠b/\H a=some (.tup r)
theorem Xn.same{b:Addr}{H H':Hp}{l:Addr}{rows:List (List V)}(s:Zg b H H')(h:Xn b H l rows):Xn b H' l rows:=by obtain⟨n,as,e,hl,r⟩:=h;exact⟨n,as,s _ _ e n,hl,λi a q h1 h2=>let ⟨x,y⟩:=r i a q h1 h2;⟨x,s _ _ y x⟩⟩
theorem ZD.same_ne{H:Hp}{b q:Addr}{o:HO}(h:ZD H b)(n:q≠b):ZD (upd H q o) b:=by obtain⟨x,y,z,e⟩:=h;exact⟨x,y,z,by rw[Zj n.symm];exact e⟩
theorem Nv{b q:Addr}{H H4 H6:Hp}{o:HO}(s:Zg b H H6)(s4:Zg b H H4)(nqb:q≠b)(hq:H4 q=none):Zg b H (upd H6 q o):=λc u h hc=>by
 have:c≠q:=λz=>by rw[z]at h hc;rw[s4 _ _ h hc]at hq;cases hq
 rw[Zj this];exact s c u h hc
structure Rd where
 nm:Str
 st:Str
 lv:Int
 gl:Str
 cm:Int
 se:Int
noncomputable def Sw(r:Rd):List V:=[.str r.nm,.str r.st,.int r.lv,.str r.gl,.int r.cm,.int r.se]
structure Wy where
 nm:Str
 st:Str
 gl:Str
 lo:Int
 wi:Int
noncomputable def RW(r:Wy):List V:=[.str r.nm,.str r.st,.str r.gl,.int r.lo,.int r.wi]
structure Gr where
 nm:Str
 pl:Str
 tu:Int
 ma:Int
noncomputable def Qz(r:Gr):List V:=[.str r.nm,.str r.pl,.int r.tu,.int r.ma]
structure Ends(ps:Pl)(s g:Str):Prop where
 st:∃i,(s,some i)∈ps
 gl:∃r,(g,r)∈ps
 ne:s≠g
structure GoodRd(n:Int)(ps:Pl)(r:Rd):Prop where
 ends:Ends ps r.st r.gl
 lv0:0<=r.lv
 lv1:r.lv<=n-1
 cm0:r.lv+1<=r.cm
 cm1:r.cm<=n
 se0:0<=r.se
 se1:r.se<=1000
structure GoodWy(ps:Pl)(r:Wy):Prop where
 ends:Ends ps r.st r.gl
 lo0:1<=r.lo
 lo1:r.lo<=50
 wi0:0<=r.wi
 wi1:r.wi<=1000
theorem Xi{i lo hi:Int}(h1:lo<=i)(h2:i<=hi):K1.Zx (.int i) lo hi=true:=by show(decide (lo<=i)&&decide (i<=hi))=true;simp[h1,h2]
end WD
namespace L2
open PySem PySem.W PySem.Spec PyProof.Rows
section
variable {X:Cx}
def rNil(neg:Bool)(K:aa):R2:=λx y H Q=>∃a b xs,x=.ref a/\y=.ref b/\SqL K H a xs/\H b=some (.lst [])/\Q (.bl (if neg then !decide (xs=[])else decide (xs=[]))) H
noncomputable def YV(xs ys:List V):Bool:=(aT (min xs.length ys.length)).all (λj=>eqV (xs.getD j .non) (ys.getD j .non))&&xs.length==ys.length
theorem Lu{x:V}(h:Yy x=true):eqV x x=true:=by
 cases x with
|bl b=>simp[eqV]
|int i=>simp[eqV]
|str z=>simp[eqV]
|non=>rfl
|_=>cases h
theorem MF{xs:List V}(h:xs.all Yy=true):YV xs xs=true:=by
 unfold YV;rw[Bool.and_eq_true];refine⟨?_,by simp⟩;rw[ba]at h ⊢;intro j hj;rw[bj]at hj;have hj':j<xs.length:=by omega
 refine Lu (h _ ?_);rw[ax,gE hj'];exact aD hj'
noncomputable def rowAt(H:Hp)(v:Value):List V:=match v with
|.ref c=>match H c with
 |some (.tup r)=>r
 |_=>[]
|_=>[]
def Dp:R2:=λx y H Q=>∃(a l:Addr)(xs:List V)(as:List Addr)(rows:List (List V)),x=.ref a/\y=.ref l/\H a=some (.tup xs)/\xs.all Yy=true/\H l=some (.lst (as.map V.ref))/\as.length=rows.length /\(∀(i:Nat)c r,as[i]?=some c->rows[i]?=some r->H c=some (.tup r)/\r.all Yy=true)/\Q (.bl (rows.any λr=>YV r xs)) H
theorem ME{H:Hp}{xs:List V}:∀{as:List Addr}{rows:List (List V)},as.length=rows.length->(∀(i:Nat)c r,as[i]?=some c->rows[i]?=some r->H c=some (.tup r)/\r.all Yy=true) ->(as.map Value.ref).any (λu=>YV (rowAt H u) xs)=rows.any λr=>YV r xs
|[],[],_,_=>rfl
|[],_::_,h,_=>by cases h
|_::_,[],h,_=>by cases h
|a::as,r::rows,h,hr=>by
  rw[ar,b6,b6,ME (as:=as) (rows:=rows) (by simpa using h) λi c q h1 h2=>hr (i+1) c q (by simpa using h1) (by simpa using h2)];have:=(hr 0 a r rfl rfl).1;have e:rowAt H (.ref a)=r:=by unfold rowAt;dsimp only;rw[this]
  rw[e]
theorem Pf:∀{as:List Addr}{us:List Value},Vals (as.map V.ref) us->us=as.map Value.ref
|[],_,r=>by cases r;rfl
|a::as,_,r=>by
  cases r with
 |cons r1 r2=>cases r1;rw[Pf r2];rfl
theorem Ri(hu:X.A.units+64<cLine):OpR X (bp .In) Dp:=by
 intro pins s σ H x y v u Q I rx ry h;obtain⟨a,l,xs,as,rows,rfl,rfl,ha,fx,hl,len,hr,q⟩:=h;cases rx;cases ry;obtain⟨its,rv,p,hz⟩:=I.list (SqL.of hl);have eu:=Pf rv;subst eu;obtain⟨ia,ra,pa,za⟩:=I.tuple (SqT.of ha);have key:∀c r,H c=some (.tup r)->r.all Yy=true->SeqAt.EqAt X.A.in1 s (.ref c) (.ref a) (YV r xs):=λc r hc fr=>by
  by_cases e:c=a
  ·subst e;rw[ha]at hc;cases hc;rw[MF fx];exact fY _
  ·obtain⟨ic,rc,pc,zc⟩:=I.tuple (SqT.of hc);have z:=SeqAt.RcAt.tuples (A:=X.A.in1) (s:=s) (e:=λj=>eqV (r.getD j .non) (xs.getD j .non)) pc pa (by show X.A.units+1<cLine;omega) (λj h1 h2=>by
    have h1':j<r.length:=by rw[rc.length];simpa using h1
    have h2':j<xs.length:=by rw[ra.length];simpa using h2
    obtain⟨u1,e1,r1⟩:=rc.get (gE h1');obtain⟨u2,e2,r2⟩:=ra.get (gE h2');have f1:Yy r[j]=true:=ba.mp fr _ (aD h1');have f2:Yy xs[j]=true:=ba.mp fx _ (aD h2');have g1:r.getD j .non=r[j]:=by rw[ax,gE h1'];rfl
    have g2:xs.getD j .non=xs[j]:=by rw[ax,gE h2'];rfl
    have w1:ic.toArray[j]=u1:=by have:ic[j]?=some u1:=e1;rw[aj]at this;simpa using this.2
    have w2:ia.toArray[j]=u2:=by have:ia[j]?=some u2:=e2;rw[aj]at this;simpa using this.2
    rw[g1,g2,w1,w2];exact Rx r1 r2 f1 f2);rw[aq,aq,<-rc.length,<-ra.length]at z;exact SeqAt.EqAt.of_refs e z
 refine SeqAt.in_listAt (λu=>YV (rowAt H u) xs) p.isList (λw hw=>?_) ⟨.bl _,H,I,rfl,?_⟩
 ·have hw':w∈as.map Value.ref:=by simpa using hw
  obtain⟨c,hc,rfl⟩:=af.mp hw';obtain⟨i,hi⟩:=aU.mp hc;have hi':i<rows.length:=by rw[<-len];exact(aj.mp hi).1
  obtain⟨h1,h2⟩:=hr i c _ hi (gE hi');have e:rowAt H (.ref c)=rows[i]:=by unfold rowAt;dsimp only;rw[h1]
  rw[e];exact key c _ h1 h2
 ·have:(as.map Value.ref).toArray.any (λu=>YV (rowAt H u) xs)=rows.any λr=>YV r xs:=by rw[<-ME len hr];simp
  rw[this];exact q
end
end L2
namespace L2
open PySem PySem.Spec PyProof.Rows
section
variable {X:Cx}
def rNeD:R2:=λx y H Q=>∃d e,Is H x d/\Is H y e/\gj d=true/\gj e=true/\Q (.bl (!PyData.eqv d e)) H
theorem KY(hu:X.A.units+64<cLine):OpR X (bp .NotEq) rNeD:=by intro pins s σ H x y v u Q I rx ry h;obtain⟨d,e,h1,h2,s1,s2,q⟩:=h;obtain⟨as,r1⟩:=h1.reads I.hok rx;obtain⟨bs,r2⟩:=h2.reads I.hok ry;exact SeqAt.compareNe_shaped r1 r2 s1 s2 hu ⟨.bl _,H,I,rfl,q⟩
noncomputable def EU:List V->Hp->VK->Prop:=λxs H Q=>∃x d,xs=[x]/\Is H x d/\d.showable=true/\d.depth<=64/\d.shown.length<=sizeLine/\Q (.str d.shown) H
theorem RQ{k:Nat}(hr:Room k X.A):YS X (.builtin "repr") EU:=by
 intro pins s σ H xs us Q I r h;obtain⟨x,d,rfl,hd,hs,hdp,hz,q⟩:=h;have q0:=q;cases hd with
|non=>obtain⟨u,rfl,rx⟩:=vals1 r;cases rx;refine PySem.P.repr_of_none ⟨.str (PyData.none).shown,H,I.tok _,⟨s.toks,?_⟩,q⟩;simp only[PyData.shown]
|bl b=>obtain⟨u,rfl,rx⟩:=vals1 r;cases rx;refine PySem.P.repr_of_bool ⟨.str (PyData.bool b).shown,H,I.tok _,⟨s.toks,?_⟩,q⟩;simp only[PyData.shown]
|int i=>obtain⟨u,rfl,t,rfl⟩:=vals1 r;refine PySem.P.repr_of_int (by simpa[PyData.showable]using hs) ⟨.str (PyData.int i).shown,H,I.tok _,⟨s.toks,?_⟩,q⟩;simp only[PyData.shown]
|str z=>obtain⟨u,rfl,t,rfl⟩:=vals1 r;refine PySem.P.repr_of_str ⟨.str (PyData.str z).shown,H,I.tok _,⟨s.toks,?_⟩,q⟩ (by simpa only[PyData.shown]using hz);simp only[PyData.shown]
|lst e ra=>exact M6 hr pins s σ H _ us Q I r ⟨_,_,rfl,.lst e ra,hs,hdp,hz,q⟩
|tup e ra=>exact M6 hr pins s σ H _ us Q I r ⟨_,_,rfl,.tup e ra,hs,hdp,hz,q⟩
end
end L2
namespace WD
open PySem L2 PySem.Spec PyProof.Rows TB
noncomputable def szJ:Nat->Nat
|1=>2|2=>6|3=>5|_=>4
noncomputable def Qm:Nat->Nat
|1=>14|2=>80|3=>40|_=>300
noncomputable def Yu:Nat->Str
|1=>"places"|2=>"rides"|3=>"ways"|_=>"groups"
noncomputable def gJ(j:Nat):Bool:=decide (j=4)
noncomputable abbrev Kv:=List (Key×V)
noncomputable def whyJ(j:Nat)(k1:Kv)(n pp:Int)(ys:List V):V:=match j with
|1=>YA (at_ ys 1)
|2=>Kx k1 n ys
|3=>wayW k1 ys
|_=>UZ k1 n pp ys
noncomputable def dueJ(j:Nat)(k1:Kv)(n pp:Int)(kvs:Kv)(r:Option (List V)):V:=if begR (gJ j) (szJ j) kvs r≠.non then begR (gJ j) (szJ j) kvs r else match r with
 |some ys=>whyJ j k1 n pp ys
 |none=>.str "form"
noncomputable def JO(j:Nat)(k1:Kv)(n:Int):Nat->Int->Kv->List (V×Option (List V))->Sum (Nat×V) Kv
|_,_,kvs,[]=>.inr kvs
|i,pp,kvs,(x,r)::rs=>if dueJ j k1 n pp kvs r≠.non then .inl (i,dueJ j k1 n pp kvs r)else match r with
 |some ys=>JO j k1 n (i+1) (pp+ZC ys) (putK kvs (.inr (nameOf ys)) (if j=1 then at_ ys 1 else x)) rs
 |none=>.inl (i,.str "form")
theorem Vx{j:Nat}{k1:Kv}{n pp:Int}{kvs:Kv}{r:Option (List V)}(h:begR (gJ j) (szJ j) kvs r≠.non):dueJ j k1 n pp kvs r=begR (gJ j) (szJ j) kvs r:=by unfold dueJ;rw[if_pos h]
theorem Xp{j:Nat}{k1:Kv}{n pp:Int}{kvs:Kv}{ys:List V}(h:begR (gJ j) (szJ j) kvs (some ys)=.non):dueJ j k1 n pp kvs (some ys)=whyJ j k1 n pp ys:=by unfold dueJ;rw[if_neg (λz=>z h)]
theorem Vw{j:Nat}{k1:Kv}{n:Int}{i:Nat}{pp:Int}{kvs:Kv}{x:V}{r:Option (List V)}{rs:List (V×Option (List V))}(h:dueJ j k1 n pp kvs r≠.non):JO j k1 n i pp kvs ((x,r)::rs)=.inl (i,dueJ j k1 n pp kvs r):=by unfold JO;rw[if_pos h]
theorem Uo{j:Nat}{k1:Kv}{n:Int}{i:Nat}{pp:Int}{kvs:Kv}{x:V}{ys:List V}{rs:List (V×Option (List V))}(h:dueJ j k1 n pp kvs (some ys)=.non):JO j k1 n i pp kvs ((x,some ys)::rs)=JO j k1 n (i+1) (pp+ZC ys) (putK kvs (.inr (nameOf ys)) (if j=1 then at_ ys 1 else x)) rs:=by
 conv=>lhs;unfold JO
 rw[if_neg (λz=>z h)]
theorem MU{g:Bool}{m:Nat}{why:List V->V}{j:Nat}{k1:Kv}{n:Int}(hg:gJ j=g)(hm:szJ j=m)(hj:j≠1)(hw:∀pp ys,whyJ j k1 n pp ys=why ys):∀(rs:List (V×Option (List V)))(i:Nat)(pp:Int)(kvs:Kv),Jw g m why i kvs rs=JO j k1 n i pp kvs rs
|[],_,_,_=>rfl
|(x,r)::rs,i,pp,kvs=>by
  subst hg hm;by_cases b:begR (gJ j) (szJ j) kvs r=.non
  ·cases r with
  |none=>cases b
  |some ys=>
    rw[TF b];by_cases h:why ys=.non
    ·rw[if_neg (λz=>z h),Uo (by rw[Xp b,hw];exact h),if_neg hj];exact MU rfl rfl hj hw rs _ _ _
    ·rw[if_pos h,Vw (by rw[Xp b,hw];exact h),Xp b,hw]
  ·rw[Ku b,Vw (by rw[Vx b];exact b),Vx b]
theorem MW{k1:Kv}{n:Int}:∀(rs:List (V×Option (List V)))(i:Nat)(pp:Int)(kvs:Kv),XH k1 n i pp kvs rs=JO 4 k1 n i pp kvs rs
|[],_,_,_=>rfl
|(x,r)::rs,i,pp,kvs=>by
  by_cases b:begR true 4 kvs r=.non
  ·cases r with
  |none=>cases b
  |some ys=>
    have b':begR (gJ 4) (szJ 4) kvs (some ys)=.non:=b;rw[Qw b];by_cases h:UZ k1 n pp ys=.non
    ·rw[if_neg (λz=>z h),Uo (by rw[Xp b'];exact h),if_neg (by decide)];exact MW rs _ _ _
    ·rw[if_pos h,Vw (by rw[Xp b'];exact h),Xp b'];rfl
  ·have b':begR (gJ 4) (szJ 4) kvs r≠.non:=b;rw[Vw (by rw[Vx b'];exact b),Vx b'];unfold XH;rw[if_pos b];rfl
theorem MV{k1:Kv}{n:Int}:∀(xs:List V)(rs:List (Option (List V)))(i:Nat)(pp:Int)(kvs:Kv),xs.length=rs.length->Jf i kvs rs=JO 1 k1 n i pp kvs (xs.zip rs)
|[],[],_,_,_,_=>rfl
|[],_::_,_,_,_,h=>by cases h
|_::_,[],_,_,_,h=>by cases h
|x::xs,r::rs,i,pp,kvs,hl=>by
  rw[fZ];by_cases b:begR false 2 kvs r=.non
  ·obtain⟨ys,y,rfl,h2,h0⟩:=LV b;have b':begR (gJ 1) (szJ 1) kvs (some ys)=.non:=b;obtain⟨x0,room,rfl⟩:=len2 h2;have hx0:x0=.str y:=h0;subst hx0;conv=>lhs;unfold Jf
   rw[if_neg (λz=>z b)];dsimp only;by_cases h:YA room=.non
   ·rw[if_neg (λz=>z h),Uo (by rw[Xp b'];exact h),if_pos rfl];exact MV xs rs _ _ _ (by simpa using hl)
   ·rw[if_pos h,Vw (by rw[Xp b'];exact h),Xp b'];rfl
  ·have b':begR (gJ 1) (szJ 1) kvs r≠.non:=b;rw[Rg b,Vw (by rw[Vx b'];exact b),Vx b'];rfl
noncomputable def goJ(j:Nat)(k1:Kv)(n:Int):List V->List (Option (List V))->Sum (Nat×V) Kv:=match j with
|1=>goP
|2=>goR k1 n
|3=>goW k1
|_=>goG k1 n
theorem FV{j:Nat}(hj:j=1\/j=2\/j=3\/j=4){k1:Kv}{n:Int}{xs:List V}{rs:List (Option (List V))}(h:xs.length=rs.length):goJ j k1 n xs rs=JO j k1 n 0 0 [] (xs.zip rs):=by
 rcases hj with rfl|rfl|rfl|rfl
 ·exact MV xs rs _ _ _ h
 ·exact MU (j:=2) (k1:=k1) (n:=n) rfl rfl (by decide) (λ_ _=>rfl) _ _ _ _
 ·exact MU (j:=3) (k1:=k1) (n:=n) rfl rfl (by decide) (λ_ _=>rfl) _ _ _ _
 ·exact MW _ _ _ _
def UL(k1:Kv)(t1:List (List V)):Prop:=∀p∈t1,valV k1 (.inr (nameOf p))=some (at_ p 1)
structure PlDict(k1:Kv)(t1:List (List V)):Prop where
 has:UL k1 t1
 no:∀z,z∉t1.map nameOf->valV k1 (.inr z)=none
def Flat(y:V):Prop:=y=.non\/(∃i,y=.int i)\/∃z,y=.str z/\z.length<=1000
structure RowOk(j:Nat)(n:Int)(t1:List (List V))(ys:List V):Prop where
 len:ys.length=szJ j
 nm:Yc (gJ j) (at_ ys 0)=true
 why:∀k1,(j≠1->UL k1 t1)->∀pp,(j=4->pp+ZC ys<=300)->whyJ j k1 n pp ys=.non
 ma:j=4->0<=ZC ys
 flat:∀y∈ys,Flat y
structure RowsOk(j:Nat)(n:Int)(t1 t:List (List V)):Prop where
 nd:(t.map nameOf).Nodup
 row:∀ys∈t,RowOk j n t1 ys
 sum:j=4->(t.map ZC).sum<=300
theorem Fh{g:Bool}{v:V}(h:Yc g v=true):∃z,v=.str z:=by unfold Yc at h;split at h<;>(unfold K1.Uj at h;cases v<;>first|exact⟨_,rfl⟩|(exfalso;simp at h))
theorem RowOk.name{j:Nat}{n:Int}{t1:List (List V)}{ys:List V}(h:RowOk j n t1 ys):ys.getD 0 .non=.str (nameOf ys):=by obtain⟨z,e⟩:=Fh h.nm;have e':ys.getD 0 .non=.str z:=e;unfold nameOf;rw[e']
theorem QW:∀{l:List Int},(∀x∈l,0<=x)->0<=l.sum
|[],_=>by simp
|x::l,h=>by rw[bQ];have:=h x aE;have:=QW (l:=l) λy hy=>h y (av _ hy);omega
theorem Tg{j:Nat}{k1:Kv}{n:Int}{t1:List (List V)}(hk:j≠1->UL k1 t1){rest:List (V×Option (List V))}:∀(t:List (List V))(xs:List V)(i:Nat)(pp:Int)(kvs:Kv),xs.length=t.length->(t.map nameOf).Nodup->(∀ys∈t,RowOk j n t1 ys)->(j=4->pp+(t.map ZC).sum<=300)->(∀ys∈t,valV kvs (.inr (nameOf ys))=none) ->∃kvs',JO j k1 n i pp kvs (xs.zip (t.map some)++rest)=JO j k1 n (i+t.length) (pp+(t.map ZC).sum) kvs' rest/\(∀z,z∉t.map nameOf->valV kvs' (.inr z)=valV kvs (.inr z))/\(j=1->UL kvs' t)/\(∀ys∈t,valV kvs' (.inr (nameOf ys))≠none)/\(j≠1->∀(m:Nat)y x,t[m]?=some y->xs[m]?=some x->valV kvs' (.inr (nameOf y))=some x)
|[],[],i,pp,kvs,_,_,_,_,_=>⟨kvs,by simp,λ_ _=>rfl,λ_ p hp=>(by cases hp),λp hp=>(by cases hp),λ_ m y x h=>by simp at h⟩
|[],_::_,_,_,_,h,_,_,_,_=>by cases h
|_::_,[],_,_,_,h,_,_,_,_=>by cases h
|y::t,x::xs,i,pp,kvs,hl,nd,hr,hs,hn=>by
  have ry:=hr y aE;have ny:=hn y aE;have b:begR (gJ j) (szJ j) kvs (some y)=.non:=by show begV _ _ _ _=_;unfold begV;rw[if_neg (λz=>z ry.len),show Yc (gJ j) (y.getD 0 .non)=true from ry.nm,if_neg (by decide),ry.name];rw[show ZY (.str (nameOf y)) kvs=false from by show(valV kvs _).isSome=false;rw[ny];rfl,if_neg (by decide)]
  rw[ar,bB]at nd;have ht:∀ys∈t,RowOk j n t1 ys:=λq hq=>hr q (av _ hq);have hs':j=4->pp+ZC y+(t.map ZC).sum<=300:=λe=>by have:=hs e;rw[ar,bQ]at this;omega
  have hy:j=4->pp+ZC y<=300:=λe=>by
   have:=hs' e;have:=QW (l:=t.map ZC) λx hx=>by obtain⟨q,hq,rfl⟩:=af.mp hx;exact(ht q hq).ma e
   omega
  have hw:whyJ j k1 n pp y=.non:=ry.why k1 hk pp hy;have yn:∀q∈t,nameOf q≠nameOf y:=λq hq e=>nd.1 (e▸af.mpr ⟨q,hq,rfl⟩);obtain⟨kvs',e1,e2,e3,e4,e5⟩:=Tg hk (rest:=rest) t xs (i+1) (pp+ZC y) (putK kvs (.inr (nameOf y)) (if j=1 then at_ y 1 else x)) (by simpa using hl) nd.2 ht hs' (λq hq=>by rw[Xa,if_neg (λe=>yn q hq (by injection e))];exact hn q (av _ hq));have eY:valV kvs' (.inr (nameOf y))=some (if j=1 then at_ y 1 else x):=by rw[e2 _ nd.1,Xa,if_pos rfl]
  refine⟨kvs',?_,λz hz=>?_,λe p hp=>?_,λp hp=>?_,λnj m y' x' h1 h2=>?_⟩
  ·rw[ar,fZ,List.cons_append,Uo (by rw[Xp b];exact hw),e1,ar,bQ,aW];congr 1<;>omega
  ·rw[ar,ao,not_or]at hz;rw[e2 z hz.2,Xa,if_neg (λe=>hz.1 (by injection e))]
  ·rcases ao.mp hp with rfl|hp
   ·rw[eY,if_pos e]
   ·exact e3 e p hp
  ·rcases ao.mp hp with rfl|hp
   ·rw[eY];exact λz=>by cases z
   ·exact e4 p hp
  ·cases m with
  |zero=>simp at h1 h2;subst h1 h2;rw[eY,if_neg nj]
  |succ m=>exact e5 nj m y' x' (by simpa using h1) (by simpa using h2)
def RT(j:Nat)(n:Int)(t1 t:List (List V)):Prop:=t.length<=Qm j/\RowsOk j n t1 t
section
variable {j:Nat}{k1:Kv}{n:Int}{t1:List (List V)}
theorem TL(hj:j=1\/j=2\/j=3\/j=4)(hk:j≠1->UL k1 t1){t:List (List V)}(h:RT j n t1 t){xs:List V}(hx:xs.length=t.length):∃kvs,KU (Qm j) (goJ j k1 n) (some (xs,t.map some))=.inr kvs/\(j=1->PlDict kvs t)/\(∀z,z∉t.map nameOf->valV kvs (.inr z)=none)/\(j≠1->∀(m:Nat)y x,t[m]?=some y->xs[m]?=some x->valV kvs (.inr (nameOf y))=some x):=by obtain⟨hl,nd,row,sum⟩:=h;obtain⟨kvs,e,e2,e3,_,e5⟩:=Tg (k1:=k1) (n:=n) hk (rest:=[]) t xs 0 0 [] hx nd row (λe=>by have:=sum e;omega) (λ_ _=>rfl);refine⟨kvs,?_,λe=>⟨e3 e,λz hz=>e2 z hz⟩,λz hz=>e2 z hz,e5⟩;unfold KU;simp only;rw[if_neg (by omega),FV hj (by rw[hx,lm])];rw[br]at e;rw[e];rfl
end
structure Tb where
 n:Int
 t1:List (List V)
 t2:List (List V)
 t3:List (List V)
 t4:List (List V)
noncomputable def Tb.part(T:Tb):Nat->List (List V)
|1=>T.t1|2=>T.t2|3=>T.t3|_=>T.t4
structure OkTb(T:Tb):Prop where
 n0:1<=T.n
 n1:T.n<=50
 part:∀j,j=1\/j=2\/j=3\/j=4->RT j T.n T.t1 (T.part j)
noncomputable def prs(xs:List V)(t:List (List V)):PR:=some (xs,t.map some)
structure RwDict(k:Kv)(t:List (List V))(xs:List V):Prop where
 at_:∀(m:Nat)y x,t[m]?=some y->xs[m]?=some x->valV k (.inr (nameOf y))=some x
 no:∀z,z∉t.map nameOf->valV k (.inr z)=none
structure TbDict(T:Tb)(x2 x3 x4:List V)(k:Ks):Prop where
 p:PlDict k.1 T.t1
 r:RwDict k.2.1 T.t2 x2
 w:RwDict k.2.2.1 T.t3 x3
 g:RwDict k.2.2.2 T.t4 x4
end WD
namespace L2
open PySem PySem.Spec PyProof.Rows
structure BaseM(K:aa)(C:Addr)(m:Str)(f:Addr):Prop where
 ga:fT K (.ref C) "__getattribute__"=some (some (.builtin "type.__getattribute__"))
 rd:∃mc,PySem.W.readsIn K C mc=true/\PySem.W.findCls K (.ref C) mc m=some (.val (.ref f))
 kp:bu K (.ref f)=true
theorem Pn{X:Cx}{CX:CXT}{k:Nat}{f C:Addr}{fd:bW}{ps:List Str}{ds:List Value}{dvs:List V}{sp:Sp}{E:XK}{m:Str}{pos apos:Pos}{e o:Expr}{es:List Expr}{t:TA}{pl:Sem Bool}(he:PE X o (tC (.ref C)))(hm:BaseM X.K C m f)(F:FnOk X.prog X.w X.K X.mg X.base CX k f fd ps sp)(hr:Room k X.A)(hb:Binds X.K fd ps ds)(hd:Vals dvs ds)(hx:Passes CX X E)(ha:PA X (e::es) t)
  (hst:aN (e::es) X.env=(false,eval e X.env)::aN es X.env:=by rfl) (hpl:(cf pos (aN es X.env)).any (·.1)=false:=by rfl)
  (ht:eval (.Call (.Attribute o m apos) (e::es) [] pos) X.env=(do
   let ov <-eval o X.env
   gm apos.atName
   let (f,first) <-dY [ov] (eU ov m pl)
   f_ pos f first (cf pos (aN (e::es) X.env)) (d8 pos (cW [] X.env))):=by rfl):
  PE X (.Call (.Attribute o m apos) (e::es) [] pos) (Mp sp dvs E t):=by
 intro pins s σ H Q I h
 obtain⟨mc,h1,h2⟩:=hm.rd
 refine dw (pl:=pl) (he pins s σ H (λv H1=>v=.ref C/\H1=H) I ⟨rfl,rfl⟩ |> λq=>thn q λu s1 hZ=>?_) ht;obtain⟨x,H1,I1,rx,ex,eH⟩:=hZ
 subst ex
 subst eH
 obtain rfl:u=Value.ref C:=rx
 refine PySem.W.method_cls I1.kIn hm.ga (PySem.W.cls_value I1.kIn h1 h2 rfl ?_)
 refine dj (first:=[]) (h₀:=X.base) I.ok.mod.kin hm.kp (thn (ha pos pins _ σ H1 _ (I1.tok _) h) λus s2⟨vs,H2,I2,r,q2⟩=>⟨I2.kIn,?_⟩) hst hpl
 exact MC F hr hb hd hx I2 r q2
section
variable {X:Cx}
def tCut(t:TS):TS:=λD σ H=>∃M:L2.St->Hp->Prop,t {D with nx:=M} σ H/\∀σ' H',M σ' H'->D.nx σ' H'
theorem EX{st:Stmt}{t:TS}(h:PS X st t):PS X st (tCut t):=by
 intro pins s σ H D I ⟨M,q,k⟩;refine thn (h pins s σ H _ I q) λfl s' z=>?_;cases fl with
|next=>obtain⟨σ',H',I',m⟩:=z;exact⟨σ',H',I',k _ _ m⟩
|brk=>exact z
|cont=>exact z
|ret u=>exact z
noncomputable def cstE:Expr->Option V
|.Constant (.str x) _ _=>some (.str x)
|.Constant (.int n) _ _=>some (.int n)
|.Constant .none _ _=>some .non
|_=>none
def tCs(vs:List V):TA:=λ_ H Q=>Q vs H
theorem E9{e:Expr}{v:V}(h:cstE e=some v):PE X e (tC v)/\notStar e=true:=by
 unfold cstE at h;split at h
 ·cases h;exact⟨ZH,rfl⟩
 ·cases h;exact⟨Zb,rfl⟩
 ·cases h;exact⟨ZK,rfl⟩
 ·cases h
theorem Jy:∀{es:List Expr},(es.all λe=>(cstE e).isSome)=true->PA X es (tCs (es.filterMap cstE))
|[],_=>Zk
|e::es,h=>by
  rw[List.all_cons,Bool.and_eq_true]at h;obtain⟨v,hv⟩:=cy.mp h.1;obtain⟨pe,ns⟩:=E9 (X:=X) hv;have:=Zc pe (Jy h.2) ns;have e2:tCs ((e::es).filterMap cstE)=Yl (tC v) (tCs (es.filterMap cstE)):=by rw[df,hv];rfl
  rw[e2];exact this
end
theorem J6{X:Cx}(hu:X.A.units+64<cLine):OpR X (bp .NotEq) (rNil true X.K):=by
 intro pins s σ H x y v u Q I rx ry h;obtain⟨a,b,xs,rfl,rfl,ha,hb,q⟩:=h;cases rx;cases ry;obtain⟨its,rv,p1,_⟩:=I.list ha;obtain⟨_,its2,n2,rv2,_,e2⟩:=I.lstM hb;have h2:=rv2.zero;subst h2;have l2:s.heap.IsList b #[]:=⟨_,e2,rfl,_,rfl⟩;have hl:=rv.length;by_cases hx:xs=[]
 ·subst hx;have h1:=rv.zero;subst h1;refine SeqAt.RcNeAt.lists (A:=X.A) (s:=s) (e:=λ_=>true) p1.isList l2 rfl (by omega) (λj h1 h2=>by simp at h2) X.prog X.w X.xe (EP X pins σ Q) ⟨.bl false,H,I,rfl,?_⟩;simpa using q
 ·refine SeqAt.RcNeAt.lists_lengths (A:=X.A) (s:=s) p1.isList l2 ?_ (by omega) X.prog X.w X.xe (EP X pins σ Q) ⟨.bl true,H,I,rfl,?_⟩
  ·simpa using λz=>hx (by subst z;simpa using hl)
  ·simpa[hx]using q
end L2
namespace WD
open PySem L2 PySem.Spec PyProof.Rows TB K1
def Nx(t:Str):Prop:=(codes t).length<=8/\(∃c r,codes t=c::r/\c∈LET)/\∀c∈codes t,c∈LET++FIG
theorem K9{t:Str}(h:Nx t):Yc false (.str t)=true:=by
 obtain⟨h2,⟨c,r,e,hc⟩,h3⟩:=h;show K1.Jg 8 (K1.codes K1.tNAME) (codes t)=true;unfold K1.Jg K1.YR K1.lenB;rw[K1.Aa];simp only[Bool.and_eq_true,decide_eq_true_eq,ba];refine⟨⟨⟨by rw[e,aW];omega,by omega⟩,λd hd=>?_⟩,?_⟩
 ·exact bq _ (h3 d hd)
 ·rw[e];exact hc
noncomputable def sufs:List Str:=[".7","",".10"]
theorem QX:∀s∈sufs,(codes s).length<=3/\(∀c∈codes s,c∈LET++K1.FIG++[46])/\((codes s).head?.map λc=>decide (c=46))≠some false:=by decide +kernel
theorem FW{t s:Str}(h:Nx t)(hs:s∈sufs):Yc true (.str (t++s))=true:=by
 obtain⟨h2,⟨c,r,e,hc⟩,h3⟩:=h;obtain⟨s1,s2,_⟩:=QX s hs;show K1.Jg 12 (K1.codes K1.tGROUP) (codes (t++s))=true;unfold K1.Jg K1.YR K1.lenB;rw[K1.F9,YQ];simp only[Bool.and_eq_true,decide_eq_true_eq,ba,ah];refine⟨⟨⟨by rw[e,aW];omega,by omega⟩,λd hd=>?_⟩,?_⟩
 ·rcases aw.mp hd with hd|hd
  ·exact bq _ (h3 d hd)
  ·exact s2 d hd
 ·rw[e];exact hc
theorem FZ:46∉LET++FIG:=by decide +kernel
theorem NV{t s:Str}(h:Nx t)(hs:s∈sufs):(codes (t++s)).takeWhile (λc=>decide (c≠46))=codes t:=by
 obtain⟨_,_,h3⟩:=h;obtain⟨_,_,s3⟩:=QX s hs;rw[YQ,List.takeWhile_append_of_pos (p:=λc=>decide (c≠46)) (λc hc=>decide_eq_true (λ(z:c=46)=>FZ (z▸h3 c hc)))];cases e:codes s with
|nil=>simp
|cons c r=>
  rw[e]at s3;have:c=46:=by simpa using s3
  rw[List.takeWhile_cons_of_neg (by simp[this]),br]
theorem LW{t t' s s':Str}(h:Nx t)(h':Nx t')(hs:s∈sufs)(hs':s'∈sufs)(e:t++s=t'++s'):t=t':=by have:=congrArg (λz=>(codes z).takeWhile (λc=>decide (c≠46))) e;simp only[NV h hs,NV h' hs']at this;exact Wn this
noncomputable def wdx:List Str:=["ride","home","turns","place","way","group","to","a","out","wait","walk","turn","ab","b"]
noncomputable def wdxFrom(a n:Nat):List Str:=(aT n).map λk=>wdx.getD ((a+3*k) % 14) ""
theorem ED:∀a<14,∀n<15,(wdxFrom a n).Nodup:=by decide +kernel
theorem EC:∀t∈wdx,(codes t).length<=8/\((codes t).head?.map λc=>decide (c∈LET))=some true/\∀c∈codes t,c∈LET++FIG:=by decide +kernel
theorem QO(a n:Nat):∀t∈wdxFrom a n,Nx t:=λt ht=>by
 obtain⟨k,_,rfl⟩:=af.mp ht;have:(a+3*k) % 14<wdx.length:=Nat.mod_lt _ (by decide);rw[ax,gE this];obtain⟨h1,h2,h3⟩:=EC _ (aD this);refine⟨h1,?_,h3⟩;show ∃c r,codes wdx[(a+3*k) % 14]=c::r/\c∈LET;generalize codes wdx[(a+3*k) % 14]=l at h2;cases l with
|nil=>cases h2
|cons c r=>exact⟨c,r,rfl,by simpa using h2⟩
theorem EE(a i:Nat):(wdx.map V.str)[(a+3*i) % 14]?=some (.str (wdx.getD ((a+3*i) % 14) "")):=by have:(a+3*i) % 14<wdx.length:=Nat.mod_lt _ (by decide);rw[aJ,ax,gE this];rfl
noncomputable def sg7(f k:Nat):Nat:=LET.getD ((f+7*k) % 26) 0
theorem Ss(f k:Nat):sg7 f k∈LET:=by have:(f+7*k) % 26<LET.length:=Nat.mod_lt _ (by decide);unfold sg7;rw[ax,gE this];exact aD this
theorem EN(f i:Nat):(codes K1.tLET)[(f+7*i) % 26]?=some (sg7 f i):=by have:(f+7*i) % 26<LET.length:=Nat.mod_lt _ (by decide);rw[show codes K1.tLET=LET from K1.cLET,sg7,ax,gE this];rfl
theorem EM:∀f<26,((aT 26).map (sg7 f)).Nodup:=by decide +kernel
theorem Di{f x y:Nat}(hf:f<26)(hx:x<26)(hy:y<26)(e:sg7 f x=sg7 f y):x=y:=by
 have h1:((aT 26).map (sg7 f))[x]'(by simpa using hx)=((aT 26).map (sg7 f))[y]'(by simpa using hy):=by simpa using e
 exact(gG (EM f hf)).mp h1
noncomputable def end9(k:Nat):Str:=Txt.slice "z9" none (some ((k % 3:Nat):Int))
theorem Wo(k:Nat):codes (end9 k)=[122,57].take (k % 3):=by unfold end9;rw[MX _ _ (by omega)];rfl
noncomputable def put7(base:Str)(a f k:Nat):Str:=put base a (sg7 f k)++end9 k
noncomputable def puts7(base:Str)(a f n:Nat):List Str:=(aT n).map (put7 base a f)
theorem V4{base:Str}{a:Nat}(h:a<=base.length)(f k:Nat):codes (put7 base a f k)=(codes base).take a++(sg7 f k::((codes base).drop a++[122,57].take (k % 3))):=by unfold put7;rw[YQ,Wl h,Wo];simp
theorem Ky{base:Str}{sz:Nat}(hb:Bs sz base)(hs:sz<=5){a:Nat}(ha:a<=sz)(f n:Nat):∀t∈puts7 base a f n,Nx t:=λt ht=>by
 obtain⟨k,_,rfl⟩:=af.mp ht;have hl:base.length=sz:=by rw[<-Z1];exact hb.1
 have m3:k % 3<3:=Nat.mod_lt _ (by decide);have hall:∀c∈codes base,c∈LET++FIG:=λc hc=>bq _ (hb.2 c hc);have hz:∀c∈([122,57]:List Nat),c∈LET++FIG:=by decide +kernel
 unfold Nx;rw[V4 (by omega)];refine⟨?_,?_,λc hc=>?_⟩
 ·simp only[ah,aW,aG,bf,hb.1,fv];omega
 ·cases e:(codes base).take a with
 |nil=>exact⟨_,_,rfl,Ss f k⟩
 |cons c r=>exact⟨c,_,rfl,hb.2 c (c7 (e▸aE))⟩
 ·simp only[aw,ao]at hc;rcases hc with hc|rfl|hc|hc
  ·exact hall c (c7 hc)
  ·exact bq _ (Ss f k)
  ·exact hall c (fE hc)
  ·exact hz c (c7 hc)
theorem Kz{base:Str}{sz:Nat}(hb:Bs sz base){a:Nat}(ha:a<=sz){f n:Nat}(hf:f<26)(hn:n<=26):(puts7 base a f n).Nodup:=by
 have hl:base.length=sz:=by rw[<-Z1];exact hb.1
 refine nodup_map_on fe λx hx y hy e=>?_;have e1:=congrArg codes e;rw[V4 (by omega),V4 (by omega)]at e1;have:=List.append_cancel_left e1;injection this with e2 _;rw[bj]at hx hy;exact Di hf (by omega) (by omega) e2
end WD
namespace WD
open PySem L2 PySem.Spec PyProof.Rows TB
def N4:Sp:=λvs H Q _=>∃(b:Addr)(n:Int),vs=[.ref b,.int n]/\ZD H b/\0<=n/\n<=20/\∀H' l(ts:List Str),ZD H' b->Zg b H H'->H l=none->H' l=some (.lst (ts.map V.str))->l≠b->(ts.length:Int)=n->ts.Nodup->(∀t∈ts,Nx t)->Q (.ref l) H'
theorem modN{x:Int}{k n:Nat}(h:x=k):x % (n:Int)=((k % n:Nat):Int):=by rw[h];rfl
theorem Hm{r:Int}(h0:0<=r)(h1:r<26):∃c,atI (codes K1.tLET) r=some c/\c∈LET:=by obtain⟨c,h,m⟩:=at_of (xs:=codes K1.tLET) h0 (by rw[show codes K1.tLET=LET from K1.cLET];exact h1);rw[show codes K1.tLET=LET from K1.cLET]at m;exact⟨c,h,m⟩
theorem PL{α:Type}{xs:List α}{i:Int}{j:Nat}{v:α}(e:i=(j:Int))(h:xs[j]?=some v):atI xs i=some v:=by rw[e];exact Zu h
theorem WI{b:Addr}{H H1:Hp}{i:Nat}{ts:List Str}{c:Nat}(e:ts.length=i)(h:∀t∈ts,Bs 1 t)(hc:c∈LET):(ts++[(⟨#[c]⟩:Str)]).length=i+1/\∀t∈ts++[(⟨#[c]⟩:Str)],Bs 1 t:=by
 refine⟨by simp[e],λt ht=>?_⟩;rcases aw.mp ht with ht|ht
 ·exact h t ht
 ·rw[ay]at ht;subst ht;exact⟨rfl,λd hd=>by rw[ay.mp hd];exact hc⟩
theorem WW:∀(ts:List Str),(∀t∈ts,Bs 1 t)->(ts.map (·.length)).sum=ts.length
|[],_=>rfl
|t::r,h=>by have h1:=(h t aE).1;rw[Z1]at h1;rw[ar,bQ,h1,WW r λu hu=>h u (av _ hu),aW];omega
theorem YM{b l:Addr}{H H1:Hp}(s:Zg b H H1)(hl:H1 l=none)(n:l≠b):H l=none:=by
 cases e:H l with
|none=>rfl
|some o=>rw[s _ _ e n]at hl;cases hl
section
variable {P:Program}{w:World}{K:aa}{mg:Str->Option Value}{base:Heap}
theorem Z6:FnScope [q_b,"_law_many","_law_letters","_law_words","_law_at","_law_k","_law_base","_law_first","_law_names_here","_law_sign"] [q_b,"_law_many"] (Zd T.f__law_names):=scO
noncomputable def Vl:Scope:=csx [(".0",.local),("_law_k",.local),("_law_at",.free),("_law_words",.free)]
theorem UE:CompScope Vl (Zd T.f__law_names):=⟨rfl,by decide +kernel,by decide +kernel,by decide +kernel⟩
theorem UH:(["_law_k","_law_at","_law_words"]:List Str).Nodup:=by decide +kernel
theorem UG:CompNames [q_b,"_law_many","_law_letters","_law_words","_law_at","_law_k","_law_base","_law_first","_law_names_here","_law_sign"] Vl ["_law_k","_law_at","_law_words"] [none,some 4,some 3]:=.mk' (by decide +kernel)
noncomputable def Vk:Scope:=csx [(".0",.local),("_law_k",.local),("_law_take",.globalImplicit),(q_b,.free),("_law_letters",.free)]
theorem UB:CompScope Vk (Zd T.f__law_names):=⟨rfl,by decide +kernel,by decide +kernel,by decide +kernel⟩
theorem UD:(["_law_k",q_b,"_law_letters"]:List Str).Nodup:=by decide +kernel
theorem UC:CompNames [q_b,"_law_many","_law_letters","_law_words","_law_at","_law_k","_law_base","_law_first","_law_names_here","_law_sign"] Vk ["_law_k",q_b,"_law_letters"] [none,some 0,some 2]:=.mk' (by decide +kernel)
theorem Wu(B:∀x∈Blts,mg x=none)(CT:Can P w K mg base 1 "_law_take" [q_b,"_law_many"] Y2)(D:Df K mg "_law_names" T.f__law_names [q_b,"_law_many"]):Can P w K mg base 2 "_law_names" [q_b,"_law_many"] N4:=by
 refine D.cn Z6 λf cdv A outer s H vs Q E hr h=>?_;obtain⟨b,n,rfl,hb,hn1,hn2,k⟩:=h;have hsz:n.toNat<=sizeLine:=Nat.le_trans (by omega:n.toNat<=1000) (by decide);refine' ⟨_,(@Za _ _ _ _ _ ?h6 (@Za _ _ _ _ _ ?h7 (@Za _ _ _ _ _ ?h8 (@Za _ _ _ _ _ ?h9 (@Za _ _ _ _ _ ?h10 (@Za _ _ _ _ _ ?h11 (@Za _ _ _ _ _ ?h12 (@Za _ _ _ _ _ ?h13 (@Ze _ _ _ ?h14))))))))),?rd⟩;case' h14=>refine' (Zn (pv 8))
 case' h13=>refine' (Yn aY rfl (Y3 rfl (bm B) (@pa1 _ _ _ (pv 1) (by rfl))) (nmT 5 Z6.nd) (@Za _ _ _ _ _ ?h4 (@Ze _ _ _ ?h5)))
 case' h12=>refine' (@st _ _ _ _ 8 _ _ Z6.nd ?h3 (by rfl) (by exact aK rfl) (by rfl) (by exact .inl rfl))
 case' h11=>refine' (@st _ _ _ _ 7 _ _ Z6.nd (cn CT hr (@pa2 _ _ _ _ _ (pv 0) Zb (by rfl))) (by rfl) (by exact aK rfl) (by rfl) (by exact .inl rfl))
 case' h10=>refine' (@Yb _ _ 4 _ _ _ _ Z6.nd (by rfl) (by exact b9 rfl) (cn CT hr (@pa2 _ _ _ _ _ (pv 0) (Zp ZG (Zy PH rfl (bm B) aZ (@pa1 _ _ _ (pv 6) (by rfl))) Zb) (by rfl))) (by rfl) (by exact aK rfl))
 case' h9=>refine' (@st _ _ _ _ 6 _ _ Z6.nd (GY PySem.F.plainAttrs_str PySem.F.slot_str_join PySem.F.type_str_join DF ZH (@pa1 _ _ _ (ZQ rfl UB UC (Y3 rfl (bm B) (@pa1 _ _ _ (cn CT hr (@pa2 _ _ _ _ _ (pv 0) Zb (by rfl))) (by rfl))) (λC s H ex pn=>(nmT 0 UD)) (λC s H ex pn=>Yt) (λC s H ex pn=>(Ym Pu (pv 2) (cn CT hr (Zc (pv 1) (Zc Zb Zk))) (λ_ _=>rfl)))) (by rfl))) (by rfl) (by exact aK rfl) (by rfl) (by exact .inl rfl))
 case' h8=>refine' (EX (@ZF _ _ _ _ _ _ _ _ (PW.pt (JY (@Zq _ _ _ _ _ _ _ _ SJ (pv 1) Zb (ZA _)) (XR (@Zq _ _ _ _ _ _ _ _ Xd (cn CT hr (@pa2 _ _ _ _ _ (pv 0) Zb (by rfl))) Zb (ZA _))))) (@Za _ _ _ _ _ ?h1 (@Ze _ _ _ ?h2)) Zr))
 case' h7=>refine' (@Yb _ _ 3 _ _ _ _ Z6.nd (by rfl) (by exact b9 rfl) (@Zz _ _ _ _ (@Jy _ _ (by decide +kernel))) (by rfl) (by exact aK rfl))
 case' h6=>refine' (@Yb _ _ 2 _ _ _ _ Z6.nd (by rfl) (by exact b9 rfl) ZH (by rfl) (by exact aK rfl))
 case' h5=>refine' (Yg (GY bN cv cu Jh (pv 8) (@pa1 _ _ _ (Zp JC (Zp JC (Zp JC (YB Q1 (pv 6) Y0 (YZ (pv 4))) (pv 9)) (YB Q1 (pv 6) (YZ (pv 4)) Y0)) (YB Q1 ZH Y0 (YZ (Zp Xu (pv 5) Zb)))) (by rfl))))
 case' h4=>refine' (@st _ _ _ _ 9 _ _ Z6.nd (Ym Pu (pv 2) (Zp Xu (Zp ZG (pv 7) (Zp JB Zb (pv 5))) Zb) (λ_ _=>rfl)) (by rfl) (by exact aK rfl) (by rfl) (by exact .inl rfl))
 case' h3=>refine' (@Zz _ _ _ _ Zk)
 case' h2=>refine' (Zn (ZQ rfl UE UG (Y3 rfl (bm B) (@pa1 _ _ _ (pv 1) (by rfl))) (λC s H ex pn=>(nmT 0 UH)) (λC s H ex pn=>Yt) (λC s H ex pn=>(il K (pv 2) (Zp Xu (Zp ZG (pv 1) (Zp JB Zb (pv 0))) Zb)))))
 case' h1=>refine' (@Yb _ _ 4 _ _ _ _ Z6.nd (by rfl) (by exact b9 rfl) (cn CT hr (@pa2 _ _ _ _ _ (pv 0) Zb (by rfl))) (by rfl) (by exact aK rfl))
 case' rd=>
 refine⟨zl,λl hl=>?_⟩;have nlb:=hb.ne hl;have e0:upd H l (.lst (wdx.map V.str)) l=some (.lst (wdx.map V.str)):=Zf;have B0:ZD (upd H l (.lst (wdx.map V.str))) b:=hb.new hl;have S0:Zg b H (upd H l (.lst (wdx.map V.str))):=(Zg.refl b H).new' hl;show tSeq _ _ _ _ (upd H l (.lst (wdx.map V.str)));generalize upd H l (.lst (wdx.map V.str))=H0 at e0 B0 S0 ⊢;refine⟨λσ' H'=>ZD H' b/\Zg b H H'/\σ'=[some (.ref b),some (.int n),some (.str K1.tLET),some (.ref l),none,none,none,none,none,none],?_,?_⟩
 ·refine⟨_,rfl,_,_,rfl,rfl,_,rfl,?_⟩;refine ite2 (λe15=>?_) (λ_=>?_)
  ·refine tkC B0 (λr H1 h0 h1 B1 S1=>?_);refine⟨rfl,_,rfl,?_⟩;refine ite2 (λ_=>?_) (λ_=>⟨B1,S0.trans S1,rfl⟩);have hn15:n<15:=of_decide_eq_true e15;refine tkC B1 (λr2 H2 h02 h12 B2 S2=>?_);have hw:H2 l=some (.lst (wdx.map V.str)):=S2 _ _ (S1 _ _ e0 nlb) nlb;have S02:=(S0.trans S1).trans S2;refine⟨_,rfl,n,rfl,by omega,by omega,Xg (J:=Itr 0 n.toNat) n.toNat hsz
    (λi ys τ H'=>H'=H2/\ys=(wdxFrom r2.toNat i).map V.str/\∃v,τ=[v,some (.int r2),some (.ref l)]) ⟨rfl,rfl,none,rfl⟩ (λi ys τ H' p=>?_) (λi ys τ H' hi p=>hi) (λys τ H' p=>Nat.le_refl _) (λi ys τ H' x' H3 hi p yl=>?_) (λys τ H' p q hq=>?_)⟩
   ·obtain⟨_,rfl,_⟩:=p;simp[wdxFrom]
   ·obtain⟨rfl,rfl,v,rfl⟩:=p;obtain⟨rfl,rfl⟩:=yl;refine⟨_,rfl,_,rfl,_,rfl,_,_,rfl,rfl,.inl ⟨by decide,by decide⟩,_,_,rfl,rfl,_,_,rfl,rfl,(by show(0:Int)<14;decide),l,_,_,_,rfl,rfl,SqL.of hw,PL (j:=(r2.toNat+3*i) % 14) (modN (n:=14) (by omega)) (EE _ _),rfl,?_,_,rfl⟩;simp[wdxFrom,bR]
   ·obtain⟨rfl,rfl,v,rfl⟩:=p;exact k _ q _ (B2.new hq) (S02.new' hq) (YM S02 hq (B2.ne hq)) Zf (B2.ne hq) (by simp[wdxFrom];omega) (ED _ (by omega) _ (by omega)) (QO _ _)
  ·exact⟨B0,S0,rfl⟩
 ·intro σ' H1 hM;obtain⟨B1,S1,rfl⟩:=hM;clear e0 B0 S0;refine⟨rfl,tkC B1 (λsz H2 h02 h12 B2 S2=>?_)⟩;have S02:=S1.trans S2;refine⟨sz,rfl,by omega,by omega,Xg (J:=Itr 0 sz.toNat) sz.toNat (Nat.le_trans (by omega:sz.toNat<=8) (by decide))
    (λi ys τ H'=>ZD H' b/\Zg b H H'/\(∃ts:List Str,ys=ts.map V.str/\ts.length=i/\∀t∈ts,Bs 1 t)/\∃v,τ=[v,some (.ref b),some (.str K1.tLET)]) ⟨B2,S02,⟨[],rfl,rfl,by simp⟩,none,rfl⟩ (λi ys τ H' p=>?_) (λi ys τ H' hi p=>hi) (λys τ H' p=>Nat.le_refl _) (λi ys τ H' x' H3 hi p yl=>?_) (λys τ H' p q hq=>?_)⟩
  ·obtain⟨_,_,⟨ts,rfl,e,_⟩,_⟩:=p;rw[lm,e];exact Nat.le_refl _
  ·obtain⟨bx,sm,⟨ts,rfl,e,ho⟩,v,rfl⟩:=p;obtain⟨rfl,rfl⟩:=yl;refine⟨_,rfl,tkC bx (λr4 H4 h04 h14 B4 S4=>?_)⟩;obtain⟨c,hat,hc⟩:=Hm h04 h14;obtain⟨g1,g2⟩:=WI (b:=b) (H:=H) (H1:=H) e ho hc;exact⟨_,r4,c,rfl,rfl,by decide +kernel,hat,B4,sm.trans S4,⟨ts++[⟨#[c]⟩],by rw[aI];rfl,g1,g2⟩,_,rfl⟩
  ·obtain⟨bx,sm,⟨ts,rfl,e,ho⟩,v,rfl⟩:=p;refine⟨_,q,ts,rfl,rfl,SqL.of Zf,?_,?_⟩
   ·rw[WW _ ho,e];show sz.toNat+sz.toNat*0<=16777216;omega
   have hbs:Bs ts.length (Txt.join (Str.ofString "") ts):=Bs.join ho;rw[e]at hbs;have hl8:(Txt.join (Str.ofString "") ts).length=sz.toNat:=by rw[<-Z1];exact hbs.1
   have B3:=bx.new hq (o:=.lst (ts.map V.str));have S3:=sm.new' hq (o:=.lst (ts.map V.str));generalize upd H' q (.lst (ts.map V.str))=H3 at B3 S3 ⊢;clear bx sm hq;generalize Txt.join (Str.ofString "") ts=bs at hbs hl8 ⊢;dsimp only[Zt,az];have z1:(100:Nat)<=sizeLine:=by decide
   refine⟨_,rfl,_,rfl,_,rfl,by omega,_,_,rfl,rfl,b,_,rfl,B3,?_,ZT ?_ ?_,λat_ H4 h03 h13 B4 S4=>?_⟩
   ·rw[hl8];omega
   ·rw[hl8];omega
   ·rw[hl8];omega
   have S04:=S3.trans S4;refine tkC B4 (λfi H5 h05 h15 B5 S5=>?_);have S05:=S04.trans S5;refine⟨Nat.zero_le _,λl2 hl2=>?_⟩;have nl2:=B5.ne hl2;have n0:=YM S05 hl2 nl2;dsimp only[Zt,az];refine⟨_,rfl,n,rfl,by omega,by omega,?_⟩;refine YU (J:=Itr 0 n.toNat) n.toNat (λi σ H'=>ZD H' b/\Zg b H H'/\H' l2=some (.lst ((puts7 bs at_.toNat fi.toNat i).map V.str))/\∃o5 o9,σ=[some (.ref b),some (.int n),some (.str K1.tLET),some (.ref l),some (.int at_),o5,some (.str bs),some (.int fi),some (.ref l2),o9]) ⟨B5.new hl2,S05.new' hl2,Zf,_,_,rfl⟩ (λi σ H' hi q=>hi) (λσ H' q=>Nat.le_refl _) (λi σ H' v H6 hi q yl=>?_) (λσ H' q=>?_)
   ·obtain⟨bx,sm,el,o5,o9,rfl⟩:=q;obtain⟨rfl,rfl⟩:=yl;dsimp only[Zt,az];refine td λD' hdd=>?_;refine⟨_,rfl,_,rfl,_,rfl,_,_,rfl,rfl,.inl ⟨by decide,by decide⟩,_,_,rfl,rfl,_,_,rfl,rfl,(by show(0:Int)<26;decide),_,_,_,rfl,rfl,by decide +kernel,PL (j:=(fi.toNat+7*i) % 26) (modN (n:=26) (by omega)) (EN _ _),?_⟩;have e1:=Txt.slice_le bs none (some at_);have e2:=Txt.slice_le bs (some at_) none;have e3:=Txt.slice_le "z9" none (some ((0+(i:Int)) % 3));have e4:("z9":Str).length=2:=by decide +kernel
    refine⟨_,rfl,.inl ⟨rfl,_,SqL.of el⟩,?_⟩;refine⟨_,rfl,_,rfl,_,rfl,_,rfl,by omega,_,rfl,_,_,rfl,rfl,?_,_,rfl,_,rfl,_,rfl,_,rfl,by omega,_,_,rfl,rfl,?_,_,rfl,_,_,rfl,rfl,(by show(0:Int)<3;decide),_,rfl,_,rfl,by omega,_,_,rfl,rfl,?_,?_⟩
    ·show _+1<=_;omega
    ·rw[Str.length_append];show _+1+_<=_;omega
    ·rw[Str.length_append,Str.length_append];show _+1+_+_<=_;omega
    have ev:Txt.slice bs none (some at_)++{cps:=#[sg7 fi.toNat i]}++Txt.slice bs (some at_) none++Txt.slice (Str.ofString "z9") none (some ((0+(i:Int)) % 3))=put7 bs at_.toNat fi.toNat i:=by
     have e5:at_=((at_.toNat:Nat):Int):=by omega
     have e6:(0+(i:Int)) % 3=((i % 3:Nat):Int):=by omega
     rw[e6,put7,put,end9,<-e5]
    rw[ev];refine⟨l2,_,_,rfl,rfl,el,Nat.lt_of_le_of_lt (by rw[lm];show(puts7 bs at_.toNat fi.toNat i).length<=99;simp[puts7];omega) z1,?_⟩;refine hdd _ _ ⟨ZD.same_ne bx nl2,Nv sm S05 nl2 hl2,?_,_,_,rfl⟩;rw[Zf];simp[puts7,bR]
   ·obtain⟨bx,sm,el,o5,o9,rfl⟩:=q;refine⟨_,rfl,?_⟩;exact k _ l2 _ bx sm n0 el nl2 (by simp[puts7];omega) (Kz hbs (by omega) (by omega) (by omega)) (Ky hbs (by omega) (by omega) _ _)
def N8(K:aa):Sp:=λvs H Q _=>∃(a:Addr)(ns:List Int)(k:Nat),vs=[.ref a,.int k]/\SqL K H a (ns.map V.int)/\ns.length<=1000/\k<=1000/\∀c:Int,Q (.int c) H
theorem Tf{ns:List Int}{i:Int}(h0:0<=i)(h1:i<ns.length):∃c,atI (ns.map V.int) i=some (.int c):=by obtain⟨v,h,m⟩:=at_of (xs:=ns.map V.int) h0 (by rw[lm];exact h1);obtain⟨c,_,rfl⟩:=af.mp m;exact⟨c,h⟩
theorem P8:FnScope ["_law_script","_law_k"] ["_law_script","_law_k"] (Zd T.f__law_cell):=scO
theorem LQ(B:∀x∈Blts,mg x=none)(D:Df K mg "_law_cell" T.f__law_cell ["_law_script","_law_k"]):Can P w K mg base 1 "_law_cell" ["_law_script","_law_k"] (N8 K):=by
 refine D.cn P8 λf cdv A outer s H vs Q E hr h=>?_;obtain⟨a,ns,k,rfl,hS,hl,hk,q⟩:=h;refine' ⟨_,(@Za _ _ _ _ _ ?h5 (@Za _ _ _ _ _ ?h6 (@Ze _ _ _ ?h7))),?rd⟩;case' h7=>refine' (Zn (Zp ZG (Zp SM ?h4 (Zp ZG (pv 1) Zb)) (Zp JB Zb (pv 1))))
 case' h6=>refine' (@ZF _ _ _ _ _ _ _ _ (@Zq _ _ _ _ _ _ _ _ Xd (Zy (r:=rLen K) ZU rfl (bm B) aZ (@pa1 _ _ _ (pv 0) (by rfl))) Zb (ZA _)) (@Ze _ _ _ ?h3) Zr)
 case' h5=>refine' (@ZF _ _ _ _ _ _ _ _ (@Zq _ _ _ _ _ _ _ _ SJ (pv 1) (Zy (r:=rLen K) ZU rfl (bm B) aZ (@pa1 _ _ _ (pv 0) (by rfl))) (ZA _)) (@Ze _ _ _ ?h2) Zr)
 case' h4=>refine' (@il _ _ _ _ _ _ K (pv 0) (Zp Xu (pv 1) (Zy (r:=rLen K) ZU rfl (bm B) aZ (@pa1 _ _ _ (pv 0) (by rfl)))) (by rfl) (by exact λ_ _=>rfl))
 case' h3=>refine' (Zn (Zp ZG (Zp JB Zb (pv 1)) Zb))
 case' h2=>refine' (Zn ?h1)
 case' h1=>refine' (@il _ _ _ _ _ _ K (pv 0) (pv 1) (by rfl) (by exact λ_ _=>rfl))
 case' rd=>
 refine⟨_,rfl,_,rfl,a,_,rfl,.inl hS,_,_,rfl,rfl,_,rfl,?_⟩;refine ite2 (λe=>?_) (λe=>?_)
 ·have hlt:(k:Int)<ns.length:=by have:=of_decide_eq_true e;rw[lm]at this;exact this
  obtain⟨c,hc⟩:=Tf (ns:=ns) (i:=k) (by omega) hlt;exact⟨_,rfl,_,rfl,a,_,_,_,rfl,rfl,hS,hc,q c⟩
 ·refine⟨_,rfl,a,_,rfl,.inl hS,rfl,_,rfl,?_⟩;refine ite2 (λe2=>?_) (λe2=>?_)
  ·exact⟨_,rfl,_,_,rfl,rfl,.inl ⟨by decide,by decide⟩,_,_,rfl,rfl,q _⟩
  ·have hl0:ns.length≠0:=λz=>by rw[lm,z]at e2;exact e2 (decide_eq_true rfl)
   have m0:0<=(k:Int) % ns.length:=Int.emod_nonneg _ (by omega);have m1:(k:Int) % ns.length<ns.length:=Int.emod_lt_of_pos _ (by omega);obtain⟨c,hc⟩:=Tf (ns:=ns) m0 m1;refine⟨_,rfl,_,rfl,_,rfl,a,_,rfl,.inl hS,_,_,rfl,rfl,(by rw[lm];omega),a,_,_,_,rfl,rfl,hS,(by rw[lm];exact hc),_,rfl,_,_,rfl,rfl,_,_,rfl,rfl,⟨by omega,by omega⟩,_,rfl,_,_,rfl,rfl,.inl ⟨by decide,by decide⟩,_,_,rfl,rfl,q _⟩
end
end WD
namespace L2
open PySem PySem.Spec PyProof.Rows
theorem Py(xs:List V){i:Int}(h0:0<=i):cutV xs none (some i)=xs.take i.toNat:=by
 obtain⟨n,rfl⟩:=Int.eq_ofNat_of_zero_le h0;show(xs.drop 0).take (HT.sIx xs.length xs.length (some (n:Int))-0)=_;rw[HT.sIx_nat,fC,Nat.sub_zero,Int.toNat_natCast];by_cases h:n<=xs.length
 ·rw[Nat.min_eq_left h]
 ·rw[Nat.min_eq_right (by omega),aX (Nat.le_refl _),aX (by omega)]
theorem Ur(xs:List V){i:Int}(h0:0<=i):cutV xs (some i) none=xs.drop i.toNat:=by
 obtain⟨n,rfl⟩:=Int.eq_ofNat_of_zero_le h0;show(xs.drop (HT.sIx xs.length 0 (some (n:Int)))).take (xs.length-HT.sIx xs.length 0 (some (n:Int)))=_;rw[HT.sIx_nat,Int.toNat_natCast];by_cases h:n<=xs.length
 ·rw[Nat.min_eq_left h,aX (by rw[bf];exact Nat.le_refl _)]
 ·rw[Nat.min_eq_right (by omega),dA (Nat.le_refl _),dA (by omega),List.take_nil]
theorem Tv{c:Bool}{x y:Int}:atI [V.int x,.int y] (if c=true then 1 else 0)=some (.int (if c=true then y else x)):=by
 cases c
 ·exact Zu (j:=0) rfl
 ·exact Zu (j:=1) rfl
end L2
namespace WD
open PySem L2 PySem.Spec PyProof.Rows TB
theorem Xn.app{b:Addr}{H:Hp}{l:Addr}{rows:List (List V)}(h:Xn b H l rows):∃xs:List V,H l=some (.lst xs)/\xs.length=rows.length/\∀q row,H q=none->q≠b->Xn b (upd (upd H q (.tup row)) l (.lst (xs++[.ref q]))) l (rows++[row]):=by
 obtain⟨n,as,e,hl,r⟩:=h;refine⟨_,e,by rw[lm,hl],λq row hq nq=>⟨n,as++[q],?_,by simp[hl],λi a r' h1 h2=>?_⟩⟩
 ·rw[Zf,aI];rfl
 ·have nl:q≠l:=λz=>by rw[z,e]at hq;cases hq
  rcases Nat.lt_or_ge i as.length with hi|hi
  ·rw[a8 hi]at h1;rw[a8 (by omega)]at h2;obtain⟨x,y⟩:=r i a r' h1 h2;refine⟨x,?_⟩;rw[Zj (ne_of y e (λz=>nomatch z)),Zj (Zi y hq)];exact y
  ·rw[a6 hi]at h1;rw[a6 (by omega)]at h2;have hi0:i-as.length=0:=by
    rcases Nat.eq_zero_or_pos (i-as.length)with z|z
    ·exact z
    ·rw[cY (by simp;omega)]at h1;cases h1
   rw[hi0]at h1;rw[<-hl,hi0]at h2;cases h1;cases h2;refine⟨nq,?_⟩;rw[Zj nl];exact Zf
theorem Kt{b:Addr}{H H':Hp}{l l':Addr}{rows:List (List V)}{n:Nat}(h:Xn b H l rows)(s:Zg b H H')(nl:l'≠b)(e':∀xs,H l=some (.lst xs)->H' l'=some (.lst (xs.drop n++xs.take n))):Xn b H' l' (rows.drop n++rows.take n):=by
 obtain⟨_,as,e,hl,r⟩:=h;refine⟨nl,as.drop n++as.take n,by rw[e' _ e,aI,List.map_drop,List.map_take],by simp[hl],λi a q h1 h2=>?_⟩;have key:∃j:Nat,as[j]?=some a/\rows[j]?=some q:=by
  rcases Nat.lt_or_ge i (as.drop n).length with hi|hi
  ·rw[a8 hi,List.getElem?_drop]at h1;rw[a8 (by rw[bf]at hi ⊢;omega),List.getElem?_drop]at h2;exact⟨_,h1,h2⟩
  ·rw[a6 hi]at h1;rw[a6 (by rw[bf]at hi ⊢;omega)]at h2;rw[bf]at h1 h2;rw[hl]at h1;rw[List.getElem?_take]at h1 h2;split at h1
   ·rw[if_pos (by omega)]at h2;exact⟨_,h1,h2⟩
   ·cases h1
 obtain⟨j,a1,a2⟩:=key;obtain⟨x,y⟩:=r j a q a1 a2;exact⟨x,s _ _ y x⟩
structure PlX(ps:Pl):Prop where
 lo:2<=ps.length
 hi:ps.length<=9
 nd:(ps.map (·.1)).Nodup
 nx:∀p∈ps,Nx p.1
 rm:∀p∈ps,∀i,p.2=some i->0<=i/\i<=1000
 pl:∃p∈ps,p.2.isSome=true
theorem PlX.rot{ps:Pl}{n:Nat}(h:PlX ps):PlX (ps.drop n++ps.take n):=by have pm:(ps.drop n++ps.take n).Perm ps:=List.perm_append_comm.trans (by rw[cg]);have mm:∀p,p∈ps.drop n++ps.take n↔p∈ps:=λp=>pm.mem_iff;refine⟨pm.length_eq▸h.lo,pm.length_eq▸h.hi,((pm.map _).nodup_iff).mpr h.nd,λp hp=>h.nx p ((mm p).mp hp),λp hp=>h.rm p ((mm p).mp hp),?_⟩;obtain⟨p,hp,e⟩:=h.pl;exact⟨p,(mm p).mpr hp,e⟩
def P0:Sp:=λvs H Q _=>∃(b:Addr)(c:Bool),vs=[.ref b,.int (if c=true then 1 else 0)]/\ZD H b /\∀H' l(ps:Pl),ZD H' b->Zg b H H'->H l=none->Xn b H' l (ps.map plRow)->PlX ps->Q (.ref l) H'
section
variable {P:Program}{w:World}{K:aa}{mg:Str->Option Value}{base:Heap}
theorem Yr:FnScope [q_b,"_law_wide","_law_names_here",q_p,"_law_k","_law_room","_law_at"] [q_b,"_law_wide"] (Zd T.f__law_places):=scO
theorem RJ(B:∀x∈Blts,mg x=none)(CT:Can P w K mg base 1 "_law_take" [q_b,"_law_many"] Y2)(CN:Can P w K mg base 2 "_law_names" [q_b,"_law_many"] N4)(D:Df K mg "_law_places" T.f__law_places [q_b,"_law_wide"]):Can P w K mg base 3 "_law_places" [q_b,"_law_wide"] P0:=by
 refine D.cn Yr λf cdv A outer s H vs Q E hr h=>?_;obtain⟨b,c,rfl,hb,k⟩:=h;refine' ⟨_,(@Za _ _ _ _ _ ?h16 (@Za _ _ _ _ _ ?h17 (@Za _ _ _ _ _ ?h18 (@Za _ _ _ _ _ ?h19 (@Ze _ _ _ ?h20))))),?rd⟩;case' h20=>refine' (Zn (Zp Z8 (YB (r:=rSlL K) Xw (pv 3) (YZ (pv 6)) Y0) (YB (r:=rSlL K) Xw (pv 3) Y0 (YZ (pv 6)))))
 case' h19=>refine' (@st _ _ _ _ 6 _ _ Yr.nd (cn CT hr (@pa2 _ _ _ _ _ (pv 0) (Zy (r:=rLen K) ZU rfl (bm B) aZ (@pa1 _ _ _ (pv 3) (by rfl))) (by rfl))) (by rfl) (by exact aK rfl) (by rfl) (by exact .inl rfl))
 case' h18=>refine' (Yn aY rfl (Xy rfl (bm B) (@pa2 _ _ _ _ _ Zb (Zy (r:=rLen K) ZU rfl (bm B) aZ (@pa1 _ _ _ (pv 2) (by rfl))) (by rfl))) (nmT 4 Yr.nd) (@Za _ _ _ _ _ ?h13 (@Za _ _ _ _ _ ?h14 (@Ze _ _ _ ?h15))))
 case' h17=>refine' (@st _ _ _ _ 3 _ _ Yr.nd ?h5 (by rfl) (by exact aK rfl) (by rfl) (by exact .inl rfl))
 case' h16=>refine' (@st _ _ _ _ 2 _ _ Yr.nd (cn CN hr (@pa2 _ _ _ _ _ (pv 0) (Zp ZG Zb (cn CT hr (@pa2 _ _ _ _ _ (pv 0) ?h2 (by rfl)))) (by rfl))) (by rfl) (by exact aK rfl) (by rfl) (by exact .inl rfl))
 case' h15=>refine' (Yg (GY bN cv cu Jh (pv 3) (@pa1 _ _ _ ?h12 (by rfl))))
 case' h14=>refine' (@ZF _ _ _ _ _ _ _ _ (@Zq _ _ _ _ _ _ _ _ SJ (cn CT hr (@pa2 _ _ _ _ _ (pv 0) Zb (by rfl))) ?h9 (ZA _)) (@Ze _ _ _ ?h10) Zr)
 case' h13=>refine' (@st _ _ _ _ 5 _ _ Yr.nd ?h7 (by rfl) (by exact aK rfl) (by rfl) (by exact .inl rfl))
 case' h12=>refine' (@Zw _ _ _ _ _ (@pa2 _ _ _ _ _ ?h11 (pv 5) (by rfl)))
 case' h11=>refine' (@il _ _ _ _ _ _ K (pv 2) (pv 4) (by rfl) (by exact λ_ _=>rfl))
 case' h10=>refine' (@st _ _ _ _ 5 _ _ Yr.nd ZK (by rfl) (by exact aK rfl) (by rfl) (by exact .inl rfl))
 case' h9=>refine' (@il _ _ _ _ _ _ K ?h8 (Yi GU rfl (bm B) PK (@pa1 _ _ _ (@Yp _ _ _ _ _ _ _ _ ML (pv 4) Zb (ZA _)) (by rfl))) (by rfl) (by exact λ_ _=>rfl))
 case' h8=>refine' (@Zz _ _ _ _ (@pa2 _ _ _ _ _ Zb Zb (by rfl)))
 case' h7=>refine' (@il _ _ _ _ _ _ K ?h6 (cn CT hr (@pa2 _ _ _ _ _ (pv 0) Zb (by rfl))) (by rfl) (by exact λ_ _=>rfl))
 case' h6=>refine' (@Zz _ _ _ _ (@Zc _ _ _ _ _ Zb (@Zc _ _ _ _ _ Zb (@pa3 _ _ _ _ _ _ _ Zb Zb (cn CT hr (@pa2 _ _ _ _ _ (pv 0) Zb (by rfl))) (by rfl)) (by rfl)) (by rfl)))
 case' h5=>refine' (@Zz _ _ _ _ (@pa1 _ _ _ ?h4 (by rfl)))
 case' h4=>refine' (@Zw _ _ _ _ _ (@pa2 _ _ _ _ _ ?h3 (cn CT hr (@pa2 _ _ _ _ _ (pv 0) Zb (by rfl))) (by rfl)))
 case' h3=>refine' (@il _ _ _ _ _ _ K (pv 2) Zb (by rfl) (by exact λ_ _=>rfl))
 case' h2=>refine' (@il _ _ _ _ _ _ K ?h1 (pv 1) (by rfl) (by exact λ_ _=>rfl))
 case' h1=>refine' (@Zz _ _ _ _ (@pa2 _ _ _ _ _ Zb Zb (by rfl)))
 case' rd=>
 refine⟨_,rfl,_,rfl,(zl),λl1 h1=>?_⟩;refine⟨_,rfl,l1,_,_,_,rfl,rfl,SqL.of Zf,Tv,b,_,rfl,hb.new h1,(by cases c<;>decide),ZT (by cases c<;>decide) (by cases c<;>decide),λt0 H2 t00 t01 B2 S2=>?_⟩;have ht8:t0<8:=by cases c<;>simp at t01<;>omega
 refine⟨_,_,rfl,rfl,b,_,rfl,B2,by omega,by omega,λH3 lN ts B3 S3 nN eN neN hc nd nx=>?_⟩;have S03:Zg b H H3:=((Zg.refl b H).new' h1).trans (S2.trans S3);clear S2 S3 B2 nN h1 t01;dsimp only[Zt,az];have l0:0<ts.length:=by omega
 refine⟨_,rfl,lN,_,0,_,rfl,rfl,SqL.of eN,Zu (j:=0) (v:=V.str ts[0]) (by simp[l0]),tkC B3 (λr0 H4 r00 r01 B4 S4=>?_)⟩;have S04:=S03.trans S4;have eN4:=S4 _ _ eN neN;refine⟨Nat.le_trans (by decide:2<=1000) (by decide),λq0 hq0=>?_⟩;refine⟨Nat.le_trans (by decide:1<=1000) (by decide),λlP hP=>?_⟩;have nq0:=B4.ne hq0;have nP':lP≠q0:=λz=>by rw[z,Zf]at hP;cases hP
 have hP4:H4 lP=none:=by rw[Zj nP']at hP;exact hP
 have nP:=B4.ne hP4;have hP0:=YM S04 hP4 nP;have R0:Xn b (upd (upd H4 q0 (.tup [.str ts[0],.int r0])) lP (.lst [.ref q0])) lP ([((ts[0],some r0):Str×Option Int)].map plRow):=⟨nP,[q0],Zf,rfl,λi a r h1 h2=>by
  rcases i with _|i
  ·cases h1;cases h2;exact⟨nq0,by rw[Zj (bD nP'),Zf];rfl⟩
  ·cases h1⟩
 have nNP:lN≠lP:=Zi eN4 hP4;have eN5:upd (upd H4 q0 (.tup [.str ts[0],.int r0])) lP (.lst [.ref q0]) lN=some (.lst (ts.map V.str)):=by rw[Zj nNP,Zj (Zi eN4 hq0)];exact eN4
 have B5:ZD (upd (upd H4 q0 (.tup [.str ts[0],.int r0])) lP (.lst [.ref q0])) b:=(B4.new hq0).new hP;have S05:Zg b H (upd (upd H4 q0 (.tup [.str ts[0],.int r0])) lP (.lst [.ref q0])):=(S04.new' hq0).new' hP;generalize upd (upd H4 q0 (.tup [.str ts[0],.int r0])) lP (.lst [.ref q0])=H5 at R0 eN5 B5 S05 ⊢;clear S04 S03 S4 eN4 eN B4 B3 hP hq0 nq0 nP' hP4;dsimp only[Zt,az];refine⟨_,rfl,lN,_,rfl,.inl (SqL.of eN5),1,_,rfl,⟨by decide,by decide,by rw[lm];omega,by rw[lm];omega⟩,?_⟩;refine YU (J:=Itr 1 _) (ts.length-1) (λi σ H'=>ZD H' b/\Zg b H H'/\H' lN=some (.lst (ts.map V.str))/\(∃ps:Pl,Xn b H' lP (ps.map plRow)/\ps.map (·.1)=ts.take (i+1)/\(∀p∈ps,∀i,p.2=some i->0<=i/\i<=1000)/\(∃p∈ps,p.2.isSome=true))/\∃o:Nat->Option V,σ=[some (.ref b),some (.int (if c=true then 1 else 0)),some (.ref lN),some (.ref lP),o 4,o 5,o 6]) ?_ (λi σ H' hi q=>?_) (λσ H' q=>?_) (λi σ H' v H6 hi q yl=>?_) (λσ H' q=>?_)
 ·refine⟨B5,S05,eN5,⟨_,R0,?_,λp hp i e=>?_,_,ay.mpr rfl,rfl⟩,shp rfl⟩
  ·rw[a9,gE l0];rfl
  ·rw[ay]at hp;subst hp;cases e;omega
 ·show i<_;rw[lm];omega
 ·show _<=_;rw[lm];omega
 ·obtain⟨bx,sm,el,⟨ps,ra,sub,rx,pl⟩,o,rfl⟩:=q;obtain⟨rfl,rfl⟩:=yl;have hi1:i+1<ts.length:=by omega
  dsimp only[Zt,az];refine td λD' hdd=>?_;refine tkC bx (λr1 H7 r10 r11 B7 S7=>?_);refine⟨(zl),λl8 h8=>?_⟩;dsimp only;refine al2 B7 h8 λH8 B8 S8 e8 n8=>?_;refine tkC B8 (λr2 H9 r20 r21 B9 S9=>?_);have e9:=S9 _ _ e8 n8;obtain⟨v9,at9,m9⟩:=at_of (xs:=[V.int 0,.int 1,.int 2,.int 1000,.int r1]) (r:=r2) r20 (by simpa using r21);obtain⟨ro,rfl,ro0,ro1⟩:∃ro,v9=.int ro/\0<=ro/\ro<=1000:=by
   simp only[ao,aF,or_false]at m9;rcases m9 with rfl|rfl|rfl|rfl|rfl
   ·exact⟨_,rfl,by decide,by decide⟩
   ·exact⟨_,rfl,by decide,by decide⟩
   ·exact⟨_,rfl,by decide,by decide⟩
   ·exact⟨_,rfl,by decide,by decide⟩
   ·exact⟨_,rfl,by omega,by omega⟩
  refine⟨l8,_,_,_,rfl,rfl,SqL.of e9,at9,?_⟩;have S69:=(S7.trans S8).trans S9;clear at9 m9 e9 e8 S7 S8 S9 B8 B7 h8;dsimp only[Zt,az];have fin:∀(H':Hp)(rm:Option Int),ZD H' b->Zg b H6 H'->(∀i,rm=some i->0<=i/\i<=1000)->∀σ',σ'=[some (.ref b),some (.int (if c=true then 1 else 0)),some (.ref lN),some (.ref lP),some (.int (1+i)),some (VF rm),o 6] ->Eg (tBM K "list" SA (tVar 3) (Yl (tTup (Yl (tOp (rIxL K) (tVar 2) (tVar 4)) (Yl (tVar 5) tNil))) tNil)) D' σ' H':=λH' rm bx' s' hrm σ' eσ=>by
   subst eσ;have ra':=ra.same s';obtain⟨xs,eF,lx,app⟩:=ra'.app;have el':=s' _ _ el neN;refine⟨_,rfl,.inl ⟨rfl,_,SqL.of eF⟩,_,rfl,_,rfl,lN,_,_,_,rfl,rfl,SqL.of el',PL (j:=i+1) (v:=V.str ts[i+1]) (by omega) (by simp[hi1]),_,rfl,Nat.le_trans (by decide:2<=1000) (by decide),λq hq2=>?_⟩;have hl:ps.length=i+1:=by have:=congrArg List.length sub;rw[lm,aG]at this;omega
   have nFq:lP≠q:=Zi eF hq2;refine⟨lP,xs,_,rfl,rfl,(Zj nFq).trans eF,Nat.lt_of_le_of_lt (by rw[lx,lm];omega:xs.length<=20) (by decide),?_⟩;have nq:=bx'.ne hq2;refine hdd _ _ ⟨ZD.same_ne (bx'.new hq2) nP,Nv ((sm.trans s').new' hq2) (Zg.refl b H) nP hP0,?_,⟨ps++[(ts[i+1],rm)],?_,?_,?_,?_⟩,shp rfl⟩
   ·rw[Zj nNP,Zj (Zi el' hq2)];exact el'
   ·rw[aI];exact app q _ hq2 nq
   ·rw[aI,sub,a9 (i:=i+1),gE hi1];rfl
   ·intro p hp;rcases aw.mp hp with hp|hp
    ·exact rx p hp
    ·rw[ay]at hp;subst hp;exact hrm
   ·obtain⟨p,hp,e⟩:=pl;exact⟨p,bq _ hp,e⟩
  refine tkC B9 (λr3 H10 r30 r31 B10 S10=>?_);refine⟨(zl),λl11 h11=>?_⟩;dsimp only;refine al2 B10 h11 λH11 B11 S11 e11 n11=>?_;refine⟨_,rfl,_,_,rfl,rfl,.inr ⟨_,rfl,l11,_,_,_,rfl,rfl,SqL.of e11,Tv,_,_,rfl,rfl,_,rfl,?_⟩⟩;have S611:=(S69.trans S10).trans S11;refine ite2 (λ_=>?_) (λ_=>?_)
  ·exact fin H11 none B11 S611 (λi z=>nomatch z) _ rfl
  ·exact fin H11 (some ro) B11 S611 (λi z=>by cases z;exact⟨ro0,ro1⟩) _ rfl
 ·obtain⟨bx,sm,el,⟨ps,ra,sub,rx,pl⟩,o,rfl⟩:=q;rw[show ts.length-1+1=ts.length by omega,aV]at sub;have hpl:ps.length=ts.length:=by have:=congrArg List.length sub;rwa [bw]at this
  obtain⟨xs,eF,lx,_⟩:=ra.app;rw[lm]at lx;refine⟨_,rfl,_,rfl,lP,_,rfl,.inl (SqL.of eF),b,_,rfl,bx,by omega,ZT (by omega) (by omega),λat_ H7 a0 a1 B7 S7=>?_⟩;have eF7:=S7 _ _ eF nP;have S07:=sm.trans S7;dsimp only[Zt,az];refine⟨_,rfl,_,rfl,_,rfl,lP,xs,rfl,SqL.of eF7,λl8 h8=>?_⟩;dsimp only;refine al2E (congrArg HO.lst (Ur xs a0)) B7 h8 λH8 B8 S8 e8 n8=>?_;refine⟨_,rfl,_,rfl,_,rfl,lP,xs,rfl,SqL.of (S8 _ _ eF7 nP),λl9 h9=>?_⟩;dsimp only;refine al2E (congrArg HO.lst (Py xs a0)) B8 h9 λH9 B9 S9 e9 n9=>?_;refine⟨l8,l9,_,_,rfl,rfl,S9 _ _ e8 n8,e9,Nat.le_trans (by rw[bf,aG];omega:_<=1000) (by decide),λl10 h10=>?_⟩;have S09:=(S07.trans S8).trans S9;refine k _ l10 (ps.drop at_.toNat++ps.take at_.toNat) (B9.new h10) (S09.new' h10) (YM S09 h10 (B9.ne h10)) ?_ (PlX.rot ⟨by omega,by omega,sub▸nd,λp hp=>nx _ (sub▸af.mpr ⟨p,hp,rfl⟩),rx,pl⟩);rw[aI,List.map_drop,List.map_take];exact Kt ra (((S7.trans S8).trans S9).new' h10) (B9.ne h10) λys e=>by rw[eF]at e;cases e;exact Zf
end
end WD
namespace L2
open PySem PySem.Spec PyProof.Rows
def IsFn(P:Program)(w:World)(K:aa)(mg:Str->Option Value)(base:Heap)(k:Nat)(ps:List Str)(f:Addr)(sp:Sp):Prop:=∃fd,FnOk P w K mg base CX0 k f fd ps sp/\bu K (.ref f)=true/\Binds K fd ps []
def EJ(R:Addr->Sp->Prop)(i:Nat)(t:TA):TE:=λσ H Q=>∃f sp,σ[i]?=some (some (.ref f))/\R f sp/\t σ H λvs H1=>sp (vs++[]) H1 Q E0
theorem KR{X:Cx}{k i:Nat}{x:Str}{ps:List Str}{R:Addr->Sp->Prop}{p pos:Pos}{e:Expr}{es:List Expr}{t:TA}(hR:∀f sp,R f sp->IsFn X.prog X.w X.K X.mg X.base k ps f sp)(hr:Room k X.A)(hN:X.N[i]?=some x)(hv:Vis X.env.scope x)(ha:PA X (e::es) t)(hd:(x==("__debug__":Str))=false:=by decide)(hcd:(x==("__classdict__":Str))=false:=by decide)(he:aN (e::es) X.env=(false,eval e X.env)::aN es X.env:=by rfl)(hpl:(cf pos (aN es X.env)).any (·.1)=false:=by rfl):PE X (.Call (.Name x p) (e::es) [] pos) (EJ R i t):=by intro pins s σ H Q I h;obtain⟨f,sp,e1,hf,h⟩:=h;obtain⟨fd,F,kp,b⟩:=hR f sp hf;refine dD (thn (KL hN hv hd hcd pins s σ H (λv H1=>v=.ref f/\t σ H1 λvs H2=>sp (vs++[]) H2 Q E0) I ⟨_,e1,rfl,h⟩) λv s1 hZ=>?_);obtain⟨y,H1,I1,r1,ey,q1⟩:=hZ;subst ey;obtain rfl:v=Value.ref f:=r1;refine dj (h₀:=X.base) I1.ok.mod.kin kp (thn (ha pos pins s1 σ H1 _ I1 q1) λus s2⟨vs,H2,I2,r2,q2⟩=>⟨I2.kIn,?_⟩) he hpl;exact MC F hr b .nil Ys I2 r2 q2
end L2
namespace WD
open PySem L2 PySem.Spec PyProof.Rows TB
structure RdX(n:Int)(ns ss:List Str)(r:Rd):Prop where
 st:r.st∈ss
 gl:r.gl∈ns
 ne:r.st≠r.gl
 lv0:0<=r.lv
 lv1:r.lv<=n-1
 cm0:r.lv+1<=r.cm
 cm1:r.cm<=n
 se0:0<=r.se
 se1:r.se<=1000
structure WyX(ns ss:List Str)(r:Wy):Prop where
 st:r.st∈ss
 gl:r.gl∈ns
 ne:r.st≠r.gl
 lo0:1<=r.lo
 lo1:r.lo<=50
 wi0:0<=r.wi
 wi1:r.wi<=1000
structure GrX(n:Int)(ns:List Str)(r:Gr):Prop where
 pl:r.pl∈ns
 tu0:0<=r.tu
 tu1:r.tu<=n
 ma0:0<=r.ma
 ma1:r.ma<=4
def OkR(j:Nat)(n:Int)(ns ss:List Str)(nm:Str)(row:List V):Prop:=(j=0->∃r:Rd,row=Sw r/\r.nm=nm/\RdX n ns ss r)/\(j=1->∃r:Wy,row=RW r/\r.nm=nm/\WyX ns ss r)/\(j=2->∃r:Gr,row=Qz r/\r.nm=nm/\GrX n ns r)
def VD(j:Nat):Sp:=λvs H Q _=>∃(b:Addr)(nm sa gl:Str)(n:Int)(ns ss:List Str),vs=[.ref b,.str nm,.int n,.str sa,.str gl]/\ZD H b/\1<=n/\n<=30/\sa∈ss/\sa∈ns/\gl∈ns/\sa≠gl /\∀H' q row,ZD H' b->Zg b H H'->H q=none->H' q=some (.tup row)->OkR j n ns ss nm row->Q (.ref q) H'
noncomputable def VE:List Str:=[q_b,"_law_name","_law_turns","_law_start","_law_goal"]
theorem at_i{xs:List Int}{r lo hi:Int}(h0:0<=r)(h1:r<(xs.length:Int))(hx:∀x∈xs,lo<=x/\x<=hi):∃x,atI (xs.map V.int) r=some (.int x)/\lo<=x/\x<=hi:=by obtain⟨v,a,m⟩:=at_of (xs:=xs.map V.int) h0 (by rw[lm];exact h1);obtain⟨x,hx',rfl⟩:=af.mp m;exact⟨x,a,hx x hx'⟩
section
variable {P:Program}{w:World}{K:aa}{mg:Str->Option Value}{base:Heap}
theorem JX:FnScope [q_b,"_law_name","_law_turns","_law_start","_law_goal","_law_leave","_law_come"] [q_b,"_law_name","_law_turns","_law_start","_law_goal"] (Zd T.f__law_ride):=scO
theorem Wx(CT:Can P w K mg base 1 "_law_take" [q_b,"_law_many"] Y2)(D:Df K mg "_law_ride" T.f__law_ride VE):Can P w K mg base 2 "_law_ride" VE (VD 0):=by
 refine D.cn JX λf cdv A outer s H vs Q E hr h=>?_;obtain⟨b,nm,sa,gl,n,ns,ss,rfl,hb,n1,n2,hs,hs',hg,hne,k⟩:=h;refine' ⟨_,(@Za _ _ _ _ _ ?h3 (@Za _ _ _ _ _ ?h4 (@Ze _ _ _ ?h5))),?rd⟩;case' h5=>refine' (Zn ?h2)
 case' h4=>refine' (@st _ _ _ _ 6 _ _ JX.nd (Zp ZG (Zp ZG (pv 5) Zb) (cn CT hr (@pa2 _ _ _ _ _ (pv 0) (Zp XE (pv 2) (pv 5)) (by rfl)))) (by rfl) (by exact aK rfl) (by rfl) (by exact .inl rfl))
 case' h3=>refine' (@st _ _ _ _ 5 _ _ JX.nd (cn CT hr (@pa2 _ _ _ _ _ (pv 0) (pv 2) (by rfl))) (by rfl) (by exact aK rfl) (by rfl) (by exact .inl rfl))
 case' h2=>refine' (@Zw _ _ _ _ _ (@Zc _ _ _ _ _ (pv 1) (@Zc _ _ _ _ _ (pv 3) (@Zc _ _ _ _ _ (pv 5) (@pa3 _ _ _ _ _ _ _ (pv 4) (pv 6) ?h1 (by rfl)) (by rfl)) (by rfl)) (by rfl)))
 case' h1=>refine' (@il _ _ _ _ _ _ K (@Zz _ _ _ _ (@Jy _ _ (by decide +kernel))) (cn CT hr (@pa2 _ _ _ _ _ (pv 0) Zb (by rfl))) (by rfl) (by exact λ_ _=>rfl))
 case' rd=>
 refine⟨_,rfl,_,rfl,b,n,rfl,hb,by omega,ZT (by omega) (by omega),λlv H1 l0 l1 B1 S1=>?_⟩;dsimp only[Zt,az];refine⟨_,rfl,_,_,rfl,rfl,_,rfl,_,rfl,_,rfl,_,_,rfl,rfl,b,_,rfl,B1,by omega,ZT (by omega) (by omega),λc H2 c0 c1 B2 S2=>?_⟩;refine⟨_,_,rfl,rfl,?_⟩;dsimp only[Zt,az];refine⟨_,rfl,_,rfl,_,rfl,_,rfl,_,rfl,(zl),λl3 h3=>?_⟩;dsimp only;refine al2 B2 h3 λH3 B3 S3 e3 n3=>?_;refine tkC B3 (λr H4 r0 r1 B4 S4=>?_);obtain⟨se,hat,s0,s1⟩:=at_i (xs:=[0,1,1,2,3,1000]) (lo:=0) (hi:=1000) r0 r1 (by decide);refine⟨l3,_,_,_,rfl,rfl,SqL.of (S4 _ _ e3 n3),hat,Nat.le_trans (by decide:6<=1000) (by decide),λq hq=>?_⟩;have S04:=((S1.trans S2).trans S3).trans S4;exact k _ q (Sw ⟨nm,sa,lv,gl,lv+1+c,se⟩) (B4.new hq) (S04.new' hq) (YM S04 hq (B4.ne hq)) Zf ⟨λ_=>⟨_,rfl,rfl,hs,hg,hne,l0,by show lv<=n-1;omega,by show lv+1<=lv+1+c;omega,by show lv+1+c<=n;omega,s0,s1⟩,(by intro z;cases z),(by intro z;cases z)⟩
theorem My:FnScope [q_b,"_law_name","_law_turns","_law_start","_law_goal","_law_long"] [q_b,"_law_name","_law_turns","_law_start","_law_goal"] (Zd T.f__law_way):=scO
theorem LJ(CT:Can P w K mg base 1 "_law_take" [q_b,"_law_many"] Y2)(D:Df K mg "_law_way" T.f__law_way VE):Can P w K mg base 2 "_law_way" VE (VD 1):=by
 refine D.cn My λf cdv A outer s H vs Q E hr h=>?_;obtain⟨b,nm,sa,gl,n,ns,ss,rfl,hb,n1,n2,hs,hs',hg,hne,k⟩:=h;refine' ⟨_,(@Za _ _ _ _ _ ?h5 (@Ze _ _ _ ?h6)),?rd⟩;case' h6=>refine' (Zn ?h4)
 case' h5=>refine' (@st _ _ _ _ 5 _ _ My.nd (Zp ZG Zb (cn CT hr (@pa2 _ _ _ _ _ (pv 0) ?h2 (by rfl)))) (by rfl) (by exact aK rfl) (by rfl) (by exact .inl rfl))
 case' h4=>refine' (@Zw _ _ _ _ _ (@Zc _ _ _ _ _ (pv 1) (@Zc _ _ _ _ _ (pv 3) (@pa3 _ _ _ _ _ _ _ (pv 4) (pv 5) ?h3 (by rfl)) (by rfl)) (by rfl)))
 case' h3=>refine' (@il _ _ _ _ _ _ K (@Zz _ _ _ _ (@Jy _ _ (by decide +kernel))) (cn CT hr (@pa2 _ _ _ _ _ (pv 0) Zb (by rfl))) (by rfl) (by exact λ_ _=>rfl))
 case' h2=>refine' (@il _ _ _ _ _ _ K ?h1 (cn CT hr (@pa2 _ _ _ _ _ (pv 0) Zb (by rfl))) (by rfl) (by exact λ_ _=>rfl))
 case' h1=>refine' (@Zz _ _ _ _ (@pa2 _ _ _ _ _ Zb (Zp ZG (pv 2) Zb) (by rfl)))
 case' rd=>
 refine⟨_,rfl,_,rfl,_,_,rfl,rfl,(zl),λl1 h1=>?_⟩;dsimp only;refine al2 hb h1 λH1 B1 S1 e1 n1'=>?_;refine tkC B1 (λr H2 r0 r1 B2 S2=>?_);obtain⟨c,hat,c0,c1⟩:=at_i (xs:=[2,n+1]) (lo:=1) (hi:=31) r0 r1 (by intro x hx;simp only[ao,aF,or_false]at hx;omega);refine⟨l1,_,_,_,rfl,rfl,SqL.of (S2 _ _ e1 n1'),hat,b,_,rfl,B2,by omega,ZT (by omega) (by omega),λg H3 g0 g1 B3 S3=>?_⟩;refine⟨_,_,rfl,rfl,?_⟩;dsimp only[Zt,az];refine⟨_,rfl,_,rfl,_,rfl,_,rfl,(zl),λl4 h4=>?_⟩;dsimp only;refine al2 B3 h4 λH4 B4 S4 e4 n4=>?_;refine tkC B4 (λr' H5 r0' r1' B5 S5=>?_);obtain⟨wi,hat',s0,s1⟩:=at_i (xs:=[0,1,2,3]) (lo:=0) (hi:=1000) r0' r1' (by decide);refine⟨l4,_,_,_,rfl,rfl,SqL.of (S5 _ _ e4 n4),hat',Nat.le_trans (by decide:5<=1000) (by decide),λq hq=>?_⟩;have S05:=(((S1.trans S2).trans S3).trans S4).trans S5;exact k _ q (RW ⟨nm,sa,gl,1+g,wi⟩) (B5.new hq) (S05.new' hq) (YM S05 hq (B5.ne hq)) Zf ⟨(by intro z;cases z),λ_=>⟨_,rfl,rfl,hs,hg,hne,by show 1<=1+g;omega,by show 1+g<=50;omega,s0,s1⟩,(by intro z;cases z)⟩
theorem Jv:FnScope [q_b,"_law_name","_law_turns","_law_start","_law_goal","_law_place","_law_turn"] [q_b,"_law_name","_law_turns","_law_start","_law_goal"] (Zd T.f__law_group):=scO
theorem RN(CT:Can P w K mg base 1 "_law_take" [q_b,"_law_many"] Y2)(D:Df K mg "_law_group" T.f__law_group VE):Can P w K mg base 2 "_law_group" VE (VD 2):=by
 refine D.cn Jv λf cdv A outer s H vs Q E hr h=>?_;obtain⟨b,nm,sa,gl,n,ns,ss,rfl,hb,n1,n2,hs,hs',hg,hne,k⟩:=h;refine' ⟨_,(@Za _ _ _ _ _ ?h6 (@Za _ _ _ _ _ ?h7 (@Ze _ _ _ ?h8))),?rd⟩;case' h8=>refine' (Zn ?h5)
 case' h7=>refine' (@st _ _ _ _ 6 _ _ Jv.nd (cn CT hr (@pa2 _ _ _ _ _ (pv 0) ?h4 (by rfl))) (by rfl) (by exact aK rfl) (by rfl) (by exact .inl rfl))
 case' h6=>refine' (@st _ _ _ _ 5 _ _ Jv.nd ?h2 (by rfl) (by exact aK rfl) (by rfl) (by exact .inl rfl))
 case' h5=>refine' (@Zw _ _ _ _ _ (@Zc _ _ _ _ _ (pv 1) (@pa3 _ _ _ _ _ _ _ (pv 5) (pv 6) (cn CT hr (@pa2 _ _ _ _ _ (pv 0) Zb (by rfl))) (by rfl)) (by rfl)))
 case' h4=>refine' (@il _ _ _ _ _ _ K ?h3 (cn CT hr (@pa2 _ _ _ _ _ (pv 0) Zb (by rfl))) (by rfl) (by exact λ_ _=>rfl))
 case' h3=>refine' (@Zz _ _ _ _ (@pa2 _ _ _ _ _ Zb (Zp ZG (pv 2) Zb) (by rfl)))
 case' h2=>refine' (@il _ _ _ _ _ _ K ?h1 (cn CT hr (@pa2 _ _ _ _ _ (pv 0) Zb (by rfl))) (by rfl) (by exact λ_ _=>rfl))
 case' h1=>refine' (@Zz _ _ _ _ (@Zc _ _ _ _ _ (pv 3) (@pa3 _ _ _ _ _ _ _ (pv 3) (pv 3) (pv 4) (by rfl)) (by rfl)))
 case' rd=>
 refine⟨_,rfl,_,rfl,_,rfl,_,rfl,(zl),λl1 h1=>?_⟩;dsimp only;refine al2 hb h1 λH1 B1 S1 e1 n1'=>?_;refine tkC B1 (λr H2 r0 r1 B2 S2=>?_);obtain⟨v,hat,hm⟩:=at_of (xs:=[V.str sa,.str sa,.str sa,.str gl]) (r:=r) r0 r1;obtain⟨pl,rfl,hpl⟩:∃pl,v=.str pl/\pl∈ns:=by
  simp only[ao,aF,or_false]at hm;rcases hm with rfl|rfl|rfl|rfl
  ·exact⟨_,rfl,hs'⟩
  ·exact⟨_,rfl,hs'⟩
  ·exact⟨_,rfl,hs'⟩
  ·exact⟨_,rfl,hg⟩
 refine⟨l1,_,_,_,rfl,rfl,SqL.of (S2 _ _ e1 n1'),hat,?_⟩;dsimp only[Zt,az];refine⟨_,rfl,_,rfl,_,_,rfl,rfl,(zl),λl3 h3=>?_⟩;dsimp only;refine al2 B2 h3 λH3 B3 S3 e3 n3=>?_;refine tkC B3 (λr' H4 r0' r1' B4 S4=>?_);obtain⟨c,hat',c0,c1⟩:=at_i (xs:=[1,n+1]) (lo:=1) (hi:=n+1) r0' r1' (by intro x hx;simp only[ao,aF,or_false]at hx;omega);refine⟨l3,_,_,_,rfl,rfl,SqL.of (S4 _ _ e3 n3),hat',b,_,rfl,B4,by omega,ZT (by omega) (by omega),λtu H5 t0 t1 B5 S5=>?_⟩;dsimp only[Zt,az];refine⟨_,rfl,_,rfl,_,rfl,tkC B5 (λma H6 m0 m1 B6 S6=>?_)⟩;refine⟨Nat.le_trans (by decide:4<=1000) (by decide),λq hq=>?_⟩;have S06:=((((S1.trans S2).trans S3).trans S4).trans S5).trans S6;exact k _ q (Qz ⟨nm,pl,tu,ma⟩) (B6.new hq) (S06.new' hq) (YM S06 hq (B6.ne hq)) Zf ⟨(by intro z;cases z),(by intro z;cases z),λ_=>⟨_,rfl,rfl,hpl,t0,by show tu<=n;omega,m0,by show ma<=4;omega⟩⟩
end
end WD
namespace L2
open PySem PySem.Spec PyProof.Rows
noncomputable def L3(l:Addr):It:=⟨λi H=>∃xs,H l=some (.lst xs)/\i<xs.length,λi H x H'=>∃(T:Addr)(xs:List V)(y:V),H T=none/\H l=some (.lst xs)/\xs[i]?=some y/\x=.ref T/\H'=upd H T (.tup [.int i,y]),λi H=>∃xs,H l=some (.lst xs)/\i=xs.length⟩
theorem QT{P:Program}{w:World}{K:aa}{es:List Expr}{k:Nat}{pt:Pos}(l e it:Addr)(hei:e≠it)(hle:l≠e)(hli:l≠it):
  Turn P w K (.Tuple es k pt) (L3 l) [e,it] e (λi h=>(∃old,IsEnum h e it i old)/\h.IsListIter it l i) where
 mem:=by simp
 obj:=λi h st b hb=>by
  obtain⟨⟨old,he⟩,o,ho,c,d⟩:=st
  have hb':b=e\/b=it:=by simpa using hb
  rcases hb' with rfl|rfl
  ·exact⟨_,he,λv z=>by cases z⟩
  ·exact⟨o,ho,λv z=>by rw[d]at z;cases z⟩
 keep:=λi h h' st kk=>by
  obtain⟨⟨old,he⟩,o,ho,r⟩:=st
  exact⟨⟨old,kk e (by simp) _ he⟩,o,kk it (by simp) o ho,r⟩
 item:=by
  intro X hP hw hK hc i pins s σ H E I hf st hg
  subst hP hw hK
  obtain⟨xs,hx,hi⟩:=hg
  obtain⟨⟨old,he⟩,hs⟩:=st
  obtain⟨its,rv,pl,_⟩:=I.list (SqL.of hx)
  have hlen:=rv.length
  have D:=Draws.list (prog:=X.prog) (w:=X.w) (A:=X.A.in1) (I.ok.hd hc) it l hli its.toArray
  have W:=eI D e hei (by simp[hei,bD hle]) (by simp)
  refine W.item i s _ _ (by simp only[aq];omega) ⟨⟨old,he⟩,hs,pl.isList⟩ λT vals h' tk hv hT ht hm kk=>?_
  obtain⟨tk',u,hu,rfl⟩:=hv
  obtain⟨y,hy⟩:∃y,xs[i]?=some y:=⟨xs[i],gE hi⟩
  obtain⟨u2,hu2,ru⟩:=rv.get hy
  have hu':its[i]?=some u:=by simpa using hu
  rw[hu']at hu2;cases hu2
  refine⟨_,rfl,?_⟩
  refine W.go es k pt i T {s with heap:=h',toks:=tk} _ _ hm λh2 st2 kk2=>?_
  have hTn:H T=none:=I.hok.fresh hT
  have hap:=W.apart i T h' hm
  have hb2:∀b,b∉[e,it]->∀o,s.heap.get? b=some o->h2.get? b=some o:=λb hb o q=>kk2 b o hb (kk b o hb q)
  have nb:∀b u,H b=some u->b∉[e,it]:=λb u q hb=>by rw[(hf b hb).1]at q;cases q
  have I1:Inv X pins σ (upd H T (.tup [.int i,y])) {s with heap:=h2,toks:=tk}:=by
   refine I.step (g':=s.gens) (d':=s.drawn) (ch:=[e,it]) (λb hb=>?_) (λb o _ _ hb q _=>hb2 b hb o q) (λb o _ _ hb q _=>⟨o.slots,hb2 b hb o q⟩)
    (λb o hb q n=>?_) (λb o hb q=>⟨o,hb2 b hb o q⟩) (λb xs q=>?_) (λb o u q=>?_) (λb ps q=>?_) (λm hm=>?_) ?_ I.bare
   ·obtain⟨g0,g1,g2,g3,g4,g5⟩:=hf b hb
    exact⟨g3,g1,g4,g5⟩
   ·rw[Zj (Nat.ne_of_lt (Nat.lt_of_lt_of_le (Heap.lt_size q) hT))];exact n
   ·rw[Zj (Zi q hTn)];exact q
   ·rw[Zj (Zi q hTn)];exact q
   ·exact⟨#[],by rw[Zj (Zi q hTn),q];simp⟩
   ·obtain⟨o,es',ep,ho,r⟩:=hm
    refine⟨o,es',ep,hb2 _ ?_ o ho,r⟩
    intro hb
    obtain⟨g0,g1,_⟩:=hf _ hb
    exact g1 rfl
   ·intro b ob q
    by_cases hb:b=T
    ·subst hb
     rw[Zf]at q
     cases q
     obtain⟨o,h1,h2',h3⟩:=ht
     exact⟨zl,[.int i tk',u],.cons ⟨_,rfl⟩ (.cons ru .nil),⟨o,kk2 _ _ hap h1,h2',h3⟩⟩
    ·rw[Zj hb]at q
     refine(I.hok b ob q).stay (λc' v hc' q'=>hb2 c' ?_ v q') (λc' q'=>by rw[Zj (Zi q' hTn)];exact q') λc' xs q'=>by rw[Zj (Zi q' hTn)];exact q'
     rcases hc' with rfl|hc'
     ·exact nb _ _ q
     ·exact nb _ _ hc'
  refine⟨.ref T,_,I1,rfl,⟨T,xs,y,hTn,hx,hy,rfl,rfl⟩,⟨st2.1,st2.2.1⟩,λb hb=>?_⟩
  rw[Zj]
  ·exact(hf b hb).1
  ·rintro rfl
   exact hap hb
 done:=by
  intro X hP hw hK hc i pins s σ H E I hf st hg
  subst hP hw hK
  obtain⟨xs,hx,hi⟩:=hg
  obtain⟨⟨old,he⟩,hs⟩:=st
  obtain⟨its,rv,pl,_⟩:=I.list (SqL.of hx)
  have hlen:=rv.length
  have D:=Draws.list (prog:=X.prog) (w:=X.w) (A:=X.A.in1) (I.ok.hd hc) it l hli its.toArray
  have W:=eI D e hei (by simp[hei,bD hle]) (by simp)
  have ei:i=its.toArray.size:=by simp only[aq];omega
  subst ei
  refine W.done s _ _ ⟨⟨old,he⟩,hs,pl.isList⟩ λh' tk kk=>⟨rfl,?_⟩
  have nb:∀b u,H b=some u->b∉[e,it]:=λb u q hb=>by rw[(hf b hb).1]at q;cases q
  refine I.step (g':=s.gens) (d':=s.drawn) (ch:=[e,it]) (λb hb=>?_) (λb o _ _ hb q _=>kk b o hb q) (λb o _ _ hb q _=>⟨o.slots,kk b o hb q⟩)
   (λb o hb q n=>n) (λb o hb q=>⟨o,kk b o hb q⟩) (λb xs q=>q) (λb o u q=>q) (λb ps q=>⟨#[],by rw[q];simp⟩) (λm hm=>?_) (λb u q=>?_) I.bare
  ·obtain⟨g0,g1,g2,g3,g4,g5⟩:=hf b hb
   exact⟨g3,g1,g4,g5⟩
  ·obtain⟨o,es',ep,ho,r⟩:=hm
   refine⟨o,es',ep,kk _ o ?_ ho,r⟩
   intro hb
   obtain⟨g0,g1,_⟩:=hf _ hb
   exact g1 rfl
  ·refine(I.hok b u q).stay (λc' v hc' q'=>kk c' v ?_ q') (λ_ q'=>q') λ_ _ q'=>q'
   rcases hc' with rfl|hc'
   ·exact nb _ _ q
   ·exact nb _ _ hc'
 self:=λA i s Q E st h=>by
  obtain⟨⟨old,he⟩,_⟩:=st
  exact fh he h
section
variable {X:Cx}
noncomputable def iEnL(ta:TA):TI:=λσ H R=>ta σ H λvs H1=>∃(l:Addr)(xs:List V),vs=[.ref l]/\H1 l=some (.lst xs)/\R (L3 l) H1
theorem KI{a:Expr}{ta:TA}{p pos pt:Pos}{es:List Expr}{k:Nat}(hg:Gl X "enumerate")(hm:X.mg "enumerate"=none)(ha:PA X [a] ta)(hb:bF "enumerate"=some (.type "enumerate"))(hs:aN [a] X.env=[(false,eval a X.env)]:=by rfl):PI X (.Tuple es k pt) (.Call (.Name "enumerate" p) [a] [] pos) (iEnL ta):=by
 intro pins s σ H R I h;refine Call_ (V1 I hg hm hb (bT (thn (ha pos pins s σ H _ I h) λus s1 hZ=>?_) hs rfl));obtain⟨vs,H1,I1,r1,q1⟩:=hZ;obtain⟨l,xs,e,hx,q⟩:=q1;subst e;cases r1 with
|cons r rr=>
  cases rr;cases r;obtain⟨its,rv,pl,_⟩:=I1.list (SqL.of hx);refine call_enumerate_list pl.isList λh' he hst _ kk=>?_;have I2:Inv X pins σ H1 {s1 with heap:=h'}:=I1.kept (t':=s1.toks) kk;refine fh he ?_;have lt:l<s1.heap.objs.size:=I1.hok.lt hx;refine⟨s1.heap.objs.size+1,[s1.heap.objs.size+1,s1.heap.objs.size],_,_,H1,rfl,I2,QT l (s1.heap.objs.size+1) s1.heap.objs.size (Nat.succ_ne_self _) (Nat.ne_of_lt (Nat.lt_succ_of_lt lt)) (Nat.ne_of_lt lt),⟨⟨_,he⟩,hst⟩,λb hb=>?_,q⟩;have e:b=s1.heap.objs.size+1\/b=s1.heap.objs.size:=by simpa using hb
  rcases e with e|e<;>subst e
  ·exact I1.fpOk (Nat.le_succ _) (I1.hok.fresh (Nat.le_succ _))
  ·exact I1.fpOk (Nat.le_refl _) (I1.hok.fresh (Nat.le_refl _))
end
theorem Ue{X:Cx}{pos:Pos}{K:aa}{es:List Expr}{k:Nat}{t:TGs}{n:Nat}(hK:X.K=K)(hc:X.calm=true)(h:PGs X es t)(hn:(cq es X.env).length=n:=by rfl)(hst:(cq es X.env).findIdx? (·.1)=none:=by rfl):PG X (.Tuple es k pos) (gTup K n t):=by subst hK;exact YE hc h hn hst
theorem SqL.same{K:aa}{H H':Hp}{a:Addr}{xs:List V}(s:Same H H')(h:SqL K H a xs):SqL K H' a xs:=by
 rcases h with(h|⟨o,h⟩)|h
 ·exact .inl (.inl (s _ _ h))
 ·exact .inl (.inr ⟨o,s _ _ h⟩)
 ·exact .inr h
theorem Ny{X:Cx}{K:aa}(hK:X.K=K):OpR X (bp .NotIn) (rIn K true):=by subst hK;exact Po
theorem K0{X:Cx}{K:aa}(hK:X.K=K):OpR X (bp .In) (rIn K false):=by subst hK;exact TR
theorem Ye{b:Addr}{H H1 H2:Hp}(hn:H b=none)(s:Same H H1)(t:Zg b H1 H2):Same H H2:=λc o e=>t c o (s c o e) (Zi e hn)
end L2
namespace WD
open PySem L2 PySem.Spec PyProof.Rows TB
theorem XO{α:Type}(p:α->Bool)(l:List α){i:Nat}{a:α}(h:l[i]?=some a):(l.take (i+1)).filter p=(l.take i).filter p++(if p a=true then[a]else[]):=by rw[a9,h,f7];simp only[Option.toList_some];cases hp:p a<;>simp[hp]
theorem Xz{α:Type}{J:It}{g:TG}{tc:TT}{te:TE}{τ0:L2.St}{H0:Hp}{R:List V->Hp->Prop}(xs:List α)(hn:xs.length<=sizeLine)(p:α->Bool)(f:α->V)(S:L2.St->Prop)(s0:S τ0)(go:∀i,i<xs.length->J.go i H0)(stop:J.stop xs.length H0)(step:∀(i:Nat)x τ v H',xs[i]?=some x->S τ->J.yld i H0 v H'->∀(N1:V->L2.St->Hp->Prop)(N2:L2.St->Hp->Prop),(p x=true->∀τ2,S τ2->N1 (f x) τ2 H0)->(p x=false->∀τ2,S τ2->N2 τ2 H0) ->g v τ H' λτ2 H2=>tc τ2 H2 λb H3=>if b=true then te τ2 H3 λy H4=>N1 y τ2 H4 else N2 τ2 H3)(hd:R ((xs.filter p).map f) H0):∃W:Nat->Nat->List V->L2.St->Hp->Prop,(∃m,W 0 m [] τ0 H0)/\∀i m ys τ H,W i m ys τ H ->(J.stop i H/\R ys H) \/(J.go i H/\ys.length<sizeLine/\∃N:List V->L2.St->Hp->Prop,(∀ys' τ' H',N ys' τ' H'->∃m',m'<m/\W (i+1) m' ys' τ' H') /\∀x H',J.yld i H x H'->g x τ H' λτ2 H2=>tc τ2 H2 λb H3=>if b=true then te τ2 H3 λy H4=>N (ys++[y]) τ2 H4 else N ys τ2 H3):=by
 refine JG (J:=J) (g:=g) (tc:=tc) (te:=te) xs.length hn (λi ys τ H=>H=H0/\ys=((xs.take i).filter p).map f/\S τ) ⟨rfl,rfl,s0⟩ (λi ys τ H q=>?_) (λi ys τ H hi q=>?_) (λys τ H q=>?_) (λi ys τ H x H' hi q yl=>?_) (λys τ H q=>?_)
 ·obtain⟨_,rfl,_⟩:=q;rw[lm];exact Nat.le_trans (bg _ _) (by rw[aG];omega)
 ·obtain⟨rfl,_⟩:=q;exact go i hi
 ·obtain⟨rfl,_⟩:=q;exact stop
 ·obtain⟨rfl,rfl,st⟩:=q;have e0:xs[i]?=some xs[i]:=gE hi;refine step i xs[i] τ x H' e0 st yl _ _ (λe τ2 s2=>⟨rfl,?_,s2⟩) (λe τ2 s2=>⟨rfl,?_,s2⟩)
  ·rw[XO _ _ e0,if_pos e,aI];rfl
  ·rw[XO _ _ e0,if_neg (by rw[e];exact Bool.false_ne_true),br]
 ·obtain⟨rfl,rfl,_⟩:=q;rw[aV];exact hd
theorem fr2{H:Hp}{c d:Addr}{o:HO}(h:upd H c o d=none):d≠c/\H d=none:=by
 by_cases e:d=c
 ·subst e;rw[Zf]at h;cases h
 ·exact⟨e,by rwa [Zj e]at h⟩
noncomputable def tri{α:Type}(a b c:α):Nat->α
|0=>a|1=>b|_=>c
theorem W2(x y:Str):(!decide (V.str x=V.str y))=decide (x≠y):=by by_cases e:x=y<;>simp[e]
theorem TH(r:Option Int):(!decide (VF r=.non))=r.isSome:=by cases r<;>rfl
def RowsL(H:Hp)(l:Addr)(rows:List (List V)):Prop:=∃as:List Addr,H l=some (.lst (as.map V.ref))/\as.length=rows.length/\∀(i:Nat)a r,as[i]?=some a->rows[i]?=some r->H a=some (.tup r)
section
variable {K:aa}{H H':Hp}{b l l' q:Addr}{rows rows':List (List V)}{row:List V}
theorem Xn.free(h:Xn b H l rows):RowsL H l rows:=by obtain⟨_,as,e,hl,r⟩:=h;exact⟨as,e,hl,λi a q h1 h2=>(r i a q h1 h2).2⟩
theorem RowsL.same(s:Same H H')(h:RowsL H l rows):RowsL H' l rows:=by obtain⟨as,e,hl,r⟩:=h;exact⟨as,s _ _ e,hl,λi a q h1 h2=>s _ _ (r i a q h1 h2)⟩
theorem RowsL.nil(e:H l=some (.lst [])):RowsL H l []:=⟨[],e,rfl,λi a r h=>by cases h⟩
theorem RowsL.other(h:RowsL H l' rows')(n:l'≠l){ys zs:List V}(e:H l=some (.lst ys)):RowsL (upd H l (.lst zs)) l' rows':=by obtain⟨as,e',hl,r⟩:=h;refine⟨as,(Zj n).trans e',hl,λi a q h1 h2=>?_⟩;have:=r i a q h1 h2;rw[Zj (ne_of this e (λz=>nomatch z))];exact this
theorem RowsL.app(h:RowsL H l rows)(hq:H q=some (.tup row)):∃xs:List V,H l=some (.lst xs)/\xs.length=rows.length/\RowsL (upd H l (.lst (xs++[.ref q]))) l (rows++[row]):=by
 obtain⟨as,e,hl,r⟩:=h;refine⟨_,e,by rw[lm,hl],as++[q],by rw[Zf,aI];rfl,by simp[hl],λi a r' h1 h2=>?_⟩;have key:H a=some (.tup r'):=by
  rcases Nat.lt_or_ge i as.length with hi|hi
  ·rw[a8 hi]at h1;rw[a8 (by omega)]at h2;exact r i a r' h1 h2
  ·rw[a6 hi]at h1;rw[a6 (by omega),<-hl]at h2;have hi0:i-as.length=0:=by
    rcases Nat.eq_zero_or_pos (i-as.length)with z|z
    ·exact z
    ·rw[cY (by simp;omega)]at h1;cases h1
   rw[hi0]at h1 h2;cases h1;cases h2;exact hq
 rw[Zj (ne_of key e (λz=>nomatch z))];exact key
theorem RowsL.go(h:RowsL H l rows){i:Nat}(hi:i<rows.length):(Itl K l).go i H:=by obtain⟨as,e,hl,r⟩:=h;exact⟨_,.ref (as[i]'(by omega)),SqL.of e,by simp[hl,hi]⟩
theorem RowsL.stop(h:RowsL H l rows):(Itl K l).stop rows.length H:=by obtain⟨as,e,hl,r⟩:=h;exact⟨_,SqL.of e,by simp[hl]⟩
theorem RowsL.item(h:RowsL H l rows){i:Nat}{r:List V}(hr:rows[i]?=some r){x:V}(y:(Itl K l).yld i H x H'):H'=H/\∃a,x=.ref a/\H a=some (.tup r):=by
 obtain⟨as,e,hl,q⟩:=h;have hi:i<as.length:=by rw[hl];exact(aj.mp hr).1
 obtain⟨rfl,z⟩:=y;have:=z _ (SqL.of e);rw[aJ,gE hi]at this;exact⟨rfl,as[i],(aB this).symm,q i _ r (gE hi) hr⟩
theorem RowsL.at_(h:RowsL H l rows){i:Nat}{r:List V}(hr:rows[i]?=some r):∃(xs:List V)(a:Addr),H l=some (.lst xs)/\xs.length=rows.length/\xs[i]?=some (.ref a)/\H a=some (.tup r):=by
 obtain⟨as,e,hl,q⟩:=h;have hi:i<as.length:=by rw[hl];exact(aj.mp hr).1
 exact⟨_,as[i],e,by rw[lm,hl],by rw[aJ,gE hi];rfl,q i _ r (gE hi) hr⟩
theorem RowsL.lst(h:RowsL H l rows):∃xs:List V,H l=some (.lst xs)/\xs.length=rows.length:=by obtain⟨as,e,hl,_⟩:=h;exact⟨_,e,by rw[lm,hl]⟩
end
noncomputable def sfx(j:Nat):Str:=sufs.getD (j % 3) ""
theorem Ma(j:Nat):sfx j∈sufs:=by have:j % 3<sufs.length:=Nat.mod_lt _ (by decide);unfold sfx;rw[ax,gE this];exact aD this
theorem EO(j:Nat):(sufs.map V.str)[j % 3]?=some (.str (sfx j)):=by have:j % 3<sufs.length:=Nat.mod_lt _ (by decide);unfold sfx;rw[aJ,ax,gE this];rfl
noncomputable def gnm(ts:List Str)(i:Nat):List Str:=(aT i).map λj=>ts.getD j ""++sfx j
theorem FX{ts:List Str}(nd:ts.Nodup)(nx:∀t∈ts,Nx t):(gnm ts ts.length).Nodup:=by
 refine nodup_map_on fe λx hx y hy e=>?_;rw[bj]at hx hy;have ex:ts.getD x ""=ts[x]:=by rw[ax,gE hx];rfl
 have ey:ts.getD y ""=ts[y]:=by rw[ax,gE hy];rfl
 rw[ex,ey]at e;exact(gG nd).mp (LW (nx _ (aD hx)) (nx _ (aD hy)) (Ma x) (Ma y) e)
def Gx(t:Str):Prop:=∃u s,Nx u/\s∈sufs/\t=u++s
theorem FY{ts:List Str}(nx:∀t∈ts,Nx t):∀t∈gnm ts ts.length,Gx t:=λt ht=>by obtain⟨j,hj,rfl⟩:=af.mp ht;rw[bj]at hj;refine⟨_,_,?_,Ma j,rfl⟩;rw[ax,gE hj];exact nx _ (aD hj)
theorem HM{t:Str}(h:Nx t):t≠"":=λz=>by obtain⟨_,⟨c,r,e,_⟩,_⟩:=h;rw[z]at e;cases e
theorem HW{t:Str}(h:Gx t):t≠"":=λz=>by obtain⟨u,s,hu,_,rfl⟩:=h;obtain⟨_,⟨c,r,e,_⟩,_⟩:=hu;have:=congrArg codes z;rw[YQ,e]at this;cases this
theorem HV:¬Gx "q.q":=λ hZ=>by
 obtain⟨u,s,hu,hs,e⟩:=hZ
 have e1:=NV hu hs;rw[<-e]at e1;have e2:codes u=[113]:=e1.symm.trans (by decide +kernel);have e3:codes "q.q"=codes u++codes s:=by rw[e,YQ]
 rw[e2]at e3;have:∀s∈sufs,codes "q.q"≠[113]++codes s:=by decide +kernel
 exact this s hs e3
noncomputable def NmOk:Nat->Str->Prop
|2,t=>Gx t
|_,t=>Nx t
structure RowsX(j:Nat)(n:Int)(ns ss nm:List Str)(R:List (List V)):Prop where
 names:R.map nameOf=nm.take R.length
 ok:∀row∈R,OkR j n ns ss (nameOf row) row
theorem K3{j:Nat}(hj:j<3){n:Int}{ns ss:List Str}{nm:Str}{row:List V}(h:OkR j n ns ss nm row):nameOf row=nm:=by
 rcases j with _|_|_|j
 ·obtain⟨r,rfl,e,_⟩:=h.1 rfl;exact e
 ·obtain⟨r,rfl,e,_⟩:=h.2.1 rfl;exact e
 ·obtain⟨r,rfl,e,_⟩:=h.2.2 rfl;exact e
 ·omega
theorem DC{j:Nat}{t:Str}(h:NmOk j t):t≠"":=by
 unfold NmOk at h;split at h
 ·exact HW h
 ·exact HM h
theorem at3{f:Nat->Addr}{j:Nat}(hj:j<3):atI [V.ref (f 0),.ref (f 1),.ref (f 2)] (j:Int)=some (.ref (f j)):=by
 rcases j with _|_|_|j
 ·exact Zu (j:=0) rfl
 ·exact Zu (j:=1) rfl
 ·exact Zu (j:=2) rfl
 ·omega
theorem RowsX.app{j:Nat}{n:Int}{ns ss nm:List Str}{R:List (List V)}{row:List V}{t:Str}(hj:j<3)(h:RowsX j n ns ss nm R)(e:nm[R.length]?=some t)(o:OkR j n ns ss t row):RowsX j n ns ss nm (R++[row]):=by
 have en:=K3 hj o;refine⟨?_,λr hr=>?_⟩
 ·rw[aI,h.names,ah];show _++[nameOf row]=nm.take (R.length+1);rw[a9,e,en];rfl
 ·rcases aw.mp hr with hr|hr
  ·exact h.ok r hr
  ·rw[ay]at hr;subst hr;rw[en];exact o
def Sl(K:aa):Sp:=λvs H Q _=>∃(a lp:Addr)(zs:List Int)(fi:Nat)(mo n:Int)(ps:Pl),vs=[.ref a,.int (fi:Nat),.int mo,.int n,.ref lp]/\SqL K H a (zs.map V.int)/\zs.length<=1000/\fi<=100/\0<=mo/\mo<=100/\1<=n/\n<=30/\RowsL H lp (ps.map plRow)/\PlX ps /\∀H' q(L:Nat->Addr)(nm:Nat->List Str)(R:Nat->List (List V)),Same H H'->H' q=some (.lst [.ref (L 0),.ref (L 1),.ref (L 2)])->(∀j,j<3->RowsL H' (L j) (R j)/\(R j).length<=20/\(nm j).Nodup/\(∀t∈nm j,NmOk j t)/\RowsX j n (ps.map (·.1)) ((ps.filter λp=>p.2.isSome).map (·.1)) (nm j) (R j))->(R 2).length<=8->Q (.ref q) H'
section
variable {P:Program}{w:World}{K:aa}{mg:Str->Option Value}{base:Heap}
theorem ZJ:FnScope ["_law_script","_law_first","_law_most","_law_turns",q_p,"_law_plain",q_b,"_law_names_here","_law_k","_law_name","_law_rows_here","_law_start","_law_goals","_law_homes","_law_goal","_law_way_here","_law_make"] ["_law_script","_law_first","_law_most","_law_turns",q_p] (Zd T.f__law_rows):=scO
noncomputable def VM:Scope:=csx [(".0",.local),("_law_place",.local),("_law_room",.local)]
theorem Gi:CompScope VM (Zd T.f__law_rows):=⟨rfl,by decide +kernel,by decide +kernel,by decide +kernel⟩
theorem Jq:(["_law_place","_law_room"]:List Str).Nodup:=by decide +kernel
theorem Gj:CompNames ["_law_script","_law_first","_law_most","_law_turns",q_p,"_law_plain",q_b,"_law_names_here","_law_k","_law_name","_law_rows_here","_law_start","_law_goals","_law_homes","_law_goal","_law_way_here","_law_make"] VM ["_law_place","_law_room"] [none,none]:=.mk' (by decide +kernel)
noncomputable def VL:Scope:=csx [(".0",.local),("_law_k",.local),("_law_name",.local)]
theorem Gg:CompScope VL (Zd T.f__law_rows):=⟨rfl,by decide +kernel,by decide +kernel,by decide +kernel⟩
theorem Jp:(["_law_k","_law_name"]:List Str).Nodup:=by decide +kernel
theorem Gh:CompNames ["_law_script","_law_first","_law_most","_law_turns",q_p,"_law_plain",q_b,"_law_names_here","_law_k","_law_name","_law_rows_here","_law_start","_law_goals","_law_homes","_law_goal","_law_way_here","_law_make"] VL ["_law_k","_law_name"] [none,none]:=.mk' (by decide +kernel)
noncomputable def X4:Scope:=csx [(".0",.local),("_law_place",.local),("_law_room",.local),("_law_start",.free)]
theorem Ge:CompScope X4 (Zd T.f__law_rows):=⟨rfl,by decide +kernel,by decide +kernel,by decide +kernel⟩
theorem Jo:(["_law_place","_law_room","_law_start"]:List Str).Nodup:=by decide +kernel
theorem Gf:CompNames ["_law_script","_law_first","_law_most","_law_turns",q_p,"_law_plain",q_b,"_law_names_here","_law_k","_law_name","_law_rows_here","_law_start","_law_goals","_law_homes","_law_goal","_law_way_here","_law_make"] X4 ["_law_place","_law_room","_law_start"] [none,none,some 11]:=.mk' (by decide +kernel)
noncomputable def X3:Scope:=csx [(".0",.local),("_law_place",.local),("_law_plain",.free)]
theorem Ga:CompScope X3 (Zd T.f__law_rows):=⟨rfl,by decide +kernel,by decide +kernel,by decide +kernel⟩
theorem Gd:(["_law_place","_law_plain"]:List Str).Nodup:=by decide +kernel
theorem Gb:CompNames ["_law_script","_law_first","_law_most","_law_turns",q_p,"_law_plain",q_b,"_law_names_here","_law_k","_law_name","_law_rows_here","_law_start","_law_goals","_law_homes","_law_goal","_law_way_here","_law_make"] X3 ["_law_place","_law_plain"] [none,some 5]:=.mk' (by decide +kernel)
theorem Ww(B:∀x∈Blts,mg x=none)(Mn:mg "min"=none)(CC:Can P w K mg base 1 "_law_cell" ["_law_script","_law_k"] (N8 K))(CB:Can P w K mg base 1 "_law_box" ["_law_cell_here"] Sn)(CT:Can P w K mg base 1 "_law_take" [q_b,"_law_many"] Y2)(CN:Can P w K mg base 2 "_law_names" [q_b,"_law_many"] N4)(CR:Can P w K mg base 2 "_law_ride" VE (VD 0))(CW:Can P w K mg base 2 "_law_way" VE (VD 1))(CG:Can P w K mg base 2 "_law_group" VE (VD 2))(D:Df K mg "_law_rows" T.f__law_rows ["_law_script","_law_first","_law_most","_law_turns",q_p]):Can P w K mg base 3 "_law_rows" ["_law_script","_law_first","_law_most","_law_turns",q_p] (Sl K):=by
 obtain⟨f0,fd0,F0,m0,k0,b0⟩:=CR;obtain⟨f1,fd1,F1,m1,k1,b1⟩:=CW;obtain⟨f2,fd2,F2,m2,k2,b2⟩:=CG;have hR:∀f sp,((f=f0/\sp=VD 0)\/(f=f1/\sp=VD 1)\/(f=f2/\sp=VD 2))->IsFn P w K mg base 2 VE f sp:=λf sp h=>by
  rcases h with⟨rfl,rfl⟩|⟨rfl,rfl⟩|⟨rfl,rfl⟩
  ·exact⟨_,F0,k0,b0⟩
  ·exact⟨_,F1,k1,b1⟩
  ·exact⟨_,F2,k2,b2⟩
 refine D.cn ZJ λf cdv A outer s H vs Q E hr h=>?_;obtain⟨a,lp,zs,fi,mo,n,ps,rfl,hS,hzl,fi1,mo0,mo1,n1,n2,hP,px,k⟩:=h;refine' ⟨_,(@Za _ _ _ _ _ ?h34 (@Za _ _ _ _ _ ?h35 (@Za _ _ _ _ _ ?h36 (@Za _ _ _ _ _ ?h37 (@Za _ _ _ _ _ ?h38 (@Za _ _ _ _ _ ?h39 (@Ze _ _ _ ?h40))))))),?rd⟩;case' h40=>refine' (Zn (pv 10))
 case' h39=>refine' (Yn aY rfl (Xy rfl (bm B) (@pa2 _ _ _ _ _ Zb (Zy (GR rfl) rfl (bm B) eJ (@pa2 _ _ _ _ _ Zb (Zy (NP rfl) rfl Mn gQ (@pa2 _ _ _ _ _ (pv 2) (Zp XE (Zy (r:=rLen K) ZU rfl (bm B) aZ (@pa1 _ _ _ (pv 0) (by rfl))) (pv 1)) (by rfl))) (by rfl))) (by rfl))) (nmT 8 ZJ.nd) (@Za _ _ _ _ _ ?h24 (@Za _ _ _ _ _ ?h25 (@Za _ _ _ _ _ ?h26 (@Za _ _ _ _ _ ?h27 (@Za _ _ _ _ _ ?h28 (@Za _ _ _ _ _ ?h29 (@Za _ _ _ _ _ ?h30 (@Za _ _ _ _ _ ?h31 (@Za _ _ _ _ _ ?h32 (@Ze _ _ _ ?h33)))))))))))
 case' h38=>refine' (@st _ _ _ _ 10 _ _ ZJ.nd ?h6 (by rfl) (by exact aK rfl) (by rfl) (by exact .inl rfl))
 case' h37=>refine' (X0 (ZQ rfl Gg Gh (KI rfl (bm B) (@pa1 _ _ _ ?h2 (by rfl)) (by decide +kernel)) (λC s H ex pn=>(Ue (K:=K) (n:=2) rfl rfl (Zl (nmT 0 Jp) (Zl (nmT 1 Jp) Z0)))) (λC s H ex pn=>Yt) (λC s H ex pn=>(Zp JC (pv 1) (il K (@Zz _ _ _ _ (@Jy _ _ (by decide +kernel))) (Zp Xu (pv 0) Zb))))) (Rh (pv 7) Zb set_list))
 case' h36=>refine' (@st _ _ _ _ 7 _ _ ZJ.nd ?h1 (by rfl) (by exact aK rfl) (by rfl) (by exact .inl rfl))
 case' h35=>refine' (@st _ _ _ _ 6 _ _ ZJ.nd (cn CB hr (@pa1 _ _ _ (cn CC hr (@pa2 _ _ _ _ _ (pv 0) (pv 1) (by rfl))) (by rfl))) (by rfl) (by exact aK rfl) (by rfl) (by exact .inl rfl))
 case' h34=>refine' (@Yb _ _ 5 _ _ _ _ ZJ.nd (by rfl) (by exact b9 rfl) (ZQ rfl Gi Gj (ZV (pv 4)) (λC s H ex pn=>(Ue (K:=K) (n:=2) rfl rfl (Zl (nmT 0 Jq) (Zl (nmT 1 Jq) Z0)))) (λC s H ex pn=>(YN (Zq JA (pv 1) ZK (ZA _)))) (λC s H ex pn=>(pv 0))) (by rfl) (by exact aK rfl))
 case' h33=>refine' (@ZF _ _ _ _ _ _ _ _ (@Zq _ _ _ _ _ _ _ _ MJ (pv 9) ZH (ZA _)) (@Za _ _ _ _ _ ?h22 (@Ze _ _ _ ?h23)) Zr)
 case' h32=>refine' (@st _ _ _ _ 9 _ _ ZJ.nd ?h18 (by rfl) (by exact aK rfl) (by rfl) (by exact .inl rfl))
 case' h31=>refine' (@ZF _ _ _ _ _ _ _ _ (@Zq _ _ _ _ _ _ _ _ SJ (pv 8) Zb (ZA _)) (@Ze _ _ _ ?h14) Zr)
 case' h30=>refine' (@st _ _ _ _ 15 _ _ ZJ.nd ?h11 (by rfl) (by exact aK rfl) (by rfl) (by exact .inl rfl))
 case' h29=>refine' (@st _ _ _ _ 14 _ _ ZJ.nd ?h10 (by rfl) (by exact aK rfl) (by rfl) (by exact .inl rfl))
 case' h28=>refine' (@ZF _ _ _ _ _ _ _ _ (PW.pt (JY (@Zq _ _ _ _ _ _ _ _ (J6 hr.units) (pv 13) ?h8 (ZA _)) (XR (@Zq _ _ _ _ _ _ _ _ Xd (cn CT hr (@pa2 _ _ _ _ _ (pv 6) Zb (by rfl))) Zb (ZA _))))) (@Ze _ _ _ ?h9) Zr)
 case' h27=>refine' (Pg (i:=13) ZJ.nd rfl (aK rfl) (scope:=X3) (N:=["_law_place","_law_plain"]) (cp:=[none,some 5]) rfl Ga Gb (ZV (pv 12)) (λC s H ex pn=>(nmT 0 Gd)) (λC s H ex pn=>(YN (Zq (Ny (K:=K) rfl) (pv 0) (pv 1) (by with_unfolding_all rfl)))) (λC s H ex pn=>(pv 0)))
 case' h26=>refine' (Pg (i:=12) ZJ.nd rfl (aK rfl) (scope:=X4) (N:=["_law_place","_law_room","_law_start"]) (cp:=[none,none,some 11]) rfl Ge Gf (ZV (pv 4)) (λC s H ex pn=>(Ue (K:=K) (n:=2) rfl rfl (Zl (nmT 0 Jo) (Zl (nmT 1 Jo) Z0)))) (λC s H ex pn=>(YN (Zq MJ (pv 0) (pv 2) (ZA _)))) (λC s H ex pn=>(pv 0)))
 case' h25=>refine' (@Yb _ _ 11 _ _ _ _ ZJ.nd (by rfl) (by exact b9 rfl) ?h7 (by rfl) (by exact aK rfl))
 case' h24=>refine' (@st _ _ _ _ 6 _ _ ZJ.nd (cn CB hr (@pa1 _ _ _ (cn CC hr (@pa2 _ _ _ _ _ (pv 0) (Zp ZG (pv 1) (pv 8)) (by rfl))) (by rfl))) (by rfl) (by exact aK rfl) (by rfl) (by exact .inl rfl))
 case' h23=>refine' (Yg (GY bN cv cu Jh ?h21 (@pa1 _ _ _ (KR (i:=16) hR hr.m rfl (aK rfl) (@Zc _ _ _ _ _ (pv 6) (@Zc _ _ _ _ _ (pv 9) (@pa3 _ _ _ _ _ _ _ (pv 3) (pv 11) (pv 14) (by rfl)) (by rfl)) (by rfl))) (by rfl))))
 case' h22=>refine' (@st _ _ _ _ 16 _ _ ZJ.nd ?h20 (by rfl) (by exact aK rfl) (by rfl) (by exact .inl rfl))
 case' h21=>refine' (@il _ _ _ _ _ _ K (pv 10) (pv 15) (by rfl) (by exact λ_ _=>rfl))
 case' h20=>refine' (@il _ _ _ _ _ _ K ?h19 (pv 15) (by rfl) (by exact λ_ _=>rfl))
 case' h19=>refine' (@Zz _ _ _ _ (@pa3 _ _ _ _ _ _ _ (Z7 (v:=V.ref f0) rfl m0 rfl) (Z7 (v:=V.ref f1) rfl m1 rfl) (Z7 (v:=V.ref f2) rfl m2 rfl) (by rfl)))
 case' h18=>refine' (@il _ _ _ _ _ _ K (Zp Z8 (YB (r:=rSlL K) Xw ?h15 (YZ (Zy (r:=rLen K) ZU rfl (bm B) aZ (@pa1 _ _ _ ?h16 (by rfl)))) Y0) ?h17) Zb (by rfl) (by exact λ_ _=>rfl))
 case' h17=>refine' (@Zz _ _ _ _ (@pa1 _ _ _ ZH (by rfl)))
 case' h16=>refine' (@il _ _ _ _ _ _ K (pv 10) (pv 15) (by rfl) (by exact λ_ _=>rfl))
 case' h15=>refine' (@il _ _ _ _ _ _ K (pv 7) (pv 15) (by rfl) (by exact λ_ _=>rfl))
 case' h14=>refine' (@st _ _ _ _ 15 _ _ ZJ.nd ?h13 (by rfl) (by exact aK rfl) (by rfl) (by exact .inl rfl))
 case' h13=>refine' (@il _ _ _ _ _ _ K ?h12 (Zp XE (pv 8) Zb) (by rfl) (by exact λ_ _=>rfl))
 case' h12=>refine' (@Zz _ _ _ _ (@pa2 _ _ _ _ _ Zb Zb (by rfl)))
 case' h11=>refine' (@il _ _ _ _ _ _ K (@Zz _ _ _ _ (@Jy _ _ (by decide +kernel))) (cn CT hr (@pa2 _ _ _ _ _ (pv 6) Zb (by rfl))) (by rfl) (by exact λ_ _=>rfl))
 case' h10=>refine' (@il _ _ _ _ _ _ K (pv 12) (cn CT hr (@pa2 _ _ _ _ _ (pv 6) (Zy (r:=rLen K) ZU rfl (bm B) aZ (@pa1 _ _ _ (pv 12) (by rfl))) (by rfl))) (by rfl) (by exact λ_ _=>rfl))
 case' h9=>refine' (@st _ _ _ _ 12 _ _ ZJ.nd (pv 13) (by rfl) (by exact aK rfl) (by rfl) (by exact .inl rfl))
 case' h8=>refine' (@Zz _ _ _ _ Zk)
 case' h7=>refine' (@il _ _ _ _ _ _ K (pv 5) (cn CT hr (@pa2 _ _ _ _ _ (pv 6) (Zy (r:=rLen K) ZU rfl (bm B) aZ (@pa1 _ _ _ (pv 5) (by rfl))) (by rfl))) (by rfl) (by exact λ_ _=>rfl))
 case' h6=>refine' (@Zz _ _ _ _ (@pa3 _ _ _ _ _ _ _ ?h5 ?h4 ?h3 (by rfl)))
 case' h5=>refine' (@Zz _ _ _ _ Zk)
 case' h4=>refine' (@Zz _ _ _ _ Zk)
 case' h3=>refine' (@Zz _ _ _ _ Zk)
 case' h2=>refine' (@il _ _ _ _ _ _ K (pv 7) Zb (by rfl) (by exact λ_ _=>rfl))
 case' h1=>refine' (@Zz _ _ _ _ (@pa3 _ _ _ _ _ _ _ (cn CN hr (@pa2 _ _ _ _ _ (pv 6) Zb (by rfl))) (cn CN hr (@pa2 _ _ _ _ _ (pv 6) Zb (by rfl))) (cn CN hr (@pa2 _ _ _ _ _ (pv 6) Zb (by rfl))) (by rfl)))
 case' rd=>
 have hpl:ps.length<=sizeLine:=Nat.le_trans (Nat.le_trans px.hi (by decide:9<=1000)) (by decide);have hpr:∀{i:Nat}{p:Str×Option Int},ps[i]?=some p->(ps.map plRow)[i]?=some (plRow p):=λh=>by rw[aJ,h];rfl
 rw[show L2.start (["_law_script","_law_first","_law_most","_law_turns",q_p,"_law_plain",q_b,"_law_names_here","_law_k","_law_name","_law_rows_here","_law_start","_law_goals","_law_homes","_law_goal","_law_way_here","_law_make"]:List Str) [V.ref a,.int fi,.int mo,.int n,.ref lp]=[some (.ref a),some (.int fi),some (.int mo),some (.int n),some (.ref lp),none,none,none,none,none,none,none,none,none,none,none,none]from rfl];refine tq λE1 hE1=>?_;refine⟨_,rfl,lp,rfl,⟨_,SqL.of hP.choose_spec.1⟩,?_⟩;refine Xz (J:=Itl K lp) ps hpl (λp=>p.2.isSome) (λp=>V.str p.1) (λτ=>∃v1 v2,τ=[v1,v2]) ⟨none,none,rfl⟩ (λi hi=>hP.go (by rw[lm];exact hi)) (by have:=hP.stop (K:=K);rwa [bw]at this) (λi x τ v H' hx st yl N1 N2 h1 h2=>?_) λlS hlS=>?_
 ·obtain⟨v1,v2,rfl⟩:=st;obtain⟨rfl,a',rfl,ha⟩:=hP.item (hpr hx) yl;refine⟨a',_,rfl,SqT.of ha,rfl,_,_,rfl,_,_,rfl,rfl,_,rfl,rfl,_,rfl,?_⟩;rw[TH];exact Xh (λe=>⟨_,rfl,h1 e _ ⟨_,_,rfl⟩⟩) (λe=>h2 e _ ⟨_,_,rfl⟩)
 obtain⟨ss,ess⟩:∃ss,ss=(ps.filter λp=>p.2.isSome).map (·.1):=⟨_,rfl⟩;have e1:(ps.filter λp=>p.2.isSome).map (λp=>V.str p.1)=ss.map V.str:=by rw[ess,bA];rfl
 rw[e1];dsimp only[Zt,az];refine nl hlS λHa Sa eS=>?_;refine hE1 _ _ (tq λE2 hE2=>?_);clear hE1;have hss:∀t∈ss,t∈ps.map (·.1):=λt ht=>by rw[ess]at ht;obtain⟨p,hp',rfl⟩:=af.mp ht;exact af.mpr ⟨p,(a7.mp hp').1,rfl⟩
 have lss:0<ss.length/\ss.length<=9:=by rw[ess,lm];obtain⟨p,hp,e⟩:=px.pl;exact⟨List.length_pos_of_mem (a7.mpr ⟨hp,e⟩),Nat.le_trans (bg _ _) px.hi⟩
 refine⟨_,rfl,_,rfl,a,zs,fi,rfl,hS.same Sa,hzl,by omega,λc=>⟨c,rfl,λb Hb hb0 Bb Sb=>?_⟩⟩;dsimp only[Zt,az];refine hE2 _ _ (tq λE3 hE3=>?_);clear hE2;refine⟨_,rfl,b,20,rfl,Bb,by decide,by decide,λH1 t0 ts0 B1 S1 f0' e0 ne0 hc0 nd0 nx0=>?_⟩;refine⟨_,rfl,b,6,rfl,B1,by decide,by decide,λH2 t1 ts1 B2 S2 f1' e1' ne1 hc1 nd1 nx1=>?_⟩;refine⟨_,rfl,b,8,rfl,B2,by decide,by decide,λH3 t2 ts2 B3 S3 f2' e2 ne2 hc2 nd2 nx2=>?_⟩;have e03:=S3 _ _ (S2 _ _ e0 ne0) ne0;have e13:=S3 _ _ e1' ne1;have Sa3:Same Ha H3:=Ye hb0 Sb ((S1.trans S2).trans S3);clear S1 S2 S3 Sb e0 e1' f0' f1' f2' B1 B2 Bb;refine⟨(zl),λlM hM=>?_⟩;dsimp only[Zt,az];refine nl hM λH4 S4 e4=>?_;refine hE3 _ _ (tq λE4 hE4=>?_);clear hE3;have e24:=S4 _ _ e2;refine ixL 2 e4 rfl ⟨t2,_,rfl,e24,?_⟩;refine Xg (J:=L3 t2) ts2.length (Nat.le_trans (by omega:ts2.length<=1000) (by decide)) (λi ys τ H'=>Same H4 H'/\ys=(gnm ts2 i).map V.str/\∃v1 v2,τ=[v1,v2]) ⟨Same.refl _,rfl,none,none,rfl⟩ (λi ys τ H' q=>?_) (λi ys τ H' hi q=>⟨_,q.1 _ _ e24,by simp[hi]⟩) (λys τ H' q=>⟨_,q.1 _ _ e24,by simp⟩) (λi ys τ H' x H5 hi q yl=>?_) (λys τ H' q g2 hg2=>?_)
 ·obtain⟨_,rfl,_⟩:=q;simp[gnm]
 ·obtain⟨s1,rfl,v1,v2,rfl⟩:=q;obtain⟨t,xs,y,ht,hxs,hy,rfl,rfl⟩:=yl;rw[s1 _ _ e24]at hxs;cases hxs;have hy2:y=V.str ts2[i]:=by simp[hi]at hy;exact hy.symm
  subst hy2;refine nl2 ht λH6 S6 e6=>?_;refine⟨t,_,rfl,SqT.of e6,rfl,_,_,rfl,_,_,rfl,rfl,?_⟩;dsimp only[Zt,az];refine⟨_,rfl,(zl),λlq hq=>?_⟩;have eq7:upd H6 lq (.lst (sufs.map V.str)) lq=some (.lst (sufs.map V.str)):=Zf;have S7:Same H6 (upd H6 lq (.lst (sufs.map V.str))):=sameNew (Same.refl _) hq;show tOp _ _ _ _ (upd H6 lq (.lst (sufs.map V.str))) _;generalize upd H6 lq (.lst (sufs.map V.str))=H7 at eq7 S7 ⊢;have hm3:(i:Int) % 3=((i % 3:Nat):Int):=by omega
  have hnx:=nx2 _ (aD hi);have hlen:(ts2[i]:Str).length+(sfx i).length<=100:=by have h1:=hnx.1;have h2:=(QX _ (Ma i)).1;rw[Z1]at h1 h2;omega
  refine⟨_,rfl,_,_,rfl,rfl,(by show(0:Int)<3;decide),lq,_,_,_,rfl,rfl,SqL.of eq7,PL (j:=i % 3) hm3 (EO i),_,_,rfl,rfl,Nat.le_trans hlen (by decide),(s1.trans S6).trans S7,?_,_,_,rfl⟩;unfold gnm;rw[bR,aI,aI];congr 1;show[V.str (ts2[i]++sfx i)]=[V.str (ts2.getD i ""++sfx i)];rw[ax,gE hi];rfl
 obtain⟨s4,rfl,v1,v2,rfl⟩:=q;refine nl2 hg2 λH5 S5 e5=>?_;have S45:=s4.trans S5;refine⟨_,rfl,lM,_,2,2,rfl,rfl,S45 _ _ e4,rfl,?_⟩;have hMa:Ha lM=none:=by
  cases e:Ha lM with
 |none=>rfl
 |some o=>rw[Sa3 _ _ e]at hM;cases hM
 have S36:Same H3 (upd H5 lM (.lst [.ref t0,.ref t1,.ref g2])):=λc o e=>by rw[Zj (Zi e hM)];exact S45 _ _ (S4 _ _ e)
 have e56:upd H5 lM (.lst [.ref t0,.ref t1,.ref g2]) g2=some (.lst ((gnm ts2 ts2.length).map V.str)):=by rw[Zj (λz=>by rw[z,s4 _ _ e4]at hg2;cases hg2)];exact e5
 have eM6:upd H5 lM (.lst [.ref t0,.ref t1,.ref g2]) lM=some (.lst [.ref t0,.ref t1,.ref g2]):=Zf;dsimp only[az];show E4.nx [some (.ref a),some (.int fi),some (.int mo),some (.int n),some (.ref lp),some (.ref lS),some (.ref b),some (.ref lM),none,none,none,none,none,none,none,none,none] (upd H5 lM (.lst [.ref t0,.ref t1,.ref g2]));generalize upd H5 lM (.lst [.ref t0,.ref t1,.ref g2])=HS at S36 e56 eM6 ⊢;refine hE4 _ _ (tq λE5 hE5=>?_);clear hE4;have SaS:=Sa3.trans S36;have e0S:=S36 _ _ e03;have e1S:=S36 _ _ e13;clear S45 S5 e5 s4 S4 e4 e24 hM hMa e03 e13 Sa3 S36 e2 hg2;refine⟨Nat.zero_le _,λl0 hl0=>⟨Nat.zero_le _,λl1 hl1=>⟨Nat.zero_le _,λl2 hl2=>⟨(zl),λlR hlR=>?_⟩⟩⟩⟩;obtain⟨n10,hl1'⟩:=fr2 hl1;obtain⟨n21,hl2'⟩:=fr2 hl2;obtain⟨n20,hl2''⟩:=fr2 hl2';obtain⟨nR2,hR'⟩:=fr2 hlR;obtain⟨nR1,hR''⟩:=fr2 hR';obtain⟨nR0,hR0⟩:=fr2 hR'';have fL:∀j,j<3->HS (tri l0 l1 l2 j)=none:=λj hj=>by
  rcases j with _|_|_|j
  ·exact hl0
  ·exact hl1'
  ·exact hl2''
  ·omega
 have nL:∀i j,i<3->j<3->i≠j->tri l0 l1 l2 i≠tri l0 l1 l2 j:=λi j hi hj hne=>by rcases i with _|_|_|i<;>rcases j with _|_|_|j<;>first|omega|exact n10|exact n21|exact n20|exact bD n10|exact bD n21|exact bD n20
 have nR:∀j,j<3->lR≠tri l0 l1 l2 j:=λj hj=>by
  rcases j with _|_|_|j
  ·exact nR0
  ·exact nR1
  ·exact nR2
  ·omega
 have E6:∀j,j<3->upd (upd (upd (upd HS l0 (.lst [])) l1 (.lst [])) l2 (.lst [])) lR (.lst [.ref l0,.ref l1,.ref l2]) (tri l0 l1 l2 j)=some (.lst []):=λj hj=>by
  rw[Zj (bD (nR j hj))];rcases j with _|_|_|j
  ·show upd _ _ _ l0=_;rw[Zj (bD n20),Zj (bD n10),Zf]
  ·show upd _ _ _ l1=_;rw[Zj (bD n21),Zf]
  ·exact Zf
  ·omega
 have S6:Same HS (upd (upd (upd (upd HS l0 (.lst [])) l1 (.lst [])) l2 (.lst [])) lR (.lst [.ref l0,.ref l1,.ref l2])):=sameNew (sameNew (sameNew (sameNew (Same.refl HS) hl0) hl1) hl2) hlR;have eR6:upd (upd (upd (upd HS l0 (.lst [])) l1 (.lst [])) l2 (.lst [])) lR (.lst [.ref l0,.ref l1,.ref l2]) lR=some (.lst [.ref l0,.ref l1,.ref l2]):=Zf;dsimp only[Zt,az];generalize upd (upd (upd (upd HS l0 (.lst [])) l1 (.lst [])) l2 (.lst [])) lR (.lst [.ref l0,.ref l1,.ref l2])=H6 at E6 S6 eR6 ⊢;clear hlR hR' hR'' hR0 hl2 hl2' hl2'' hl1 hl1' hl0 n10 n21 n20 nR2 nR1 nR0;have hSS:=hS.same (Sa.trans SaS);obtain⟨nm,enm⟩:∃nm,nm=tri ts0 ts1 (gnm ts2 ts2.length):=⟨_,rfl⟩;obtain⟨tl,etl⟩:∃tl,tl=tri t0 t1 g2:=⟨_,rfl⟩;have nmE:∀j,j<3->HS (tl j)=some (.lst ((nm j).map V.str))/\(nm j).Nodup/\(∀t∈nm j,NmOk j t)/\(nm j).length<=20:=λj hj=>by
  subst enm etl;rcases j with _|_|_|j
  ·exact⟨e0S,nd0,nx0,by show ts0.length<=20;omega⟩
  ·exact⟨e1S,nd1,nx1,by show ts1.length<=20;omega⟩
  ·exact⟨e56,FX nd2 nx2,FY nx2,by show(gnm ts2 ts2.length).length<=20;simp[gnm];omega⟩
  ·omega
 have nm2:(nm 2).length<=8:=by subst enm;show(gnm ts2 ts2.length).length<=8;simp[gnm];omega
 have eM':HS lM=some (.lst [.ref (tl 0),.ref (tl 1),.ref (tl 2)]):=by subst etl;exact eM6
 clear e0S e1S e56 eM6 enm etl;obtain⟨ll,ell⟩:∃ll,ll=tri l0 l1 l2:=⟨_,rfl⟩;rw[<-ell]at fL nL nR E6;have eR6':H6 lR=some (.lst [.ref (ll 0),.ref (ll 1),.ref (ll 2)]):=by subst ell;exact eR6
 clear eR6;have pS:=hP.same (Sa.trans SaS);have sS:=SaS _ _ eS;have Same0:Same H HS:=Sa.trans SaS;generalize hns:ps.map (·.1)=ns at hss;have lpn:ps.length=ns.length:=by rw[<-hns,lm]
 clear hP SaS Sa eS hS hlS;clear l0 l1 l2 ell;refine hE5 _ _ (tq λDD hkk=>?_);clear hE5;refine⟨_,rfl,_,rfl,a,_,rfl,.inl (hSS.same S6),_,rfl,_,_,rfl,rfl,_,_,rfl,_,_,rfl,?_⟩;rw[lm];generalize hm:(if(if(zs.length:Int)-fi<mo then(zs.length:Int)-fi else mo)>10 then(if(zs.length:Int)-fi<mo then(zs.length:Int)-fi else mo)else 10)=mm;have hm1:10<=mm/\mm<=100:=by
  subst hm;split
  ·split at *<;>omega
  ·omega
 clear hm;refine⟨1,mm,rfl,⟨by decide,by decide,by omega,by omega⟩,?_⟩;refine YU (J:=Itr 1 (mm-1).toNat) (mm-1).toNat (λi σ H'=>Same HS H'/\H' lR=some (.lst [.ref (ll 0),.ref (ll 1),.ref (ll 2)])/\(∃R:Nat->List (List V),∀j,j<3->RowsL H' (ll j) (R j)/\(R j).length<=(nm j).length/\RowsX j n ns ss (nm j) (R j))/\∃o:Nat->Option V,σ=[some (.ref a),some (.int fi),some (.int mo),some (.int n),some (.ref lp),some (.ref lS),o 6,some (.ref lM),o 8,o 9,some (.ref lR),o 11,o 12,o 13,o 14,o 15,o 16]) ?_ (λi σ H' hi q=>hi) (λσ H' q=>Nat.le_refl _) (λi σ Hz v H0 hi q yl=>?_) (λσ H' q=>?_)
 ·exact⟨S6,eR6',⟨λ_=>[],λj hj=>⟨RowsL.nil (E6 j hj),Nat.zero_le _,rfl,by simp⟩⟩,shp rfl⟩
 ·obtain⟨s0,er0,⟨R,hR3⟩,o,rfl⟩:=q;obtain⟨rfl,rfl⟩:=yl;dsimp only[Zt,az];refine td λD' hdd=>?_;refine tq λG1 hG1=>?_;refine⟨_,rfl,_,rfl,_,rfl,_,_,rfl,rfl,a,zs,fi+(1+i),(by push_cast;rfl),hSS.same s0,hzl,by omega,λc=>⟨c,rfl,λb' H2 hb0 B2 S2=>?_⟩⟩;dsimp only[Zt,az];refine hG1 _ _ (tq λG2 hG2=>?_);clear hG1;have sl9:∀{m:Nat},m<=9->m<=sizeLine:=λh=>Nat.le_trans (Nat.le_trans h (by decide:9<=1000)) (by decide);refine⟨_,rfl,_,rfl,_,rfl,lS,_,rfl,.inl (SqL.of (S2 _ _ (s0 _ _ sS))),b',_,rfl,B2,(by rw[lm];omega),ZT (by rw[lm];omega) (by rw[lm];omega),λr H3 r0 r1 B3 S3=>?_⟩;obtain⟨v3,at3',m3⟩:=at_of (xs:=ss.map V.str) r0 r1;obtain⟨sa,hsa,rfl⟩:=af.mp m3;have S03:Same H0 H3:=Ye hb0 S2 S3;refine⟨lS,_,_,_,rfl,rfl,SqL.of (S03 _ _ (s0 _ _ sS)),at3',?_⟩;clear at3' m3 r0 r1;dsimp only[Zt,az];refine hG2 _ _ (tq λG3 hG3=>?_);clear hG2;have p3:=(pS.same s0).same S03;refine⟨_,rfl,lp,rfl,⟨_,SqL.of p3.choose_spec.1⟩,?_⟩;refine Xz (J:=Itl K lp) ps hpl (λp=>decide (p.1≠sa)) (λp=>V.str p.1) (λτ=>∃v1 v2,τ=[v1,v2,some (.str sa)]) ⟨none,none,rfl⟩ (λi hi=>p3.go (by rw[lm];exact hi)) (by have:=p3.stop (K:=K);rwa [bw]at this) (λi x τ v H' hx st yl N1 N2 h1 h2=>?_) λlG hlG=>?_
  ·obtain⟨v1,v2,rfl⟩:=st;obtain⟨rfl,a',rfl,ha⟩:=p3.item (hpr hx) yl;refine⟨a',_,rfl,SqT.of ha,rfl,_,_,rfl,_,_,rfl,rfl,_,rfl,_,rfl,rfl,_,rfl,?_⟩;rw[W2];exact Xh (λe=>⟨_,rfl,h1 e _ ⟨_,_,rfl⟩⟩) (λe=>h2 e _ ⟨_,_,rfl⟩)
  obtain⟨gs,egs⟩:∃gs,gs=(ps.filter λp=>decide (p.1≠sa)).map (·.1):=⟨_,rfl⟩;rw[show(ps.filter λp=>decide (p.1≠sa)).map (λp=>V.str p.1)=gs.map V.str from by rw[egs,bA];rfl];have gsm:∀t∈gs,t∈ns/\t≠sa:=λt ht=>by rw[egs]at ht;obtain⟨p,hp',rfl⟩:=af.mp ht;obtain⟨m1,m2⟩:=a7.mp hp';exact⟨hns▸af.mpr ⟨p,m1,rfl⟩,of_decide_eq_true m2⟩
  have gs9:gs.length<=9:=by rw[egs,lm];exact Nat.le_trans (bg _ _) px.hi
  have gs0:0<gs.length:=by
   have hex:∃p∈ps,p.1≠sa:=by
    have h2:=px.lo;by_cases e:(ps[0]'(by omega)).1=sa
    ·refine⟨ps[1]'(by omega),aD _,λz=>?_⟩;have hh:=eQ.mp px.nd 0 1 (by rw[lm];omega) (by rw[lm];omega) (by decide);rw[ff,ff]at hh;exact hh (e.trans z.symm)
    ·exact⟨_,aD _,e⟩
   obtain⟨p,hp,e⟩:=hex;rw[egs,lm];exact List.length_pos_of_mem (a7.mpr ⟨hp,decide_eq_true e⟩)
  clear egs p3;dsimp only[Zt,az];refine al B3 hlG λH4 B4 S4 eG nG=>?_;refine hG3 _ _ (tq λG4 hG4=>?_);clear hG3;have S04:Same H0 H4:=Ye hb0 S2 (S3.trans S4);have sS4:=S04 _ _ (s0 _ _ sS);refine⟨_,rfl,lG,rfl,⟨_,SqL.of eG⟩,?_⟩;refine Xz (J:=Itl K lG) gs (sl9 gs9) (λt=>!inV (.str t) (ss.map V.str)) V.str (λτ=>∃v1,τ=[v1,some (.ref lS)]) ⟨none,rfl⟩ (λi hi=>⟨_,V.str gs[i],SqL.of eG,by simp[hi]⟩) ⟨_,SqL.of eG,by simp⟩ (λi x τ v H' hx st yl N1 N2 h1 h2=>?_) λlH hlH=>?_
  ·obtain⟨v1,rfl⟩:=st;obtain⟨rfl,hy⟩:=yl;have hv:v=V.str x:=by have:=hy _ (SqL.of eG);rw[aJ,hx]at this;exact(aB this).symm
   subst hv;refine⟨_,rfl,_,rfl,lS,_,rfl,.inl (SqL.of sS4),rfl,(by simp[Yy]),_,rfl,?_⟩;exact Xh (λe=>⟨_,rfl,h1 e _ ⟨_,rfl⟩⟩) (λe=>h2 e _ ⟨_,rfl⟩)
  generalize ehs:(gs.filter λt=>!inV (.str t) (ss.map V.str))=hs;have hsm:∀t∈hs,t∈gs:=λt ht=>by rw[<-ehs]at ht;exact(a7.mp ht).1
  have hs9:hs.length<=9:=by rw[<-ehs];exact Nat.le_trans (bg _ _) gs9
  dsimp only[Zt,az];refine al B4 hlH λH5 B5 S5 eH nH=>?_;have S25:Zg b' H2 H5:=(S3.trans S4).trans S5;have eG5:=S5 _ _ eG nG;clear ehs S3 S4 S5 S04 S03 sS4 B3 B4 hlG hlH eG;refine hG4 _ _ (tq λD1 hk1=>?_);clear hG4;have fin1:∀(H':Hp)(lX:Addr)(xs:List Str)(p:Nat->Option V),ZD H' b'->Zg b' H2 H'->lX≠b'->H' lX=some (.lst (xs.map V.str))->0<xs.length->xs.length<=9->(∀t∈xs,t∈ns/\t≠sa) ->D1.nx [some (.ref a),some (.int fi),some (.int mo),some (.int n),some (.ref lp),some (.ref lS),some (.ref b'),some (.ref lM),some (.int (1+i)),p 9,some (.ref lR),some (.str sa),some (.ref lX),p 13,p 14,p 15,p 16] H':=by
   intro H' lX xs p bX sX nX eX x0 x9 xm;refine hk1 _ _ (tq λJ1 hJ1=>?_);refine⟨_,rfl,_,rfl,_,rfl,lX,_,rfl,.inl (SqL.of eX),b',_,rfl,bX,(by rw[lm];omega),ZT (by rw[lm];omega) (by rw[lm];omega),λr H7 r0 r1 B7 S7=>?_⟩;obtain⟨v7,at7,m7⟩:=at_of (xs:=xs.map V.str) r0 r1;obtain⟨gl,hgl,rfl⟩:=af.mp m7;refine⟨lX,_,_,_,rfl,rfl,SqL.of (S7 _ _ eX nX),at7,?_⟩;dsimp only[Zt,az];refine hJ1 _ _ (tq λJ2 hJ2=>?_);clear hJ1;clear at7 m7 r0 r1;refine⟨(zl),λl8 h8=>?_⟩;dsimp only;refine al2E (o':=.lst (([0,0,1,2,2]:List Int).map V.int)) rfl B7 h8 λH8 B8 S8 e8 n8=>?_;refine tkC B8 (λr' H9 r0' r1' B9 S9=>?_);obtain⟨wy,hat,w0,w1⟩:=at_i (xs:=[0,0,1,2,2]) (lo:=0) (hi:=2) r0' r1' (by decide);refine⟨l8,_,_,_,rfl,rfl,SqL.of (S9 _ _ e8 n8),hat,?_⟩;clear hat r0' r1';obtain⟨j0,rfl⟩:=Int.eq_ofNat_of_zero_le w0;have S29:=((sX.trans S7).trans S8).trans S9;clear S7 S8 S9 e8 h8 B7 B8 bX;dsimp only[Zt,az];refine hJ2 _ _ (tq λD2 hk2=>?_);clear hJ2;have fin2:∀(H':Hp)(j:Nat)(p:Nat->Option V),j<3->ZD H' b'->Zg b' H2 H'->D2.nx [some (.ref a),some (.int fi),some (.int mo),some (.int n),some (.ref lp),some (.ref lS),some (.ref b'),some (.ref lM),some (.int (1+i)),p 9,some (.ref lR),some (.str sa),some (.ref lX),p 13,some (.str gl),some (.int j),p 16] H':=by
    intro H' j p hj bH sH;refine hk2 _ _ (tq λJ3 hJ3=>?_);have SH:Same H0 H':=Ye hb0 S2 sH;obtain⟨eN,ndj,nxj,l20⟩:=nmE j hj;have eNH:=SH _ _ (s0 _ _ eN);have eMH:=SH _ _ (s0 _ _ eM');have eRH:=SH _ _ er0;obtain⟨rj,lj,xj⟩:=hR3 j hj;have rjH:=rj.same SH;obtain⟨ys,eY,lY⟩:=rjH.lst;refine⟨_,rfl,_,rfl,lM,_,_,_,rfl,rfl,SqL.of eMH,at3 hj,_,rfl,_,rfl,lR,_,_,_,rfl,rfl,SqL.of eRH,at3 hj,_,_,rfl,.inl (SqL.of eY),_,rfl,_,_,rfl,SqL.of eNH,λl11 h11=>?_⟩;dsimp only;refine al2E (o':=.lst (((nm j).drop (R j).length).map V.str)) (by rw[Ur _ (Int.natCast_nonneg _),lY,Int.toNat_natCast,List.map_drop]) bH h11 λH11 B11 S11 e11 n11=>?_;refine⟨Nat.le_trans (by decide:1<=1000) (by decide),λl12 h12=>?_⟩;dsimp only;refine al2 B11 h12 λH12 B12 S12 e12 n12=>?_;refine⟨l11,l12,_,_,rfl,rfl,S12 _ _ e11 n11,e12,Nat.le_trans (by rw[lm,bf];show _+1<=1000;omega:_<=1000) (by decide),λl13 h13=>?_⟩;dsimp only;refine al2 B12 h13 λH13 B13 S13 e13 n13=>?_;have S213:=((sH.trans S11).trans S12).trans S13;have SH13:Same H0 H13:=Ye hb0 S2 S213;clear S11 S12 e11 e12 n11 n12 h11 h12 B11 B12 eNH eMH eRH rjH eY lY ys SH;by_cases hlt:(R j).length<(nm j).length
    ·have hg:(nm j)[(R j).length]?=some (nm j)[(R j).length]:=gE hlt;have hmem:(nm j)[(R j).length]∈nm j:=aD hlt;rw[eR hlt]at e13;generalize (nm j)[(R j).length]=t at hg hmem e13;have tne:=DC (nxj t hmem);refine⟨l13,_,0,_,rfl,rfl,SqL.of e13,Zu (j:=0) (v:=V.str t) rfl,?_⟩;dsimp only[Zt,az];refine hJ3 _ _ ?_;refine⟨_,rfl,rfl,_,rfl,?_⟩;rw[W2,decide_eq_true tne];refine iteT ?_;refine tq λJ4 hJ4=>?_;refine⟨Nat.le_trans (by decide:3<=1000) (by decide),λl14 h14=>?_⟩;dsimp only;refine al2 B13 h14 λH14 B14 S14 e14 n14=>?_;have SH14:Same H0 H14:=Ye hb0 S2 (S213.trans S14);refine⟨_,rfl,l14,_,_,_,rfl,rfl,SqL.of e14,at3 (f:=tri f0 f1 f2) hj,?_⟩;dsimp only[Zt,az];refine hJ4 _ _ ?_;have eR14:=SH14 _ _ er0;obtain⟨ys,eY,lY⟩:=(rj.same SH14).lst;refine⟨_,rfl,_,rfl,lR,_,_,_,rfl,rfl,SqL.of eR14,at3 hj,.inl ⟨rfl,_,SqL.of eY⟩,tri f0 f1 f2 j,VD j,rfl,?_,_,rfl,_,rfl,_,rfl,_,rfl,_,rfl,?_⟩
     ·rcases j with _|_|_|j
      ·exact .inl ⟨rfl,rfl⟩
      ·exact .inr (.inl ⟨rfl,rfl⟩)
      ·exact .inr (.inr ⟨rfl,rfl⟩)
      ·omega
     refine⟨b',t,sa,gl,n,ns,ss,rfl,B14,n1,n2,hsa,hss sa hsa,(xm gl hgl).1,bD (xm gl hgl).2,λH15 q row B15 S15 fq eq okr=>?_⟩;have SH15:Same H0 H15:=Ye hb0 S2 ((S213.trans S14).trans S15);obtain⟨zs',eZ,lZ,app⟩:=(rj.same SH15).app eq;refine⟨ll j,zs',_,rfl,rfl,eZ,Nat.lt_of_le_of_lt (by omega:_<=20) (by decide),?_⟩;have sP:∀{c:Addr}{ob:HO},H15 c=some ob->c≠ll j->upd H15 (ll j) (.lst (zs'++[.ref q])) c=some ob:=λe hc=>(Zj hc).trans e;refine hdd _ _ ⟨λc ob e=>sP (SH15 _ _ (s0 _ _ e)) (Zi e (fL j hj)),sP (SH15 _ _ er0) (nR j hj),⟨λm=>if m=j then R j++[row]else R m,λm hm=>?_⟩,shp rfl⟩;dsimp only;by_cases e:m=j
     ·subst e;rw[if_pos rfl];refine⟨app,by rw[ah];show _+1<=_;omega,xj.app hm hg okr⟩
     ·rw[if_neg e];obtain⟨r1,r2,r3⟩:=hR3 m hm;exact⟨(r1.same SH15).other (nL m j hm hj e) eZ,r2,r3⟩
    ·rw[dA (by omega)]at e13;refine⟨l13,_,0,_,rfl,rfl,SqL.of e13,Zu (j:=0) (v:=V.str "") rfl,?_⟩;dsimp only[Zt,az];refine hJ3 _ _ ?_;refine⟨_,rfl,rfl,_,rfl,?_⟩;rw[W2,decide_eq_false (λz=>z rfl)];refine iteF ?_;refine hdd _ _ ⟨s0.trans SH13,SH13 _ _ er0,⟨R,λm hm=>?_⟩,shp rfl⟩;obtain⟨r1,r2,r3⟩:=hR3 m hm;exact⟨r1.same SH13,r2,r3⟩
   refine⟨_,rfl,_,_,rfl,rfl,_,rfl,?_⟩;refine ite2 (λe=>?_) (λ_=>?_)
   ·have e':=of_decide_eq_true e;refine⟨(zl),λl10 h10=>?_⟩;dsimp only;refine al2E (o':=.lst (([2,0]:List Int).map V.int)) rfl B9 h10 λH10 B10 S10 e10 n10=>?_;have hi2:i<2:=by omega
    have hat:∃j:Nat,j<3/\atI (([2,0]:List Int).map V.int) ((1+(i:Int))-1)=some (.int j):=by
     rcases i with _|_|i
     ·exact⟨2,by decide,Zu (j:=0) rfl⟩
     ·exact⟨0,by decide,Zu (j:=1) rfl⟩
     ·omega
    obtain⟨j,hj,hat⟩:=hat
    refine⟨_,rfl,_,_,rfl,rfl,l10,_,_,_,rfl,rfl,SqL.of e10,hat,?_⟩;exact fin2 H10 j p hj B10 (S29.trans S10)
   ·exact fin2 H9 j0 p (by omega) B9 S29
  refine⟨_,rfl,Nat.zero_le _,λle he=>?_⟩;refine⟨_,_,_,rfl,rfl,SqL.of ((Zj (Zi eH he)).trans eH),Zf,_,rfl,?_⟩;have nele:=B5.ne he;refine al B5 he λH6' B6' S6' e6' n6'=>?_;have S26:=S25.trans S6';refine ite2 (λec=>?_) (λ_=>?_)
  ·have hs0:0<hs.length:=by
    cases hs with
   |nil=>simp at ec
   |cons a l=>simp
   refine tkC B6' (λr7 H7 r70 r71 B7 S7=>?_);refine⟨rfl,_,rfl,?_⟩;refine ite2 (λ_=>?_) (λ_=>?_)
   ·exact⟨_,rfl,fin1 H7 lH hs (λj=>[none,none,none,none,none,none,none,none,none,o 9,none,none,none,some (.ref lH),o 14,o 15,o 16].getD j none) B7 (S26.trans S7) nH (S7 _ _ (S6' _ _ eH nH) nH) hs0 hs9 λt ht=>gsm t (hsm t ht)⟩
   ·exact fin1 H7 lG gs (λj=>[none,none,none,none,none,none,none,none,none,o 9,none,none,none,some (.ref lH),o 14,o 15,o 16].getD j none) B7 (S26.trans S7) nG (S7 _ _ (S6' _ _ eG5 nG) nG) gs0 gs9 gsm
  ·exact fin1 H6' lG gs (λj=>[none,none,none,none,none,none,none,none,none,o 9,none,none,none,some (.ref lH),o 14,o 15,o 16].getD j none) B6' S26 nG (S6' _ _ eG5 nG) gs0 gs9 gsm
 ·obtain⟨s0,er0,⟨R,hR3⟩,o,rfl⟩:=q;refine hkk _ _ ⟨_,rfl,?_⟩;refine k H' lR ll nm R (Same0.trans s0) er0 (λj hj=>?_) ?_
  ·obtain⟨h1,h2,h3⟩:=hR3 j hj;obtain⟨_,nd,nx,l20⟩:=nmE j hj;refine⟨h1,by omega,nd,nx,?_⟩;rw[hns,<-ess];exact h3
  ·have:=(hR3 2 (by decide)).2.1;omega
end
noncomputable def dF:V->PyData
|.int i=>.int i
|.str z=>.str z
|.bl c=>.bool c
|_=>.none
end WD
namespace L2
open PySem PySem.Spec PyProof.Rows
theorem QE{P:Program}{w:World}{H:Hp}{h:Heap}{a:Addr}(ok:HOk P w H h)(e:H a=some (.dK [])):Reads h (.ref a) (.dict []) [a]/\a≠sysModules:=by obtain⟨_,ns,vs,kv,o,es,ep,ho,ex,hd,hk,hp,_⟩:=EA ok e;refine⟨?_,λq=>by simp[q]at ns⟩;cases kv;generalize hl:es.toList=l at hp;cases hp;have:=Reads.dict (h:=h) (a:=a) (o:=o) (es:=es) (n:=ep) (kvs:=[]) (as:=[]) (bs:=[]) ho ex.1 hd (by rw[hl];exact .nil) (by rw[hl];exact .nil);exact this
inductive IsX(H:Hp):V->PyData->Prop
|of {x:V}{d:PyData} (h:Is H x d):IsX H x d
|dk {a:Addr} (e:H a=some (.dK [])):IsX H (.ref a) (.dict [])
noncomputable def ET:List V->Hp->VK->Prop:=λxs H Q=>∃x d,xs=[x]/\IsX H x d/\d.showable=true/\d.depth<=64/\d.shown.length<=sizeLine/\Q (.str d.shown) H
theorem M5{X:Cx}{k:Nat}(hr:Room k X.A):YS X (.builtin "repr") ET:=by
 intro pins s σ H xs us Q I r h;obtain⟨x,d,rfl,hd,hs,hdp,hz,q⟩:=h;cases hd with
|of h=>exact RQ hr pins s σ H _ us Q I r ⟨x,d,rfl,h,hs,hdp,hz,q⟩
|@dk a e=>obtain⟨u,rfl,rx⟩:=vals1 r;cases rx;obtain⟨rd,ns⟩:=QE I.hok e;exact repr_of_reads' rd hs (λ_ hm=>by simp at hm;exact ns hm.symm) hr.gd (by have:=hr.un;omega) (λ_ _ e=>e) (λh' u tk hk=>⟨.str _,H,I.kept hk,⟨u,rfl⟩,q⟩) hz
end L2
namespace WD
open PySem L2 PySem.Spec PyProof.Rows TB
def GS(z:Str):Prop:=z.length<=12/\∀c∈z.cps.toList,c<0x110000
noncomputable instance (z:Str):Decidable (GS z):=by unfold GS;infer_instance
inductive Atm:V->Prop
|non:Atm .non
|int {i:Int} (h:i.natAbs<=1000):Atm (.int i)
|str {z:Str} (h:GS z):Atm (.str z)
structure Sm(d:PyData)(k m:Nat):Prop where
 sh:d.showable=true
 lv:d.leavesShort 13=true
 dp:d.depth<=k
 wt:d.weight<=m
theorem lgk{i:Nat}(h:i<=1000):i.log2<=11:=by
 by_cases e:i=0
 ·subst e;decide
 ·exact Nat.lt_succ_iff.mp ((Nat.log2_lt e).mpr (by omega))
theorem shown_int{i:Int}(h:i.natAbs<=1000):((PyData.int i).shown).length<=13:=by
 have key:∀n:Nat,n<=1000->((PyData.int n).shown).length<=13/\((PyData.int (-(n:Int))).shown).length<=13:=by intro n hn;have:=(by decide +kernel:∀k∈aT 1001,((PyData.int (k:Nat)).shown).length<=13/\((PyData.int (-((k:Nat):Int))).shown).length<=13);exact this n (bj.mpr (by omega))
 rcases Int.natAbs_eq i with e|e
 ·rw[e];exact(key _ h).1
 ·rw[e];exact(key _ h).2
theorem Atm.sm{v:V}(h:Atm v):Sm (dF v) 0 12:=by
 cases h with
|non=>exact⟨rfl,rfl,Nat.le_refl _,Nat.zero_le _⟩
|int h=>
  have:=lgk h;refine⟨?_,?_,Nat.le_refl _,?_⟩
  ·simp only[dF,PyData.showable,decide_eq_true_eq];omega
  ·simp only[dF,PyData.leavesShort,decide_eq_true_eq];exact shown_int h
  ·simp only[dF,PyData.weight];split<;>omega
|str h=>refine⟨by simp only[dF,PyData.showable],?_,Nat.le_refl _,h.1⟩;simp only[dF,PyData.leavesShort,ba,decide_eq_true_eq];exact λc hc=>Nat.lt_of_lt_of_le (h.2 c hc) (by decide)
structure SmAll(ds:List PyData)(k m:Nat):Prop where
 sh:PyData.showableAll ds=true
 lv:PyData.leavesShortAll 13 ds=true
 dp:PyData.depthAll ds<=k
 wt:PyData.weightAll ds<=ds.length*(m+1)
theorem SmAll.of{k m:Nat}:∀{ds:List PyData},(∀d∈ds,Sm d k m)->SmAll ds k m
|[],_=>⟨rfl,rfl,Nat.zero_le _,Nat.zero_le _⟩
|d::ds,h=>by
  have h1:=h d aE;have h2:=SmAll.of (ds:=ds) λx hx=>h x (av _ hx);refine⟨?_,?_,?_,?_⟩
  ·simp only[PyData.showableAll,h1.sh,h2.sh,Bool.and_self]
  ·simp only[PyData.leavesShortAll,h1.lv,h2.lv,Bool.and_self]
  ·simp only[PyData.depthAll];have:=h1.dp;have:=h2.dp;omega
  ·simp only[PyData.weightAll,aW,Nat.succ_mul];have:=h1.wt;have:=h2.wt;omega
theorem SmAll.tup{ds:List PyData}{k m n:Nat}(h:SmAll ds k m)(hl:ds.length<=n):Sm (.tuple ds) (k+1) (n*(m+1)):=by
 refine⟨?_,?_,?_,?_⟩
 ·simp only[PyData.showable,h.sh]
 ·simp only[PyData.leavesShort,h.lv]
 ·simp only[PyData.depth];have:=h.dp;omega
 ·simp only[PyData.weight];exact Nat.le_trans h.wt (Nat.mul_le_mul_right _ hl)
theorem Sm.mono{d:PyData}{k m k' m':Nat}(h:Sm d k m)(hk:k<=k')(hm:m<=m'):Sm d k' m':=⟨h.sh,h.lv,Nat.le_trans h.dp hk,Nat.le_trans h.wt hm⟩
theorem Sm.shown{d:PyData}{k:Nat}(h:Sm d k 200000):d.shown.length<=sizeLine:=by
 have h2:=PyData.shown_le 13 (by decide) d h.lv;have:=h.wt;exact Nat.le_trans h2 (by
  have:(15:Nat)*200000+13<=sizeLine:=by decide
  omega)
theorem Atm.lay{v:V}(h:Atm v):(dF v).canLay0=true:=by
 cases h with
|non=>rfl
|int h=>rfl
|str h=>show(Array.all _ _)=true;rw[Array.all_eq_true'];intro c hc;exact decide_eq_true (h.2 c (dO.mpr hc))
theorem Tc:∀{ds:List PyData},(∀d∈ds,d.canLay0=true)->PyData.canLayAll0 ds=true
|[],_=>rfl
|d::ds,h=>by show(d.canLay0&&PyData.canLayAll0 ds)=true;rw[h d aE,Tc λe he=>h e (av _ he)];rfl
structure Shw(d:PyData):Prop where
 sh:d.showable=true
 dp:d.depth<=64
 len:d.shown.length<=sizeLine
theorem Sm.shw{d:PyData}{k m:Nat}(h:Sm d k m)(hk:k<=64)(hm:m<=200000):Shw d:=⟨h.sh,Nat.le_trans h.dp hk,(h.mono (Nat.le_refl k) hm).shown⟩
end WD
namespace TB
open PySem L2 PySem.Spec PyProof.Rows WD
theorem LZ.same{H H':Hp}(sm:Same H H'){v:V}{r:PR}(h:LZ H v r):LZ H' v r:=by
 cases r with
|none=>obtain⟨T,th,a⟩:=h;exact⟨T,th.same sm,a⟩
|some q=>
  obtain⟨xs,rs⟩:=q;obtain⟨⟨p,rfl,hp⟩,h1,h2⟩:=h;refine⟨⟨p,rfl,?_⟩,h1,λi y r e1 e2=>?_⟩
  ·rcases hp with hp|hp
   ·exact .inl (sm _ _ hp)
   ·exact .inr (sm _ _ hp)
  ·have:=h2 i y r e1 e2;cases r with
  |none=>obtain⟨T,th,a⟩:=this;exact⟨T,th.same sm,a⟩
  |some ys=>obtain⟨p,rfl,a,b⟩:=this;exact⟨p,rfl,sm _ _ a,λy hy=>let ⟨T,th⟩:=b y hy;⟨T,th.same sm⟩⟩
structure TabP(H:Hp)(C t:Addr)(fs:List (Str×V))(n:Int)(r1 r2 r3 r4:PR)(k:Ks):Prop where
 tab:TabOf H C t fs n r1 r2 r3 r4 k
 rows:∀r,r=r1\/r=r2\/r=r3\/r=r4->∀xs rs,r=some (xs,rs)->Y9 H xs rs
theorem Row.same{H H':Hp}(s:Same H H'){v:V}{r:Option (List V)}(h:Row H v r):Row H' v r:=by
 cases r with
|none=>obtain⟨T,t,n⟩:=h;exact⟨T,t.same s,n⟩
|some ys=>obtain⟨p,e,a,t⟩:=h;exact⟨p,e,s _ _ a,λy hy=>let ⟨T,u⟩:=t y hy;⟨T,u.same s⟩⟩
theorem Y9.same{H H':Hp}(s:Same H H'){xs:List V}{rs:List (Option (List V))}(h:Y9 H xs rs):Y9 H' xs rs:=⟨h.1,λi x r e1 e2=>(h.2 i x r e1 e2).same s⟩
theorem Vp.same{H H':Hp}(s:Same H H'){fs:List (Str×V)}{f g:Str}{r:PR}{k:List (Key×V)}(h:Vp H fs f g r k):Vp H' fs f g r k:=by obtain⟨l,d,xs,rs,a1,a2,a3,a4,a5⟩:=h;exact⟨l,d,xs,rs,a1,a2,a3,s _ _ a4,s _ _ a5⟩
theorem TabP.same{H H':Hp}{C t:Addr}{fs:List (Str×V)}{n:Int}{r1 r2 r3 r4:PR}{k:Ks}(s:Same H H')(h:TabP H C t fs n r1 r2 r3 r4 k):TabP H' C t fs n r1 r2 r3 r4 k:=⟨⟨⟨let ⟨dx,e⟩:=h.tab.tab.at_;⟨dx,s _ _ e⟩,h.tab.tab.only⟩,h.tab.turns,h.tab.p.same s,h.tab.r.same s,h.tab.w.same s,h.tab.g.same s⟩,λr hr xs rs e=>(h.rows r hr xs rs e).same s⟩
end TB
namespace WD
open PySem L2 PySem.Spec PyProof.Rows TB
def isJ(j:Nat):Prop:=j=1\/j=2\/j=3\/j=4
theorem OkTb.flat{T:Tb}(o:OkTb T){j:Nat}(hj:isJ j):∀ys∈T.part j,∀y∈ys,Flat y:=λys h=>((o.part j hj).2.row ys h).flat
def Tel(H:Hp)(C t:Addr)(T:Tb):Prop:=∃fs x1 x2 x3 x4 k,TabP H C t fs T.n (prs x1 T.t1) (prs x2 T.t2) (prs x3 T.t3) (prs x4 T.t4) k/\TbDict T x2 x3 x4 k
theorem Tel.same{H H':Hp}{C t:Addr}{T:Tb}(s:Same H H')(h:Tel H C t T):Tel H' C t T:=by obtain⟨fs,x1,x2,x3,x4,k,tp,d⟩:=h;exact⟨fs,x1,x2,x3,x4,k,tp.same s,d⟩
theorem Kw{k1:Kv}{n:Int}{s l g a m:V}(h:Ub k1 n s l g a m=.non):Y7 k1 s g=.non/\∃i,l=.int i/\K1.Zx (.int i) 0 (n-1)=true/\K1.Zx a (i+1) n=true/\K1.Zx m 0 1000=true:=by
 unfold Ub at h;by_cases e:Y7 k1 s g=.non
 ·rw[if_neg (λz=>z e)]at h;refine⟨e,?_⟩;cases l with
 |int i=>dsimp only at h;refine⟨i,rfl,?_⟩;cases h1:K1.Zx (.int i) 0 (n-1)<;>cases h2:K1.Zx a (i+1) n<;>cases h3:K1.Zx m 0 1000<;>simp_all
 |_=>cases h
 ·rw[if_pos e]at h;exact absurd h e
theorem L5{k1:Kv}{s g l m:V}(h:wayV k1 s g l m=.non):Y7 k1 s g=.non/\K1.Zx l 1 50=true/\K1.Zx m 0 1000=true:=by
 unfold wayV at h;by_cases e:Y7 k1 s g=.non
 ·rw[if_neg (λz=>z e)]at h;refine⟨e,?_⟩;cases h1:K1.Zx l 1 50<;>cases h2:K1.Zx m 0 1000<;>simp_all
 ·rw[if_pos e]at h;exact absurd h e
theorem Wg{k1:Kv}{n pp:Int}{p t m:V}(h:Xm k1 n pp p t m=.non):ZY p k1=true/\K1.Zx t 0 n=true:=by unfold Xm at h;cases h1:ZY p k1<;>cases h2:K1.Zx t 0 n<;>simp_all
theorem Uq{k1:Kv}{s g:V}(h:Y7 k1 s g=.non):ZY s k1=true/\ZY g k1=true/\Ul s k1=false:=by unfold Y7 at h;cases h1:ZY s k1<;>cases h2:ZY g k1<;>cases h3:Ul s k1<;>simp_all
theorem Pp{g:Bool}{z:Str}(h:Yc g (.str z)=true):z.length<=1000:=by
 have h12:K1.lenB 12 (codes z)=true\/K1.lenB 8 (codes z)=true:=by
  cases g
  ·right;have h':K1.Jg 8 (K1.codes K1.tNAME) (codes z)=true:=h;unfold K1.Jg K1.YR at h';exact(Bool.and_eq_true_iff.mp (Bool.and_eq_true_iff.mp h').1).1
  ·left;have h':K1.Jg 12 (K1.codes K1.tGROUP) (codes z)=true:=h;unfold K1.Jg K1.YR at h';exact(Bool.and_eq_true_iff.mp (Bool.and_eq_true_iff.mp h').1).1
 unfold K1.lenB at h12;rw[Z1]at h12;simp only[Bool.and_eq_true,decide_eq_true_eq]at h12;omega
theorem QB{ps:Pl}{s g:Str}(h:Ends ps s g){k1:Kv}(hk:UL k1 (ps.map plRow)):Y7 k1 (.str s) (.str g)=.non:=by obtain⟨⟨i,hi⟩,⟨r,hr⟩,ne⟩:=h;have e1:valV k1 (.inr s)=some (.int i):=hk _ (af.mpr ⟨_,hi,rfl⟩);have e2:valV k1 (.inr g)=some (VF r):=hk _ (af.mpr ⟨_,hr,rfl⟩);unfold Y7 ZY Ul;simp only[e1,e2,Option.isSome_some,Bool.not_true,Bool.or_false,Bool.false_eq_true,if_false];rw[if_neg (by simp),if_neg (by intro z;injection z with z;exact ne z.symm)]
theorem Xr(i:Int):Flat (.int i):=.inr (.inl ⟨i,rfl⟩)
theorem Xf{z:Str}(h:z.length<=1000):Flat (.str z):=.inr (.inr ⟨z,rfl,h⟩)
section
variable {n:Int}{ps:Pl}
theorem HI{p:Str×Option Int}{t1:List (List V)}(hn:Yc false (.str p.1)=true)(hr:∀i,p.2=some i->0<=i/\i<=1000):RowOk 1 n t1 (plRow p):=by
 refine⟨rfl,hn,λk1 _ pp _=>?_,λz=>(by cases z),λy hy=>?_⟩
 ·show YA (VF p.2)=.non;unfold YA;rw[if_pos];cases e:p.2 with
 |none=>rfl
 |some i=>have:=hr i e;simp[VF,K1.Zx,this.1,this.2]
 ·simp only[plRow,ao,aF,or_false]at hy;rcases hy with rfl|rfl
  ·exact Xf (Pp hn)
  ·cases p.2 with
  |none=>exact .inl rfl
  |some i=>exact Xr i
theorem HE(gp:∀p∈ps,p.1.length<=1000){r:Rd}(g:GoodRd n ps r)(hn:Yc false (.str r.nm)=true):RowOk 2 n (ps.map plRow) (Sw r):=by
 refine⟨rfl,hn,λk1 hk pp _=>?_,λz=>(by cases z),λy hy=>?_⟩
 ·show Ub k1 n (.str r.st) (.int r.lv) (.str r.gl) (.int r.cm) (.int r.se)=.non;unfold Ub;rw[QB g.ends (hk (by decide)),if_neg (λz=>z rfl)];dsimp only;rw[Xi g.lv0 g.lv1,Xi g.cm0 g.cm1,Xi g.se0 g.se1];rfl
 ·obtain⟨⟨i,hi⟩,⟨x,hx⟩,_⟩:=g.ends;simp only[Sw,ao,aF,or_false]at hy;rcases hy with rfl|rfl|rfl|rfl|rfl|rfl
  ·exact Xf (Pp hn)
  ·exact Xf (gp _ hi)
  ·exact Xr _
  ·exact Xf (gp _ hx)
  ·exact Xr _
  ·exact Xr _
theorem Hn(gp:∀p∈ps,p.1.length<=1000){r:Wy}(g:GoodWy ps r)(hn:Yc false (.str r.nm)=true):RowOk 3 n (ps.map plRow) (RW r):=by
 refine⟨rfl,hn,λk1 hk pp _=>?_,λz=>(by cases z),λy hy=>?_⟩
 ·show wayV k1 (.str r.st) (.str r.gl) (.int r.lo) (.int r.wi)=.non;unfold wayV;rw[QB g.ends (hk (by decide)),if_neg (λz=>z rfl),Xi g.lo0 g.lo1,Xi g.wi0 g.wi1];rfl
 ·obtain⟨⟨i,hi⟩,⟨x,hx⟩,_⟩:=g.ends;simp only[RW,ao,aF,or_false]at hy;rcases hy with rfl|rfl|rfl|rfl|rfl
  ·exact Xf (Pp hn)
  ·exact Xf (gp _ hi)
  ·exact Xf (gp _ hx)
  ·exact Xr _
  ·exact Xr _
theorem HX{t1:List (List V)}{r:Gr}{v:V}(hp:∃p∈t1,nameOf p=r.pl)(pl:r.pl.length<=1000)(t0:0<=r.tu)(t1':r.tu<=n)(m0:0<=r.ma)(m1:r.ma<=300)(hn:Yc true (.str r.nm)=true):RowOk 4 n t1 (Qz r):=by
 refine⟨rfl,hn,λk1 hk pp hpp=>?_,λ_=>m0,λy hy=>?_⟩
 ·show Xm k1 n pp (.str r.pl) (.int r.tu) (.int r.ma)=.non;obtain⟨p,hp,e⟩:=hp;have e1:=hk (by decide) p hp;rw[e]at e1;unfold Xm;rw[show ZY (.str r.pl) k1=true from by show(valV k1 (.inr r.pl)).isSome=true;rw[e1];rfl,Xi t0 t1'];dsimp only;rw[Xi m0 m1];have:=hpp rfl;have em:ZC (Qz r)=r.ma:=rfl;rw[em]at this;simp only[Bool.not_true,Bool.false_eq_true,if_false];rw[if_neg (by omega)]
 ·simp only[Qz,ao,aF,or_false]at hy;rcases hy with rfl|rfl|rfl|rfl
  ·exact Xf (Pp hn)
  ·exact Xf pl
  ·exact Xr _
  ·exact Xr _
end
theorem Mc{T:Tb}(o:OkTb T):∃k1,PlDict k1 T.t1:=by obtain⟨k1,_,d,_⟩:=TL (j:=1) (k1:=[]) (n:=T.n) (t1:=T.t1) (.inl rfl) (λh=>absurd rfl h) (o.part 1 (.inl rfl)) (xs:=T.t1.map λ_=>V.non) (by rw[lm];rfl);exact⟨k1,d rfl⟩
theorem Mx:(∀c∈K1.codes K1.tNAME,c<0x110000)/\∀c∈K1.codes K1.tGROUP,c<0x110000:=by decide +kernel
theorem DE{g:Bool}{z:Str}(h:Yc g (.str z)=true):GS z:=by
 cases g
 ·have h':K1.Jg 8 (K1.codes K1.tNAME) (codes z)=true:=h;unfold K1.Jg K1.YR K1.lenB at h';simp only[Bool.and_eq_true,decide_eq_true_eq,ba]at h';exact⟨by rw[<-Z1];omega,λc hc=>Mx.1 c (h'.1.2 c hc)⟩
 ·have h':K1.Jg 12 (K1.codes K1.tGROUP) (codes z)=true:=h;unfold K1.Jg K1.YR K1.lenB at h';simp only[Bool.and_eq_true,decide_eq_true_eq,ba]at h';exact⟨by rw[<-Z1];omega,λc hc=>Mx.2 c (h'.1.2 c hc)⟩
theorem within_int{v:V}{lo hi:Int}(h:K1.Zx v lo hi=true):∃i,v=.int i/\lo<=i/\i<=hi:=by
 cases v with
|int i=>have h':(decide (lo<=i)&&decide (i<=hi))=true:=h;simp only[Bool.and_eq_true,decide_eq_true_eq]at h';exact⟨i,rfl,h'.1,h'.2⟩
|_=>cases h
theorem J9{k1:Kv}{n pp:Int}{p t m:V}(h:Xm k1 n pp p t m=.non):ZY p k1=true/\K1.Zx t 0 n=true/\∃i,m=.int i/\0<=i/\i<=300:=by
 obtain⟨h1,h2⟩:=Wg h;refine⟨h1,h2,?_⟩;unfold Xm at h;rw[h1,h2]at h;cases m with
|int i=>
  cases hw:K1.Zx (.int i) 0 300 with
 |true=>exact within_int hw
 |false=>dsimp only at h;rw[hw]at h;cases h
|_=>cases h
theorem Ro{k1:Kv}{t1:List (List V)}(hk:PlDict k1 t1){x:V}(h:ZY x k1=true):∃p∈t1,x=.str (nameOf p):=by
 obtain⟨z,v,rfl,hv⟩:=Yx h;by_cases hz:z∈t1.map nameOf
 ·obtain⟨p,hp,e⟩:=af.mp hz;exact⟨p,hp,by rw[e]⟩
 ·rw[hk.no z hz]at hv;cases hv
section
variable {T:Tb}(o:OkTb T)
include o
theorem VY{j:Nat}(hj:isJ j){ys:List V}(h:ys∈T.part j):RowOk j T.n T.t1 ys:=(o.part j hj).2.row ys h
theorem YD{j:Nat}(hj:isJ j){ys:List V}(h:ys∈T.part j):at_ ys 0=.str (nameOf ys)/\GS (nameOf ys):=by have r:=VY o hj h;refine⟨r.name,?_⟩;have:=r.nm;rw[show at_ ys 0=.str (nameOf ys)from r.name]at this;exact DE this
theorem UW{k1:Kv}(hk:PlDict k1 T.t1){x:V}(h:ZY x k1=true):Atm x:=by obtain⟨p,hp,rfl⟩:=Ro hk h;exact .str (YD o (j:=1) (.inl rfl) hp).2
theorem Xo{ys:List V}(h:ys∈T.t1):∃p:Str×Option Int,ys=plRow p/\GS p.1/\∀i,p.2=some i->0<=i/\i<=1000:=by
 have r:=VY o (j:=1) (.inl rfl) h;obtain⟨e0,g⟩:=YD o (j:=1) (.inl rfl) h;have hw:YA (at_ ys 1)=.non:=r.why [] (λz=>absurd rfl z) 0 (λz=>by cases z);obtain⟨a,c,rfl⟩:=len2 r.len;have ea:a=.str (nameOf [a,c]):=e0;have hw:YA c=.non:=hw;unfold YA at hw;by_cases e:c=.non
 ·exact⟨(nameOf [a,c],none),by rw[e];rw[e]at ea;rw[<-ea.symm];rfl,g,λi q=>by cases q⟩
 ·have hb:K1.Zx c 0 1000=true:=by
   cases hb:K1.Zx c 0 1000 with
  |true=>rfl
  |false=>rw[hb,decide_eq_false e,Bool.or_false,if_neg (by decide)]at hw;cases hw
  obtain⟨i,rfl,h0,h1⟩:=within_int hb;exact⟨(nameOf [a,.int i],some i),by rw[<-ea.symm];rfl,g,λj q=>by cases q;exact⟨h0,h1⟩⟩
theorem TJ{ys:List V}(h:ys∈T.t2){k1:Kv}(hk:UL k1 T.t1):∃z s lv g cm se,ys=[.str z,s,.int lv,g,.int cm,.int se]/\nameOf ys=z/\Y7 k1 s g=.non/\0<=lv/\lv<=T.n-1/\lv+1<=cm/\cm<=T.n/\0<=se/\se<=1000:=by have r:=VY o (j:=2) (.inr (.inl rfl)) h;have hw:Kx k1 T.n ys=.non:=r.why k1 (λ_=>hk) 0 (λz=>by cases z);obtain⟨a,b,c,d,e,f,rfl⟩:=len6 r.len;have ea:a=.str (nameOf [a,b,c,d,e,f]):=r.name;have hw:Ub k1 T.n b c d e f=.non:=hw;obtain⟨he,i,rfl,h1,h2,h3⟩:=Kw hw;obtain⟨i',q,a1,a2⟩:=within_int h1;cases q;obtain⟨cm,rfl,b1,b2⟩:=within_int h2;obtain⟨se,rfl,c1,c2⟩:=within_int h3;exact⟨_,b,i,d,cm,se,congrArg (λq=>q::[b,.int i,d,.int cm,.int se]) ea,rfl,he,a1,a2,b1,b2,c1,c2⟩
theorem QC{k1:Kv}(hk:PlDict k1 T.t1){s g:V}(h:Y7 k1 s g=.non):Atm s/\Atm g:=⟨UW o hk (Uq h).1,UW o hk (Uq h).2.1⟩
end
structure GD(j:Nat)(t:List (List V))(xs:List V)(i:Nat)(kvs:Kv):Prop where
 has:∀(m:Nat)y x,m<i->t[m]?=some y->xs[m]?=some x->valV kvs (.inr (nameOf y))=some (if j=1 then at_ y 1 else x)
 no:∀z,z∉(t.take i).map nameOf->valV kvs (.inr z)=none
 len:kvs.length<=i
section
variable {j i:Nat}{t:List (List V)}{xs:List V}{kvs:Kv}{y:List V}{x:V}
theorem GD.nil:GD j t xs 0 []:=⟨λ_ _ _ h=>absurd h (Nat.not_lt_zero _),λ_ _=>rfl,Nat.le_refl _⟩
theorem GD.fresh(g:GD j t xs i kvs)(nd:(t.map nameOf).Nodup)(e:t[i]?=some y):valV kvs (.inr (nameOf y))=none:=g.no _ λh=>by
 obtain⟨q,hq,eq⟩:=af.mp h;obtain⟨m,hm⟩:=aU.mp hq;have hlt:m<i:=by have:=(aj.mp hm).1;rw[aG]at this;omega
 rw[eV hlt]at hm;have h1:(t.map nameOf)[m]?=some (nameOf y):=by rw[aJ,hm,<-eq];rfl
 have h2:(t.map nameOf)[i]?=some (nameOf y):=by rw[aJ,e];rfl
 obtain⟨p1,q1⟩:=aj.mp h1;obtain⟨p2,q2⟩:=aj.mp h2;exact eQ.mp nd m i p1 p2 hlt (q1.trans q2.symm)
theorem GD.step(g:GD j t xs i kvs)(nd:(t.map nameOf).Nodup)(e:t[i]?=some y)(ex:xs[i]?=some x):GD j t xs (i+1) (putK kvs (.inr (nameOf y)) (if j=1 then at_ y 1 else x)):=by
 refine⟨λm q z hm h1 h2=>?_,λz hz=>?_,?_⟩
 ·rw[Xa];by_cases h:m=i
  ·subst h;rw[e]at h1;rw[ex]at h2;cases h1;cases h2;rw[if_pos rfl]
  ·have hlt:m<i:=by omega
   have hv:=g.has m q z hlt h1 h2;rw[if_neg (λz=>by injection z with z;rw[z,g.fresh nd e]at hv;cases hv)];exact hv
 ·rw[a9,e,aI,aw,not_or]at hz;rw[Xa,if_neg (λq=>hz.2 (by injection q with q;rw[q];exact ay.mpr rfl))];exact g.no z hz.1
 ·have:=Y5 kvs (cA (nameOf y)) (if j=1 then at_ y 1 else x);have:=g.len;omega
theorem Ec{n:Int}{t1:List (List V)}(r:RowOk j n t1 y)(h:valV kvs (.inr (nameOf y))=none):begR (gJ j) (szJ j) kvs (some y)=.non:=by show begV _ _ _ _=_;unfold begV;rw[if_neg (λz=>z r.len),show Yc (gJ j) (y.getD 0 .non)=true from r.nm,if_neg (by decide),r.name];rw[show ZY (.str (nameOf y)) kvs=false from by show(valV kvs _).isSome=false;rw[h];rfl,if_neg (by decide)]
end
noncomputable def dJ:Nat->Str
|1=>"room_by_place"|2=>"ride_by_name"|3=>"way_by_name"|_=>"group_by_name"
theorem Nf{j:Nat}(hj:isJ j):(Yu j,szJ j)∈Qh/\(Yu j,Qm j)∈SI/\decide (Yu j="groups")=gJ j/\Yu j∈fields/\dJ j∈fields/\"turns"≠Yu j/\"turns"≠dJ j:=by rcases hj with rfl|rfl|rfl|rfl<;>exact⟨by simp[Qh,Yu,szJ],by simp[SI,Yu,Qm],by decide +kernel,by simp[fields,Yu],by simp[fields,dJ],by decide +kernel,by decide +kernel⟩
theorem WN{i j:Nat}(hi:isJ i)(hj:isJ j):(i≠j->Yu i≠Yu j/\dJ i≠dJ j)/\Yu i≠dJ j:=by rcases hi with rfl|rfl|rfl|rfl<;>rcases hj with rfl|rfl|rfl|rfl<;>decide +kernel
def PlG(j:Nat)(H:Hp)(fs:List (Str×V))(n:Int)(t1:List (List V)):Prop:=j≠1->fs.lookup ("turns":Str)=some (.int n)/\∃dP kP,fs.lookup ("room_by_place":Str)=some (.ref dP)/\H dP=some (.dK kP)/\UL kP t1
def Xv(C:Addr)(j:Nat):Sp:=λvs H Q _=>∃(t l dx:Addr)(xs:List V)(ts:List (List V))(fs:List (Str×V))(n:Int)(t1:List (List V)),vs=[.ref t,.ref l]/\H t=some (.ins C dx fs)/\(∀g,g∉fields->fs.lookup g=none)/\fs.length<=20/\PlG j H fs n t1/\H l=some (.tup xs)/\Y9 H xs (ts.map some)/\RT j n t1 ts /\∀H' d kvs,Zg t H H'->H d=none->d≠t->H' d=some (.dK kvs)->GD j ts xs ts.length kvs->H' t=some (.ins C dx (putF (dJ j) (.ref d) (putF (Yu j) (.ref l) fs)))->Q .non H'
section
variable {K:aa}{C:Addr}{H H2:Hp}{t l d dx:Addr}{fs:List (Str×V)}{D:L2.Ends}{σ:L2.St}
theorem Jt(Z:TCl K C){f g:Str}(nf:f∈fields)(ng:g∈fields){u:TS}(s0:σ[0]?=some (some (.ref t)))(s1:σ[1]?=some (some (.ref l)))(ht:H t=some (.ins C dx fs))(hfs:fs.length<=20)(k:∀H2 d,Zg t H H2->H d=none->d≠t->H2 d=some (.dK [])->H2 t=some (.ins C dx (putF g (.ref d) (putF f (.ref l) fs)))->u D σ H2):tSeq (sFld K (tVar 0) (tVar 1) f) (tSeq (sFld K (tVar 0) WT g) u) D σ H:=by
 have fl1:=Y6 f (V.ref l) fs;refine⟨_,s1,_,s0,t,C,dx,_,rfl,ht,Z.cl,Z.na _ nf,by omega,?_⟩;have t1:upd H t (.ins C dx (putF f (.ref l) fs)) t=some (.ins C dx (putF f (.ref l) fs)):=Zf;refine λd hd=>⟨_,s0,t,C,dx,_,rfl,(by rw[Zj (Zi t1 hd)];exact t1),Z.cl,Z.na _ ng,by omega,?_⟩;have hdt:d≠t:=bD (Zi t1 hd);have hd0:H d=none:=by rw[Zj hdt]at hd;exact hd
 refine k _ d (λc o h hc=>?_) hd0 hdt (by rw[Zj hdt,Zf]) Zf;rw[Zj hc,Zj (Zi h hd0),Zj hc];exact h
theorem Vq{a b j:Nat}{tb:TS}{F2:List (Str×V)}{ts:List (List V)}{xs:List V}(Ps:Nat->L2.St->Prop)(s1:σ[1]?=some (some (.ref l)))(ht:H t=some (.ins C dx fs))(hl:H l=some (.tup xs))(hd0:H d=none)(hdt:d≠t)(rows:Y9 H xs (ts.map some))(nd:(ts.map nameOf).Nodup)(sm:Zg t H H2)(d2:H2 d=some (.dK []))(t2:H2 t=some (.ins C dx F2))(p0:Ps 0 σ)(body:∀i x y kvs H' σ' D',xs[i]?=some x->ts[i]?=some y->Ps i σ'->Zg t H H'->H' t=some (.ins C dx F2)->H' d=some (.dK kvs)->kvs.length<=i->valV kvs (.inr (nameOf y))=none->Row H' x (some y) ->(∀H4 σ4,Zg t H H4->H4 t=some (.ins C dx F2)->H4 d=some (.dK kvs)->Ps (i+1) σ4->D'.nx σ4 (upd H4 d (.dK (putK kvs (.inr (nameOf y)) (if j=1 then at_ y 1 else x)))))->tb D' ((σ'.set a (some (.int i))).set b (some x)) H')(k:∀H' σ' kvs,Zg t H H'->H' d=some (.dK kvs)->GD j ts xs ts.length kvs->H' t=some (.ins C dx F2)->D.nx σ' H'):tFor (iEnT (Yl (tVar 1) tNil)) (gTup K 2 (Ls (Zt a) (Ls (Zt b) gNil))) tb D σ H2:=by
 have htl:l≠t:=ne_of hl ht (by intro z;cases z);have hln:xs.length=ts.length:=by rw[rows.1,lm]
 refine⟨_,s1,l,xs,rfl,sm _ _ hl htl,YU (J:=Iten l) xs.length (λi σ' H'=>Ps i σ'/\Zg t H H'/\H' t=some (.ins C dx F2)/\∃kvs,H' d=some (.dK kvs)/\GD j ts xs i kvs) ⟨p0,sm,t2,[],d2,.nil⟩ (λi σ' H' hi p=>⟨xs,p.2.1 _ _ hl htl,hi⟩) (λσ' H' p=>⟨xs,p.2.1 _ _ hl htl,rfl⟩) (λi σ' H' x H'' hi p yl=>?_) (λσ' H' p=>?_)⟩
 ·obtain⟨ps,sm',tt,kvs,dd,g⟩:=p;obtain⟨Tt,xs',y,hT,e1,hy,rfl,rfl⟩:=yl;rw[sm' _ _ hl htl]at e1;cases e1;have hi':i<ts.length:=by omega
  have ey:ts[i]?=some ts[i]:=gE hi';have hrow:=rows.2 i y (some ts[i]) hy (by rw[aJ,ey];rfl);generalize ts[i]=r at ey hrow;have S3:Same H' (upd H' Tt (.tup [.int i,y])):=sameNew (Same.refl H') hT;have sm3:=sm'.trans (Zg.of S3);refine⟨Tt,_,rfl,SqT.of Zf,rfl,_,_,rfl,_,_,rfl,rfl,?_⟩;refine body i y r kvs _ σ' _ hy ey ps sm3 (S3 _ _ tt) (S3 _ _ dd) g.len (g.fresh nd ey) (hrow.sameB ht sm3) λH4 σ4 s4 t4 d4 p4=>⟨p4,λc o h hc=>?_,?_,_,Zf,g.step nd ey hy⟩
  ·rw[Zj (Zi h hd0)];exact s4 c o h hc
  ·rw[Zj (bD hdt)];exact t4
 ·obtain⟨_,sm',tt,kvs,dd,g⟩:=p;exact k H' σ' kvs sm' dd (hln▸g) tt
theorem G9{j:Nat}(hj:isJ j){n:Int}{t1:List (List V)}{x:V}{y:List V}{kvs:Kv}{Q:VK}{E:XK}(hr:Row H x (some y))(r:RowOk j n t1 y)(hd:H d=some (.dK kvs))(hv:valV kvs (.inr (nameOf y))=none)(k:∀H',Same H H'->Q .non H'):X9 [.str (Yu j),x,.ref d] H Q E:=by obtain⟨m1,_,eg,_⟩:=Nf hj;refine⟨_,_,x,some y,d,kvs,rfl,m1,hr,hd,λH' s=>?_⟩;rw[eg,Ec r hv];exact k H' s
end
def Ja:Sp:=λvs H Q _=>∃p a,vs=[p,a,.non]/\Q .non H
def N3:Sp:=λvs H Q _=>∃z n p xs,vs=[.str z,.ref p]/\(z,n)∈SI/\(H p=some (.lst xs)\/H p=some (.tup xs))/\xs.length<=n/\∀H1 l,Same H H1->H1 l=some (.tup xs)->Q (.ref l) H1
section
variable {P:Program}{w:World}{K:aa}{mg:Str->Option Value}{base:Heap}{C:Addr}
theorem Nb:FnScope ["part","at","why"] ["part","at","why"] (Zd T.f_refuse_row):=scO
theorem QN(D:Df K mg "refuse_row" T.f_refuse_row ["part","at","why"]):Can P w K mg base 1 "refuse_row" ["part","at","why"] Ja:=by refine D.cn Nb λf cdv A outer s H vs Q E hr h=>?_;obtain⟨p,a,rfl,k⟩:=h;refine⟨_,(Ze (ZF (Zq JA (pv 2) ZK (ZA _)) (Ze Je) Zr)),?_⟩;refine⟨_,rfl,rfl,_,rfl,?_⟩;exact iteF k
theorem Q3:FnScope ["part","rows"] ["part","rows"] (Zd T.f_rows_of):=scO
theorem Ws(B:∀x∈Blts,mg x=none)(M:Mosts K w mg)(D:Df K mg "rows_of" T.f_rows_of ["part","rows"]):Can P w K mg base 1 "rows_of" ["part","rows"] N3:=by
 obtain⟨aM,hM,k1,k2,k3,k4⟩:=M.at_;refine D.cn Q3 λf cdv A outer s H vs Q E hr h=>?_;obtain⟨z,n,p,xs,rfl,hz,hp,hl,k⟩:=h;have hK:XN K w aM z (.int n):=by simp only[SI,ao,fB,aF,or_false]at hz;rcases hz with⟨rfl,rfl⟩|⟨rfl,rfl⟩|⟨rfl,rfl⟩|⟨rfl,rfl⟩<;>assumption
 refine⟨_,Za (ZF (Z9 (ZZ (Zy WH rfl (bm B) fR (Zh (pv 1) (Zh (Zw (Zh (Pm (v:=V.ty "list") rfl (bm B) JI rfl) (Zh (Pm (v:=V.ty "tuple") rfl (bm B) XM rfl) Zk))) Zk))))) (Ze Je) Zr) (Za (ZF (Zq ML (Zy JH rfl (bm B) aZ (Zh (pv 1) Zk)) (SG (Z7 (v:=V.ref aM) rfl hM rfl) (pv 0) (λ_ _=>rfl)) (ZA _)) (Ze Je) Zr) (Ze (Zn (Yi X6 rfl (bm B) XM (Zh (pv 1) Zk))))),?_⟩;obtain⟨T',th,hT⟩:∃T',Th H (.ref p) T'/\(T'="list"\/T'="tuple"):=by
  rcases hp with hp|hp
  ·exact⟨_,.lst hp,.inl rfl⟩
  ·exact⟨_,.tup hp,.inr rfl⟩
 refine⟨_,rfl,zl,λl hl=>?_⟩;have sm:Same H (upd H l (.tup [V.ty "list",V.ty "tuple"])):=sameNew (Same.refl H) hl;refine⟨.ref p,l,["list","tuple"],T',_,rfl,th.same sm,Zf ..,(th.same sm).kitLT,_,rfl,?_⟩;rw[decide_eq_true hT];refine iteF ?_;generalize upd H l (.tup [V.ty "list",V.ty "tuple"])=H1 at sm ⊢;have hs:SqL K H1 p xs\/SqT K H1 p xs:=by
  rcases hp with hp|hp
  ·exact .inl (SqL.of (sm _ _ hp))
  ·exact .inr (SqT.of (sm _ _ hp))
 refine⟨_,rfl,p,xs,rfl,hs,_,rfl,aM,z,.int n,rfl,rfl,hK,_,_,rfl,rfl,_,rfl,?_⟩;rw[decide_eq_false (by omega)];refine iteF ?_;refine⟨_,rfl,p,xs,rfl,?_⟩;rcases hp with hp|hp
 ·exact .inl ⟨SqL.of (sm _ _ hp),λl2 hl2=>k _ l2 (sameNew sm hl2) (Zf ..)⟩
 ·exact .inr ⟨SqT.of (sm _ _ hp),k _ p sm (sm _ _ hp)⟩
section
variable {H:Hp}{t dx dP:Addr}{F:List (Str×V)}{n:Int}{t1:List (List V)}{kP:Kv}{x:V}{y:List V}{Q:VK}{E:XK}
theorem Pe{j:Nat}(r:RowOk j n t1 y):atI y 0=some (.str (nameOf y)):=by
 have h:=r.name;have hl:0<y.length:=by rw[r.len];unfold szJ;split<;>decide
 have e:y[0]?=some (.str (nameOf y)):=by rw[gE hl];rw[ax,gE hl]at h;exact congrArg some h
 exact Zu (j:=0) e
theorem Tw(hr:Row H x (some y))(r:RowOk 1 n t1 y)(k:Q .non H):Mr [x] H Q E:=by obtain⟨q,rfl,hq,th⟩:=hr;have hy:=r.why [] (λh=>absurd rfl h) 0 (λh=>by cases h);obtain⟨a,b,rfl⟩:=len2 r.len;obtain⟨T,hT⟩:=th b (by simp);have hy':YA b=.non:=hy;exact⟨q,a,b,T,rfl,hq,hT,by rw[hy'];exact k⟩
variable (ht:H t=some (.ins C dx F))(only:∀g,g∉fields->F.lookup g=none)(hd:F.lookup ("room_by_place":Str)=some (.ref dP))(hn:F.lookup ("turns":Str)=some (.int n))(hk:H dP=some (.dK kP))(has:UL kP t1)(hr:Row H x (some y))
include ht only hd hk has hr in
theorem L4(r:RowOk 3 n t1 y)(k:Q .non H):W5 C [.ref t,x] H Q E:=by obtain⟨q,rfl,hq,th⟩:=hr;have hy:=r.why kP (λ_=>has) 0 (λh=>by cases h);obtain⟨a,b,c,d,e,rfl⟩:=len5 r.len;exact⟨t,q,a,b,c,d,e,F,dP,kP,rfl,⟨⟨dx,ht⟩,only⟩,hd,hk,hq,th,by rw[show wayV kP b c d e=.non from hy];exact k⟩
include ht only hd hn hk has hr
theorem WL(r:RowOk 2 n t1 y)(k:Q .non H):QZ C [.ref t,x] H Q E:=by obtain⟨q,rfl,hq,th⟩:=hr;have hy:=r.why kP (λ_=>has) 0 (λh=>by cases h);obtain⟨a,b,c,d,e,f,rfl⟩:=len6 r.len;exact⟨t,q,a,b,c,d,e,f,F,dP,kP,n,rfl,⟨⟨dx,ht⟩,only⟩,hd,hn,hk,hq,th,by rw[show Ub kP n b c d e f=.non from hy];exact k⟩
theorem Tx{pp:Int}(r:RowOk 4 n t1 y)(hp:pp+ZC y<=300)(k:Q .non H):N7 C [.ref t,x,.int pp] H Q E:=by obtain⟨q,rfl,hq,th⟩:=hr;have hy:=r.why kP (λ_=>has) pp (λ_=>hp);obtain⟨a,b,c,d,rfl⟩:=len4 r.len;exact⟨t,q,a,b,c,d,F,dP,kP,n,pp,rfl,⟨⟨dx,ht⟩,only⟩,hd,hn,hk,hq,th,by rw[show Xm kP n pp b c d=.non from hy];exact k⟩
end
theorem X2{fs:List (Str×V)}{f g x:Str}{a b:V}(h1:x≠f)(h2:x≠g):(putF g b (putF f a fs)).lookup x=fs.lookup x:=by rw[Yq,if_neg h2,Yq,if_neg h1]
theorem Mg{fs:List (Str×V)}{f g:Str}{a b:V}(hf:f∈fields)(hg:g∈fields)(h:∀x,x∉fields->fs.lookup x=none):∀x,x∉fields->(putF g b (putF f a fs)).lookup x=none:=λx hx=>by rw[X2 (λz=>hx (by rw[z];exact hf)) (λz=>hx (by rw[z];exact hg))];exact h x hx
theorem MO{fs:List (Str×V)}{f g:Str}{a b:V}:(putF g b (putF f a fs)).lookup g=some b:=by rw[Yq,if_pos rfl]
theorem MB:FnScope ["self","places","at","row"] ["self","places"] (Zd T.m_Table_take_places):=scO
theorem RH(Z:TCl K C)(he:mg "enumerate"=none)(D:DfM K C "take_places" "Table.take_places" T.m_Table_take_places ["self","places"])(CB:Can P w K mg base 3 "wrong_beginning" ["part","row","names_ahead"] X9)(CW:Can P w K mg base 3 "wrong_place" ["row"] Mr)(CR:Can P w K mg base 1 "refuse_row" ["part","at","why"] Ja):CanM P w K mg base CX0 6 C "take_places" ["self","places"] (Xv C 1):=by
 refine D.cn MB λf cdv A outer s H vs Q E hr h=>?_;obtain⟨t,l,dx,xs,ts,fs,n,t1,rfl,ht,only,hfs,pg,hl,rows,⟨hm,ok⟩,k⟩:=h;refine⟨_,Za (Xb (pv 0) (pv 1) rfl) (Za (Xb (pv 0) JZ rfl) (Ze (Yn aY rfl (Ud rfl he (Zh (pv 1) Zk) Mi) (YE rfl (Zl (nmT 2 MB.nd) (Zl (nmT 3 MB.nd) Z0))) (Za (Yg (cn CR hr (Zh ZH (Zh (pv 2) (Zh (MI (cn CB hr (Zh ZH (Zh (pv 3) (Zh (Z2 (pv 0) rfl) Zk)))) (YF (cn CW hr (Zh (pv 3) Zk)))) Zk))))) (Ze (XS (YX hr) (Z2 (pv 0) rfl) (Ym Yd (pv 3) Zb (λ_ _=>rfl)) (Ym Yd (pv 3) Zb (λ_ _=>rfl)) rfl)))))),?_⟩;obtain⟨_,_,_,nf,ng,_⟩:=Nf (j:=1) (.inl rfl);have nR:=Z.na _ ng;have hx14:xs.length<=14:=by rw[rows.1,lm];exact hm
 refine Jt Z nf ng rfl rfl ht hfs λH2 d s2 hd0 hdt d2 t2=>?_;have lk:(putF (dJ 1) (.ref d) (putF (Yu 1) (.ref l) fs)).lookup ("room_by_place":Str)=some (.ref d):=MO;refine Vq (j:=1) (λi σ=>∃o2 o3,σ=[some (.ref t),some (.ref l),o2,o3]) rfl ht hl hd0 hdt rows ok.nd s2 d2 t2 ⟨_,_,rfl⟩ (λi x y kvs H3 σ' D' hx hy ps s3 t3 d3 hkl hv hrow kx=>?_) (λH' σ' kvs s' d' g t'=>k H' d kvs s' hd0 hdt d' g t');obtain⟨o2,o3,rfl⟩:=ps;have ro:=ok.row y (au hy);have hi:i<xs.length:=(aj.mp hx).1;refine⟨_,rfl,_,rfl,_,rfl,t,C,dx,_,_,rfl,t3,Z.cl,nR,lk,?_⟩;dsimp only[tNil];refine G9 (j:=1) (.inl rfl) hrow ro d3 hv λH4 s34=>⟨false,rfl,iteF ?_⟩;have hrow4:=hrow.same s34;refine⟨_,rfl,?_⟩;dsimp only[tNil];refine Tw hrow4 ro ⟨_,_,rfl,?_⟩;obtain⟨q,rfl,hq,th⟩:=hrow4;have a0:=Pe ro;have hy1:atI y 1=some (at_ y 1):=by obtain⟨a,b,rfl⟩:=len2 ro.len;exact Zu (j:=1) rfl
 refine iaT hq hy1 ⟨_,rfl,t,C,dx,_,_,rfl,s34 _ _ t3,Z.cl,nR,lk,iaT hq a0 ⟨d,_,rfl,DPut.k (k:=cA (nameOf y)) (s34 _ _ d3) (Jb (by omega)),?_⟩⟩;exact kx H4 _ (s3.trans (Zg.of s34)) (s34 _ _ t3) (s34 _ _ d3) ⟨_,_,rfl⟩
theorem MA:FnScope ["self","rides","at","row"] ["self","rides"] (Zd T.m_Table_take_rides):=scO
theorem RF(Z:TCl K C)(he:mg "enumerate"=none)(D:DfM K C "take_rides" "Table.take_rides" T.m_Table_take_rides ["self","rides"])(CB:Can P w K mg base 3 "wrong_beginning" ["part","row","names_ahead"] X9)(CW:Can P w K mg base 5 "wrong_ride" ["table","row"] (QZ C))(CR:Can P w K mg base 1 "refuse_row" ["part","at","why"] Ja):CanM P w K mg base CX0 6 C "take_rides" ["self","rides"] (Xv C 2):=by
 refine D.cn MA λf cdv A outer s H vs Q E hr h=>?_;obtain⟨t,l,dx,xs,ts,fs,n,t1,rfl,ht,only,hfs,pg,hl,rows,⟨hm,ok⟩,k⟩:=h;refine⟨_,Za (Xb (pv 0) (pv 1) rfl) (Za (Xb (pv 0) JZ rfl) (Ze (Yn aY rfl (Ud rfl he (Zh (pv 1) Zk) Mi) (YE rfl (Zl (nmT 2 MA.nd) (Zl (nmT 3 MA.nd) Z0))) (Za (Yg (cn CR hr (Zh ZH (Zh (pv 2) (Zh (MI (cn CB hr (Zh ZH (Zh (pv 3) (Zh (Z2 (pv 0) rfl) Zk)))) (YF (cn CW hr (Zh (pv 0) (Zh (pv 3) Zk))))) Zk))))) (Ze (XS (YX hr) (Z2 (pv 0) rfl) (Ym Yd (pv 3) Zb (λ_ _=>rfl)) (pv 3) rfl)))))),?_⟩;obtain⟨_,_,_,nf,ng,nt,nu⟩:=Nf (j:=2) (.inr (.inl rfl));have nR:=Z.na _ ng;have hx14:xs.length<=80:=by rw[rows.1,lm];exact Nat.le_trans hm (by decide)
 obtain⟨hn,dP,kP,hdP,hkP,has⟩:=pg (by decide);have nPt:dP≠t:=ne_of hkP ht (by intro z;cases z);refine Jt Z nf ng rfl rfl ht hfs λH2 d s2 hd0 hdt d2 t2=>?_;have lk:(putF (dJ 2) (.ref d) (putF (Yu 2) (.ref l) fs)).lookup ("ride_by_name":Str)=some (.ref d):=MO;have lkP:=(X2 (f:=Yu 2) (g:=dJ 2) (a:=.ref l) (b:=.ref d) (x:="room_by_place") (by decide +kernel) (by decide +kernel)).trans hdP;have lkT:=(X2 (f:=Yu 2) (g:=dJ 2) (a:=.ref l) (b:=.ref d) nt nu).trans hn;have lkO:=Mg (a:=.ref l) (b:=.ref d) nf ng only;refine Vq (j:=2) (λi σ=>∃o2 o3,σ=[some (.ref t),some (.ref l),o2,o3]) rfl ht hl hd0 hdt rows ok.nd s2 d2 t2 ⟨_,_,rfl⟩ (λi x y kvs H3 σ' D' hx hy ps s3 t3 d3 hkl hv hrow kx=>?_) (λH' σ' kvs s' d' g t'=>k H' d kvs s' hd0 hdt d' g t');obtain⟨o2,o3,rfl⟩:=ps;have ro:=ok.row y (au hy);have hi:i<xs.length:=(aj.mp hx).1;refine⟨_,rfl,_,rfl,_,rfl,t,C,dx,_,_,rfl,t3,Z.cl,nR,lk,?_⟩;dsimp only[tNil];refine G9 (j:=2) (.inr (.inl rfl)) hrow ro d3 hv λH4 s34=>⟨false,rfl,iteF ?_⟩;have hrow4:=hrow.same s34;have hkP4:=s34 _ _ (s3 _ _ hkP nPt);refine⟨_,rfl,_,rfl,?_⟩;dsimp only[tNil];refine WL (s34 _ _ t3) lkO lkP lkT hkP4 has hrow4 ro ⟨_,_,rfl,?_⟩;obtain⟨q,rfl,hq,th⟩:=hrow4;refine⟨_,rfl,_,rfl,t,C,dx,_,_,rfl,s34 _ _ t3,Z.cl,nR,lk,iaT hq (Pe ro) ⟨d,_,rfl,DPut.k (k:=cA (nameOf y)) (s34 _ _ d3) (Jb (by omega)),?_⟩⟩;exact kx H4 _ (s3.trans (Zg.of s34)) (s34 _ _ t3) (s34 _ _ d3) ⟨_,_,rfl⟩
theorem Mz:FnScope ["self","ways","at","row"] ["self","ways"] (Zd T.m_Table_take_ways):=scO
theorem RE(Z:TCl K C)(he:mg "enumerate"=none)(D:DfM K C "take_ways" "Table.take_ways" T.m_Table_take_ways ["self","ways"])(CB:Can P w K mg base 3 "wrong_beginning" ["part","row","names_ahead"] X9)(CW:Can P w K mg base 5 "wrong_way" ["table","row"] (W5 C))(CR:Can P w K mg base 1 "refuse_row" ["part","at","why"] Ja):CanM P w K mg base CX0 6 C "take_ways" ["self","ways"] (Xv C 3):=by
 refine D.cn Mz λf cdv A outer s H vs Q E hr h=>?_;obtain⟨t,l,dx,xs,ts,fs,n,t1,rfl,ht,only,hfs,pg,hl,rows,⟨hm,ok⟩,k⟩:=h;refine⟨_,Za (Xb (pv 0) (pv 1) rfl) (Za (Xb (pv 0) JZ rfl) (Ze (Yn aY rfl (Ud rfl he (Zh (pv 1) Zk) Mi) (YE rfl (Zl (nmT 2 Mz.nd) (Zl (nmT 3 Mz.nd) Z0))) (Za (Yg (cn CR hr (Zh ZH (Zh (pv 2) (Zh (MI (cn CB hr (Zh ZH (Zh (pv 3) (Zh (Z2 (pv 0) rfl) Zk)))) (YF (cn CW hr (Zh (pv 0) (Zh (pv 3) Zk))))) Zk))))) (Ze (XS (YX hr) (Z2 (pv 0) rfl) (Ym Yd (pv 3) Zb (λ_ _=>rfl)) (pv 3) rfl)))))),?_⟩;obtain⟨_,_,_,nf,ng,nt,nu⟩:=Nf (j:=3) (.inr (.inr (.inl rfl)));have nR:=Z.na _ ng;have hx14:xs.length<=80:=by rw[rows.1,lm];exact Nat.le_trans hm (by decide)
 obtain⟨hn,dP,kP,hdP,hkP,has⟩:=pg (by decide);have nPt:dP≠t:=ne_of hkP ht (by intro z;cases z);refine Jt Z nf ng rfl rfl ht hfs λH2 d s2 hd0 hdt d2 t2=>?_;have lk:(putF (dJ 3) (.ref d) (putF (Yu 3) (.ref l) fs)).lookup ("way_by_name":Str)=some (.ref d):=MO;have lkP:=(X2 (f:=Yu 3) (g:=dJ 3) (a:=.ref l) (b:=.ref d) (x:="room_by_place") (by decide +kernel) (by decide +kernel)).trans hdP;have lkT:=(X2 (f:=Yu 3) (g:=dJ 3) (a:=.ref l) (b:=.ref d) nt nu).trans hn;have lkO:=Mg (a:=.ref l) (b:=.ref d) nf ng only;refine Vq (j:=3) (λi σ=>∃o2 o3,σ=[some (.ref t),some (.ref l),o2,o3]) rfl ht hl hd0 hdt rows ok.nd s2 d2 t2 ⟨_,_,rfl⟩ (λi x y kvs H3 σ' D' hx hy ps s3 t3 d3 hkl hv hrow kx=>?_) (λH' σ' kvs s' d' g t'=>k H' d kvs s' hd0 hdt d' g t');obtain⟨o2,o3,rfl⟩:=ps;have ro:=ok.row y (au hy);have hi:i<xs.length:=(aj.mp hx).1;refine⟨_,rfl,_,rfl,_,rfl,t,C,dx,_,_,rfl,t3,Z.cl,nR,lk,?_⟩;dsimp only[tNil];refine G9 (j:=3) (.inr (.inr (.inl rfl))) hrow ro d3 hv λH4 s34=>⟨false,rfl,iteF ?_⟩;have hrow4:=hrow.same s34;have hkP4:=s34 _ _ (s3 _ _ hkP nPt);refine⟨_,rfl,_,rfl,?_⟩;dsimp only[tNil];refine L4 (s34 _ _ t3) lkO lkP hkP4 has hrow4 ro ⟨_,_,rfl,?_⟩;obtain⟨q,rfl,hq,th⟩:=hrow4;refine⟨_,rfl,_,rfl,t,C,dx,_,_,rfl,s34 _ _ t3,Z.cl,nR,lk,iaT hq (Pe ro) ⟨d,_,rfl,DPut.k (k:=cA (nameOf y)) (s34 _ _ d3) (Jb (by omega)),?_⟩⟩;exact kx H4 _ (s3.trans (Zg.of s34)) (s34 _ _ t3) (s34 _ _ d3) ⟨_,_,rfl⟩
theorem TV{ts:List (List V)}(h:∀y∈ts,0<=ZC y)(hs:(ts.map ZC).sum<=300){i:Nat}{y:List V}(e:ts[i]?=some y):((ts.take (i+1)).map ZC).sum=((ts.take i).map ZC).sum+ZC y/\((ts.take i).map ZC).sum+ZC y<=300:=by
 have h1:((ts.take (i+1)).map ZC).sum=((ts.take i).map ZC).sum+ZC y:=by rw[a9,e,aI,List.sum_append];simp
 refine⟨h1,?_⟩;have h2:(ts.map ZC).sum=((ts.take (i+1)).map ZC).sum+((ts.drop (i+1)).map ZC).sum:=by rw[<-List.sum_append,<-aI,cg]
 have h3:=QW (l:=(ts.drop (i+1)).map ZC) λx hx=>by obtain⟨q,hq,rfl⟩:=af.mp hx;exact h q (fE hq)
 omega
theorem Jd:FnScope ["self","groups","people","at","row","why"] ["self","groups"] (Zd T.m_Table_take_groups):=scO
theorem RI(Z:TCl K C)(he:mg "enumerate"=none)(D:DfM K C "take_groups" "Table.take_groups" T.m_Table_take_groups ["self","groups"])(CB:Can P w K mg base 3 "wrong_beginning" ["part","row","names_ahead"] X9)(CW:Can P w K mg base 3 "wrong_group" ["table","row","people_ahead"] (N7 C))(CR:Can P w K mg base 1 "refuse_row" ["part","at","why"] Ja):CanM P w K mg base CX0 6 C "take_groups" ["self","groups"] (Xv C 4):=by
 refine D.cn Jd λf cdv A outer s H vs Q E hr h=>?_;obtain⟨t,l,dx,xs,ts,fs,n,t1,rfl,ht,only,hfs,pg,hl,rows,⟨hm,ok⟩,k⟩:=h;refine⟨_,Za (Xb (pv 0) (pv 1) rfl) (Za (Xb (pv 0) JZ rfl) (Za (Yb (i:=2) Jd.nd rfl (aK rfl) Zb) (Ze (Yn aY rfl (Ud rfl he (Zh (pv 1) Zk) Mi) (YE rfl (Zl (nmT 3 Jd.nd) (Zl (nmT 4 Jd.nd) Z0))) (Za (Yb (i:=5) Jd.nd rfl (aK rfl) (MI (cn CB hr (Zh ZH (Zh (pv 4) (Zh (Z2 (pv 0) rfl) Zk)))) (YF (cn CW hr (Zh (pv 0) (Zh (pv 4) (Zh (pv 2) Zk))))))) (Za (Yg (cn CR hr (Zh ZH (Zh (pv 3) (Zh (pv 5) Zk))))) (Za (XS (YX hr) (Z2 (pv 0) rfl) (Ym Yd (pv 4) Zb (λ_ _=>rfl)) (pv 4) rfl) (Ze (Yb (i:=2) Jd.nd rfl (aK rfl) (Zp ZG (pv 2) (Ym Yd (pv 4) Zb (λ_ _=>rfl)))))))))))),?_⟩;obtain⟨_,_,_,nf,ng,nt,nu⟩:=Nf (j:=4) (.inr (.inr (.inr rfl)));have nR:=Z.na _ ng;have hx14:xs.length<=300:=by rw[rows.1,lm];exact Nat.le_trans hm (by decide)
 obtain⟨hn,dP,kP,hdP,hkP,has⟩:=pg (by decide);have nPt:dP≠t:=ne_of hkP ht (by intro z;cases z);refine Jt Z nf ng rfl rfl ht hfs λH2 d s2 hd0 hdt d2 t2=>?_;have lk:(putF (dJ 4) (.ref d) (putF (Yu 4) (.ref l) fs)).lookup ("group_by_name":Str)=some (.ref d):=MO;have lkP:=(X2 (f:=Yu 4) (g:=dJ 4) (a:=.ref l) (b:=.ref d) (x:="room_by_place") (by decide +kernel) (by decide +kernel)).trans hdP;have lkT:=(X2 (f:=Yu 4) (g:=dJ 4) (a:=.ref l) (b:=.ref d) nt nu).trans hn;have lkO:=Mg (a:=.ref l) (b:=.ref d) nf ng only;refine Vq (j:=4) (λi σ=>∃o3 o4 o5,σ=[some (.ref t),some (.ref l),some (.int ((ts.take i).map ZC).sum),o3,o4,o5]) rfl ht hl hd0 hdt rows ok.nd s2 d2 t2 ⟨_,_,_,rfl⟩ (λi x y kvs H3 σ' D' hx hy ps s3 t3 d3 hkl hv hrow kx=>?_) (λH' σ' kvs s' d' g t'=>k H' d kvs s' hd0 hdt d' g t');obtain⟨o3,o4,o5,rfl⟩:=ps;have ro:=ok.row y (au hy);have hi:i<xs.length:=(aj.mp hx).1;obtain⟨e1,e2⟩:=TV (λq hq=>(ok.row q hq).ma rfl) (ok.sum rfl) hy;rw[e1]at kx;generalize ((ts.take i).map ZC).sum=pp at e2 kx ⊢;refine⟨_,rfl,_,rfl,t,C,dx,_,_,rfl,t3,Z.cl,nR,lk,?_⟩;dsimp only[tNil];refine G9 (j:=4) (.inr (.inr (.inr rfl))) hrow ro d3 hv λH4 s34=>⟨false,rfl,iteF ?_⟩;have hrow4:=hrow.same s34;have hkP4:=s34 _ _ (s3 _ _ hkP nPt);refine⟨_,rfl,_,rfl,_,rfl,?_⟩;dsimp only[tNil];refine Tx (s34 _ _ t3) lkO lkP lkT hkP4 has hrow4 ro e2 ?_;refine⟨_,rfl,_,rfl,_,_,rfl,?_⟩;obtain⟨q,rfl,hq,th⟩:=hrow4;have hm3:atI y 3=some (.int (ZC y)):=by have h:=(ro.why kP (λ_=>has) pp λ_=>e2);obtain⟨a,b,c,m,rfl⟩:=len4 ro.len;obtain⟨i3,e3,_⟩:=(J9 (show Xm kP n pp b c m=.non from h)).2.2;subst e3;exact Zu (j:=3) rfl
 refine⟨_,rfl,_,rfl,t,C,dx,_,_,rfl,s34 _ _ t3,Z.cl,nR,lk,iaT hq (Pe ro) ⟨d,_,rfl,DPut.k (k:=cA (nameOf y)) (s34 _ _ d3) (Jb (by omega)),?_⟩⟩;have hqd:q≠d:=ne_of hq (s34 _ _ d3) (by intro z;cases z);refine⟨_,rfl,iaT (by rw[Zj hqd];exact hq) hm3 ⟨_,_,rfl,rfl,?_⟩⟩;exact kx H4 _ (s3.trans (Zg.of s34)) (s34 _ _ t3) (s34 _ _ d3) ⟨_,_,_,rfl⟩
end
structure Got(H:Hp)(C t dx:Addr)(T:Tb)(xs:Nat->List V)(m:Nat)(fs:List (Str×V))(Hc:Hp):Prop where
 sm:Zg t H Hc
 at_:Hc t=some (.ins C dx fs)
 only:∀g,g∉fields->fs.lookup g=none
 len:fs.length<=1+2*m
 turns:fs.lookup ("turns":Str)=some (.int T.n)
 pt:∀j,isJ j->j<=m->∃l d kvs,fs.lookup (Yu j)=some (.ref l)/\fs.lookup (dJ j)=some (.ref d)/\Hc l=some (.tup (xs j))/\Hc d=some (.dK kvs)/\d≠t/\GD j (T.part j) (xs j) (T.part j).length kvs
def Mt(C:Addr):Sp:=λvs H Q _=>∃(t dx:Addr)(T:Tb)(p:Nat->Addr)(xs:Nat->List V),vs=[.ref t,.int T.n,.ref (p 1),.ref (p 2),.ref (p 3),.ref (p 4)]/\H t=some (.ins C dx [])/\OkTb T /\(∀j,isJ j->(H (p j)=some (.lst (xs j))\/H (p j)=some (.tup (xs j)))/\Y9 H (xs j) ((T.part j).map some))/\∀H',Zg t H H'->Tel H' C t T->Q .non H'
section
variable {P:Program}{w:World}{K:aa}{mg:Str->Option Value}{base:Heap}{C:Addr}{H Hc:Hp}{t dx:Addr}{T:Tb}{p:Nat->Addr}{xs:Nat->List V}{fs:List (Str×V)}
theorem GD.pl{kvs:Kv}{ts:List (List V)}{xs:List V}(hl:xs.length=ts.length)(g:GD 1 ts xs ts.length kvs):PlDict kvs ts:=by refine⟨λy hy=>?_,λz hz=>g.no z (by rw[aV];exact hz)⟩;obtain⟨m,hm⟩:=aU.mp hy;have hlt:=(aj.mp hm).1;exact g.has m y (xs[m]'(by omega)) hlt hm (gE (by omega))
theorem GD.rw{j:Nat}{kvs:Kv}{ts:List (List V)}{xs:List V}(hj:j≠1)(g:GD j ts xs ts.length kvs):RwDict kvs ts xs:=⟨λm y x h1 h2=>by have:=g.has m y x (aj.mp h1).1 h1 h2;rwa [if_neg hj]at this,λz hz=>g.no z (by rw[aV];exact hz)⟩
theorem Um{j:Nat}(hj:isJ j)(o:OkTb T)(ht:H t=some (.ins C dx []))(hp:∀j,isJ j->(H (p j)=some (.lst (xs j))\/H (p j)=some (.tup (xs j)))/\Y9 H (xs j) ((T.part j).map some))(g:Got H C t dx T xs (j-1) fs Hc){Kq:VK}{E E':XK}(k:∀H' fs',Got H C t dx T xs j fs' H'->Kq .non H'):N3 [.str (Yu j),.ref (p j)] Hc (λv H2=>Xv C j [.ref t,v] H2 Kq E) E':=by
 obtain⟨_,m2,_,nf,ng,nt,nu⟩:=Nf hj;obtain⟨hpj,rows⟩:=hp j hj;have hpt:p j≠t:=by rcases hpj with e|e<;>exact ne_of e ht (by intro z;cases z)
 have hx:(xs j).length<=Qm j:=by rw[rows.1,lm];exact(o.part j hj).1
 refine⟨_,_,p j,xs j,rfl,m2,?_,hx,λH1 l s1 hl=>?_⟩
 ·rcases hpj with e|e
  ·exact .inl (g.sm _ _ e hpt)
  ·exact .inr (g.sm _ _ e hpt)
 have sm1:=g.sm.trans (Zg.of s1);have h4:j<=4:=by rcases hj with rfl|rfl|rfl|rfl<;>decide
 have h1:1<=j:=by rcases hj with rfl|rfl|rfl|rfl<;>decide
 have at1:=s1 _ _ g.at_;have htl:l≠t:=ne_of hl at1 (by intro z;cases z);refine⟨t,l,dx,xs j,T.part j,fs,T.n,T.t1,rfl,at1,g.only,by have:=g.len;omega,λnj=>⟨g.turns,?_⟩,hl,rows.sameB ht sm1,o.part j hj,λH' d kvs s' hd0 hdt hd gd tt=>k H' _ ⟨sm1.trans s',tt,Mg nf ng g.only,?_,(X2 nt nu).trans g.turns,λi hi him=>?_⟩⟩
 ·obtain⟨l1,d1,k1,_,e2,_,e4,_,g1⟩:=g.pt 1 (.inl rfl) (by omega);exact⟨d1,k1,e2,s1 _ _ e4,(g1.pl (by rw[(hp 1 (.inl rfl)).2.1,lm])).has⟩
 ·have a1:=Y6 (Yu j) (V.ref l) fs;have a2:=Y6 (dJ j) (V.ref d) (putF (Yu j) (V.ref l) fs);have:=g.len;omega
 ·by_cases e:i=j
  ·subst e;exact⟨l,d,kvs,by rw[Yq,if_neg (WN hj hj).2,Yq,if_pos rfl],MO,s' _ _ hl htl,hd,hdt,gd⟩
  ·obtain⟨l1,d1,k1,e1,e2,e3,e4,n1,g1⟩:=g.pt i hi (by omega);have w1:=WN hi hj;have w2:=WN hj hi;refine⟨l1,d1,k1,(X2 (w1.1 e).1 w1.2).trans e1,(X2 (bD w2.2) (w1.1 e).2).trans e2,s' _ _ (s1 _ _ e3) ?_,s' _ _ (s1 _ _ e4) n1,n1,g1⟩;exact ne_of e3 g.at_ (by intro z;cases z)
theorem Got.tel(hp:∀j,isJ j->Y9 H (xs j) ((T.part j).map some))(ht:H t=some (.ins C dx []))(g:Got H C t dx T xs 4 fs Hc):Tel Hc C t T:=by
 obtain⟨l1,d1,k1,a1,b1,c1,e1,_,g1⟩:=g.pt 1 (.inl rfl) (by decide);obtain⟨l2,d2,k2,a2,b2,c2,e2,_,g2⟩:=g.pt 2 (.inr (.inl rfl)) (by decide);obtain⟨l3,d3,k3,a3,b3,c3,e3,_,g3⟩:=g.pt 3 (.inr (.inr (.inl rfl))) (by decide);obtain⟨l4,d4,k4,a4,b4,c4,e4,_,g4⟩:=g.pt 4 (.inr (.inr (.inr rfl))) (by decide);refine⟨fs,xs 1,xs 2,xs 3,xs 4,(k1,k2,k3,k4),⟨⟨⟨⟨dx,g.at_⟩,g.only⟩,g.turns,⟨l1,d1,_,_,a1,b1,rfl,c1,e1⟩,⟨l2,d2,_,_,a2,b2,rfl,c2,e2⟩,⟨l3,d3,_,_,a3,b3,rfl,c3,e3⟩,⟨l4,d4,_,_,a4,b4,rfl,c4,e4⟩⟩,λr hr ys rs er=>?_⟩,⟨g1.pl (by rw[(hp 1 (.inl rfl)).1,lm];rfl),g2.rw (by decide),g3.rw (by decide),g4.rw (by decide)⟩⟩;rcases hr with rfl|rfl|rfl|rfl
 ·cases er;exact(hp 1 (.inl rfl)).sameB ht g.sm
 ·cases er;exact(hp 2 (.inr (.inl rfl))).sameB ht g.sm
 ·cases er;exact(hp 3 (.inr (.inr (.inl rfl)))).sameB ht g.sm
 ·cases er;exact(hp 4 (.inr (.inr (.inr rfl)))).sameB ht g.sm
end
section
variable {P:Program}{w:World}{K:aa}{mg:Str->Option Value}{base:Heap}{C:Addr}
theorem Kk:FnScope ["self","turns","places","rides","ways","groups"] ["self","turns","places","rides","ways","groups"] (Zd T.m_Table___init__):=scO
theorem K5{f:Addr}{fd:bW}(G:Txt K mg)(Z:TCl K C)(CI:Can P w K mg base 2 "is_within" ["thing","low","high"] K1.Xq)(CRo:Can P w K mg base 1 "rows_of" ["part","rows"] N3)(CP:CanM P w K mg base CX0 6 C "take_places" ["self","places"] (Xv C 1))(CR:CanM P w K mg base CX0 6 C "take_rides" ["self","rides"] (Xv C 2))(CW:CanM P w K mg base CX0 6 C "take_ways" ["self","ways"] (Xv C 3))(CG:CanM P w K mg base CX0 6 C "take_groups" ["self","groups"] (Xv C 4))(F:Fun K "__init__" "Table.__init__" T.m_Table___init__ f fd):FnOk P w K mg base CX0 7 f fd ["self","turns","places","rides","ways","groups"] (Mt C):=by
 refine F.ok Kk (λvs H Q E h=>?_) (λcdv A outer s H vs Q E hr h=>?_)
 ·obtain⟨t,dx,T,p,xs,rfl,_⟩:=h;rfl
 ·obtain⟨t,dx,T,p,xs,rfl,ht,o,hp,k⟩:=h;obtain⟨t1,h1⟩:=G.turns;refine⟨_,Za (ZF (Z9 (ZZ (cn CI hr (Zh (pv 1) (Zh Zb (Zh (Z7 (v:=V.int 50) rfl h1 ⟨t1,rfl⟩) Zk)))))) (Ze Je) Zr) (Za (Xb (pv 0) (pv 1) rfl) (Za (Yg (YH CP Z.cl Ys hr (pv 0) (Zh (cn CRo hr (Zh ZH (Zh (pv 2) Zk))) Zk))) (Za (Yg (YH CR Z.cl Ys hr (pv 0) (Zh (cn CRo hr (Zh ZH (Zh (pv 3) Zk))) Zk))) (Za (Yg (YH CW Z.cl Ys hr (pv 0) (Zh (cn CRo hr (Zh ZH (Zh (pv 4) Zk))) Zk))) (Ze (Yg (YH CG Z.cl Ys hr (pv 0) (Zh (cn CRo hr (Zh ZH (Zh (pv 5) Zk))) Zk)))))))),?_⟩;have hw:K1.Zx (.int T.n) 1 50=true:=by show(decide (1<=T.n)&&decide (T.n<=50))=true;simp[o.n0,o.n1]
  refine⟨_,rfl,.int T.n,_,1,50,rfl,.int _,_,rfl,?_⟩;rw[hw];refine iteF ?_;refine⟨_,rfl,_,rfl,t,C,dx,_,rfl,ht,Z.cl,Z.na _ (by simp[fields]),by decide,?_⟩;have g0:Got H C t dx T xs 0 (putF "turns" (.int T.n) []) (upd H t (.ins C dx (putF "turns" (.int T.n) []))):=⟨(Zg.refl t H).upd,Zf,λg hg=>by rw[Yq,if_neg (λz=>hg (by rw[z];simp[fields]))];rfl,Nat.le_refl _,by rw[Yq,if_pos rfl],λj hj h0=>by rcases hj with rfl|rfl|rfl|rfl<;>cases h0⟩
  generalize upd H t (.ins C dx (putF "turns" (.int T.n) []))=H0 at g0 ⊢;generalize putF "turns" (.int T.n) []=F0 at g0;refine mthV g0.at_ (g0.only _ (by decide +kernel)) ?_;refine⟨_,rfl,?_⟩;dsimp only[tNil];refine Um (j:=1) (.inl rfl) o ht hp g0 λH1 F1 g1=>?_;refine mthV g1.at_ (g1.only _ (by decide +kernel)) ?_;refine⟨_,rfl,?_⟩;dsimp only[tNil];refine Um (j:=2) (.inr (.inl rfl)) o ht hp g1 λH2 F2 g2=>?_;refine mthV g2.at_ (g2.only _ (by decide +kernel)) ?_;refine⟨_,rfl,?_⟩;dsimp only[tNil];refine Um (j:=3) (.inr (.inr (.inl rfl))) o ht hp g2 λH3 F3 g3=>?_;refine mthV g3.at_ (g3.only _ (by decide +kernel)) ?_;refine⟨_,rfl,?_⟩;dsimp only[tNil];refine Um (j:=4) (.inr (.inr (.inr rfl))) o ht hp g3 λH4 F4 g4=>?_;exact k H4 g4.sm (g4.tel (λj hj=>(hp j hj).2) ht)
structure TMkG(P:Program)(w:World)(K:aa)(mg:Str->Option Value)(base:Heap)(C:Addr):Prop where
 made:∃f fd,Mk K C f/\FnOk P w K mg base CX0 7 f fd ["self","turns","places","rides","ways","groups"] (Mt C)/\Binds K fd ["self","turns","places","rides","ways","groups"] []
 mg:mg "Table"=some (.ref C)
noncomputable def four{α:Type}(z a b c d:α):Nat->α
|1=>a|2=>b|3=>c|4=>d|_=>z
theorem ND{H:Hp}{T:Tb}(o:OkTb T){l1 l2 l3 l4:Addr}{x1 x2 x3 x4:List V}(h1:H l1=some (.lst x1))(h2:H l2=some (.lst x2))(h3:H l3=some (.lst x3))(h4:H l4=some (.lst x4))(r1:Y9 H x1 (T.t1.map some))(r2:Y9 H x2 (T.t2.map some))(r3:Y9 H x3 (T.t3.map some))(r4:Y9 H x4 (T.t4.map some)){Qx:Addr->Hp->Prop}{E:XK}(k:∀H' x,Same H H'->H x=none->Tel H' C x T->Qx x H'):∀x dx,H x=none->H dx=none->dx≠x->Mt C [.ref x,.int T.n,.ref l1,.ref l2,.ref l3,.ref l4] (upd (upd H dx (.own x)) x (.ins C dx [])) (λv H'=>v=.non/\Qx x H') E:=λx dx hx hdx hne=>by
 have sm:Same H (upd (upd H dx (.own x)) x (.ins C dx [])):=sameNew (o:=.ins C dx []) (sameNew (o:=.own x) (Same.refl H) hdx) (by rw[Zj (bD hne)];exact hx);refine⟨x,dx,T,four 0 l1 l2 l3 l4,four [] x1 x2 x3 x4,rfl,Zf,o,λj hj=>?_,λH' s tl=>⟨rfl,k H' x (λc u e=>?_) hx tl⟩⟩
 ·rcases hj with rfl|rfl|rfl|rfl
  ·exact⟨.inl (sm _ _ h1),r1.same sm⟩
  ·exact⟨.inl (sm _ _ h2),r2.same sm⟩
  ·exact⟨.inl (sm _ _ h3),r3.same sm⟩
  ·exact⟨.inl (sm _ _ h4),r4.same sm⟩
 ·exact s c u (sm c u e) (Zi e hx)
end
theorem WV{k:Int}(hk:0<=k):∀{t:List (List V)},(∀y∈t,ZC y<=k)->(t.map ZC).sum<=k*t.length
|[],_=>by simp
|y::t,h=>by have:=WV hk (t:=t) λx hx=>h x (av _ hx);have h1:=h y aE;rw[ar,bQ,aW];push_cast;rw[Int.mul_add];omega
structure Wd(T:Tb):Prop where
 n12:T.n<=12
 p2:2<=T.t1.length
 p9:T.t1.length<=9
 g8:T.t4.length<=8
 qq:∀y∈T.t4,nameOf y≠"q.q"
theorem Pq{nm:List Str}{R:List (List V)}(nd:nm.Nodup)(e:R.map nameOf=nm.take R.length):(R.map nameOf).Nodup:=e▸nd.sublist (List.take_sublist _ _)
theorem Mf{nm:List Str}{R:List (List V)}(e:R.map nameOf=nm.take R.length){y:List V}(h:y∈R):nameOf y∈nm:=c7 (e▸af.mpr ⟨y,h,rfl⟩)
theorem K4{n:Int}{ps:Pl}(px:PlX ps)(hn1:1<=n)(hn2:n<=12){nm:Nat->List Str}{R:Nat->List (List V)}(h:∀j,j<3->(R j).length<=20/\(nm j).Nodup/\(∀t∈nm j,NmOk j t)/\RowsX j n (ps.map (·.1)) ((ps.filter λp=>p.2.isSome).map (·.1)) (nm j) (R j))(h8:(R 2).length<=8):OkTb ⟨n,ps.map plRow,R 0,R 1,R 2⟩/\Wd ⟨n,ps.map plRow,R 0,R 1,R 2⟩:=by
 obtain⟨l0,d0,x0,r0⟩:=h 0 (by decide);obtain⟨l1,d1,x1,r1⟩:=h 1 (by decide);obtain⟨l2,d2,x2,r2⟩:=h 2 (by decide);have sh:∀{t:Str},Nx t->t.length<=1000:=λh=>by have:=h.1;rw[Z1]at this;omega
 have gp:∀p∈ps,p.1.length<=1000:=λp hp=>sh (px.nx p hp);have tm:∀t∈ps.map (·.1),∃r,(t,r)∈ps:=λt ht=>by obtain⟨p,hp,rfl⟩:=af.mp ht;exact⟨p.2,hp⟩
 have hss:∀t∈(ps.filter λp=>p.2.isSome).map (·.1),∃i,(t,some i)∈ps:=λt ht=>by obtain⟨p,hp',rfl⟩:=af.mp ht;obtain⟨m1,m2⟩:=a7.mp hp';obtain⟨i,hi⟩:=cy.mp m2;exact⟨i,by rw[<-hi];exact m1⟩
 refine⟨⟨hn1,by show n<=50;omega,λj hj=>?_⟩,⟨by show n<=12;omega,by show 2<=(ps.map plRow).length;rw[lm];exact px.lo,by show(ps.map plRow).length<=9;rw[lm];exact px.hi,h8,λy hy z=>HV ?_⟩⟩
 ·rcases hj with rfl|rfl|rfl|rfl
  ·refine⟨by show(ps.map plRow).length<=14;rw[lm];have:=px.hi;omega,⟨?_,λys hy=>?_,λz=>by cases z⟩⟩
   ·show((ps.map plRow).map nameOf).Nodup;rw[bA];exact px.nd
   ·obtain⟨p,hp,rfl⟩:=af.mp hy;exact HI (K9 (px.nx p hp)) (px.rm p hp)
  ·refine⟨by show(R 0).length<=80;omega,⟨Pq d0 r0.names,λys hy=>?_,λz=>by cases z⟩⟩;obtain⟨r,e,en,h2⟩:=(r0.ok ys hy).1 rfl;have hn:=x0 _ (Mf r0.names hy);rw[<-en]at hn;subst e;exact HE gp ⟨⟨hss _ h2.st,tm _ h2.gl,h2.ne⟩,h2.lv0,h2.lv1,h2.cm0,h2.cm1,h2.se0,h2.se1⟩ (K9 hn)
  ·refine⟨by show(R 1).length<=40;omega,⟨Pq d1 r1.names,λys hy=>?_,λz=>by cases z⟩⟩;obtain⟨r,e,en,h2⟩:=(r1.ok ys hy).2.1 rfl;have hn:=x1 _ (Mf r1.names hy);rw[<-en]at hn;subst e;exact Hn gp ⟨⟨hss _ h2.st,tm _ h2.gl,h2.ne⟩,h2.lo0,h2.lo1,h2.wi0,h2.wi1⟩ (K9 hn)
  ·refine⟨by show(R 2).length<=300;omega,⟨Pq d2 r2.names,λys hy=>?_,λ_=>?_⟩⟩
   ·obtain⟨r,e,en,h2⟩:=(r2.ok ys hy).2.2 rfl;have hn:Gx _:=x2 _ (Mf r2.names hy);rw[<-en]at hn;subst e;obtain⟨x,hx⟩:=tm _ h2.pl;obtain⟨p,hp,ep⟩:=af.mp h2.pl;obtain⟨u,z,hu,hz,ez⟩:=hn;exact HX (v:=.non) ⟨plRow (r.pl,x),af.mpr ⟨_,hx,rfl⟩,rfl⟩ (ep▸gp p hp) h2.tu0 h2.tu1 h2.ma0 (by have:=h2.ma1;omega) (by rw[ez];exact FW hu hz)
   ·show((R 2).map ZC).sum<=300;have:=WV (k:=4) (by decide) (t:=R 2) λy hy=>by obtain⟨r,e,_,h2⟩:=(r2.ok y hy).2.2 rfl;subst e;exact h2.ma1
    omega
 ·have:Gx (nameOf y):=x2 _ (Mf r2.names hy);rwa [z]at this
structure WAt(H:Hp)(pw:Addr)(T:Tb)(l1 l2 l3 l4:Addr):Prop where
 at_:H pw=some (.tup [.int T.n,.ref l1,.ref l2,.ref l3,.ref l4])
 r1:RowsL H l1 T.t1
 r2:RowsL H l2 T.t2
 r3:RowsL H l3 T.t3
 r4:RowsL H l4 T.t4
theorem WAt.same{H H':Hp}{pw l1 l2 l3 l4:Addr}{T:Tb}(s:Same H H')(h:WAt H pw T l1 l2 l3 l4):WAt H' pw T l1 l2 l3 l4:=⟨s _ _ h.at_,h.r1.same s,h.r2.same s,h.r3.same s,h.r4.same s⟩
def R7(K:aa):Sp:=λvs H Q _=>∃(a:Addr)(zs:List Int)(fi:Nat)(mo:Int),vs=[.ref a,.int (fi:Nat),.int mo]/\SqL K H a (zs.map V.int)/\zs.length<=1000/\fi<=99/\0<=mo/\mo<=100 /\∀H' pw l1 l2 l3 l4 T,Same H H'->WAt H' pw T l1 l2 l3 l4->OkTb T->Wd T->Q (.ref pw) H'
section
variable {P:Program}{w:World}{K:aa}{mg:Str->Option Value}{base:Heap}
theorem Yo:FnScope ["_law_script","_law_first","_law_most",q_b,"_law_wide","_law_turns",q_p,"_law_rides","_law_ways","_law_groups"] ["_law_script","_law_first","_law_most"] (Zd T.f__law_world):=scO
theorem RK(B:∀x∈Blts,mg x=none)(CC:Can P w K mg base 1 "_law_cell" ["_law_script","_law_k"] (N8 K))(CB:Can P w K mg base 1 "_law_box" ["_law_cell_here"] Sn)(CT:Can P w K mg base 1 "_law_take" [q_b,"_law_many"] Y2)(CP:Can P w K mg base 3 "_law_places" [q_b,"_law_wide"] P0)(CR:Can P w K mg base 3 "_law_rows" ["_law_script","_law_first","_law_most","_law_turns",q_p] (Sl K))(D:Df K mg "_law_world" T.f__law_world ["_law_script","_law_first","_law_most"]):Can P w K mg base 4 "_law_world" ["_law_script","_law_first","_law_most"] (R7 K):=by
 refine D.cn Yo λf cdv A outer s H vs Q E hr h=>?_;obtain⟨a,zs,fi,mo,rfl,hS,hzl,fi1,mo0,mo1,k⟩:=h;refine' ⟨_,(@Za _ _ _ _ _ ?h3 (@Za _ _ _ _ _ ?h4 (@Za _ _ _ _ _ ?h5 (@Za _ _ _ _ _ ?h6 (@Za _ _ _ _ _ ?h7 (@Ze _ _ _ ?h8)))))),?rd⟩;case' h8=>refine' (Zn ?h2)
 case' h7=>refine' (X0 (cn CR hr (@Zc _ _ _ _ _ (pv 0) (@Zc _ _ _ _ _ (Zp ZG (pv 1) Zb) (@pa3 _ _ _ _ _ _ _ (pv 2) (pv 5) (pv 6) (by rfl)) (by rfl)) (by rfl))) (EZ rfl (Zl (nmT 7 Yo.nd) (Zl (nmT 8 Yo.nd) (Zl (nmT 9 Yo.nd) Z0)))))
 case' h6=>refine' (@st _ _ _ _ 6 _ _ Yo.nd (cn CP hr (@pa2 _ _ _ _ _ (pv 3) (pv 4) (by rfl))) (by rfl) (by exact aK rfl) (by rfl) (by exact .inl rfl))
 case' h5=>refine' (@st _ _ _ _ 5 _ _ Yo.nd (Zp ZG Zb (cn CT hr (@pa2 _ _ _ _ _ (pv 3) ?h1 (by rfl)))) (by rfl) (by exact aK rfl) (by rfl) (by exact .inl rfl))
 case' h4=>refine' (@st _ _ _ _ 4 _ _ Yo.nd (Yi GU rfl (bm B) PK (@pa1 _ _ _ (@Yp _ _ _ _ _ _ _ _ Xd (cn CT hr (@pa2 _ _ _ _ _ (pv 3) Zb (by rfl))) Zb (ZA _)) (by rfl))) (by rfl) (by exact aK rfl) (by rfl) (by exact .inl rfl))
 case' h3=>refine' (@st _ _ _ _ 3 _ _ Yo.nd (cn CB hr (@pa1 _ _ _ (cn CC hr (@pa2 _ _ _ _ _ (pv 0) (pv 1) (by rfl))) (by rfl))) (by rfl) (by exact aK rfl) (by rfl) (by exact .inl rfl))
 case' h2=>refine' (@Zw _ _ _ _ _ (@Zc _ _ _ _ _ (pv 5) (@Zc _ _ _ _ _ (pv 6) (@pa3 _ _ _ _ _ _ _ (pv 7) (pv 8) (pv 9) (by rfl)) (by rfl)) (by rfl)))
 case' h1=>refine' (@il _ _ _ _ _ _ K (@Zz _ _ _ _ (@Jy _ _ (by decide +kernel))) (pv 4) (by rfl) (by exact λ_ _=>rfl))
 case' rd=>
 refine⟨_,rfl,_,rfl,a,zs,fi,rfl,hS,hzl,by omega,λc=>⟨c,rfl,λb H1 hb0 B1 S1=>?_⟩⟩;dsimp only[Zt,az];refine tkC B1 (λrb H2 rb0 rb1 B2 S2=>?_);refine⟨rfl,.inr ⟨_,rfl,?_⟩⟩;generalize decide (V.int rb=V.int 0)=g;dsimp only[Zt,az];refine⟨_,rfl,(zl),λl3 hl3=>?_⟩;refine⟨_,rfl,l3,_,_,_,rfl,rfl,SqL.of Zf,Tv,b,_,rfl,B2.new hl3,(by cases g<;>decide),ZT (by cases g<;>decide) (by cases g<;>decide),λt0 H4 t00 t01 B4 S4=>?_⟩;have ht12:t0<12:=by cases g<;>simp at t01<;>omega
 refine⟨_,_,rfl,rfl,?_⟩;have S14:Zg b H1 H4:=(S2.new' hl3).trans S4;clear S2 S4 B2 hl3 t01;dsimp only[Zt,az];obtain⟨n,hn⟩:∃n,n=1+t0:=⟨_,rfl⟩;rw[<-hn];refine⟨_,rfl,_,rfl,b,g,rfl,B4,λH5 lp ps B5 S5 fp ra px=>?_⟩;have SH5:Same H H5:=Ye hb0 S1 (S14.trans S5);dsimp only[Zt,az];refine⟨_,rfl,_,rfl,_,_,rfl,rfl,_,rfl,_,rfl,_,rfl,?_⟩;refine⟨a,lp,zs,fi+1,mo,n,ps,rfl,hS.same SH5,hzl,by omega,mo0,mo1,by omega,by omega,ra.free,px,λH6 q L nm R S6 eq hR h8=>?_⟩;refine⟨q,_,rfl,SqL.of eq,rfl,?_⟩;refine⟨_,_,rfl,_,_,rfl,_,_,rfl,rfl,?_⟩;dsimp only[Zt,az];refine⟨_,rfl,_,rfl,_,rfl,_,rfl,_,rfl,(zl),λpw hpw=>?_⟩;have ok:=K4 px (n:=n) (by omega) (by omega) (nm:=nm) (R:=R) (λj hj=>(hR j hj).2) h8;have S7:Same H6 (upd H6 pw (.tup [.int n,.ref lp,.ref (L 0),.ref (L 1),.ref (L 2)])):=sameNew (Same.refl _) hpw;exact k _ pw lp (L 0) (L 1) (L 2) ⟨n,ps.map plRow,R 0,R 1,R 2⟩ ((SH5.trans S6).trans S7) ⟨Zf,ra.free.same (S6.trans S7),(hR 0 (by decide)).1.same S7,(hR 1 (by decide)).1.same S7,(hR 2 (by decide)).1.same S7⟩ ok.1 ok.2
end
theorem RowsL.part{H:Hp}{l:Addr}{rows:List (List V)}(h:RowsL H l rows)(hf:∀ys∈rows,∀y∈ys,Flat y):∃xs:List V,H l=some (.lst xs)/\Y9 H xs (rows.map some):=by
 obtain⟨as,e,hl,r⟩:=h;refine⟨as.map V.ref,e,by simp[hl],λi x r' e1 e2=>?_⟩;rw[aJ]at e1 e2;obtain⟨a,ha,rfl⟩:=bY.mp e1;obtain⟨y,hy,rfl⟩:=bY.mp e2;exact⟨a,rfl,r i a y ha hy,λv hv=>by
  rcases hf y (au hy) v hv with rfl|⟨i,rfl⟩|⟨z,rfl,hz⟩
  ·exact⟨_,.non⟩
  ·exact⟨_,.int i⟩
  ·exact⟨_,.str z hz⟩⟩
def W9(C:Addr):Sp:=λvs H Q _=>∃(pw l1 l2 l3 l4:Addr)(T:Tb),vs=[.ref pw]/\WAt H pw T l1 l2 l3 l4/\OkTb T/\∀H' t,Same H H'->Tel H' C t T->Q (.ref t) H'
section
variable {P:Program}{w:World}{K:aa}{mg:Str->Option Value}{base:Heap}{C:Addr}
theorem P7:FnScope [q_w] [q_w] (Zd T.f__law_made):=scO
theorem WA(B:∀x∈Blts,mg x=none)(M:TMkG P w K mg base C)(D:Df K mg "_law_made" T.f__law_made [q_w]):Can P w K mg base 9 "_law_made" [q_w] (W9 C):=by obtain⟨fm,fdm,hM,FM,bM⟩:=M.made;refine D.cn P7 λf cdv A outer s H vs Q E hr h=>?_;obtain⟨pw,l1,l2,l3,l4,T,rfl,tb,ok,k⟩:=h;refine⟨_,(Ze (Zn (Ug hM FM hr rfl M.mg bM .nil Ys (Zc (it K (pv 0) Zb) (Zc (Yi Xx rfl (bm B) JI (Zc (it K (pv 0) Zb) Zk)) (Zc (Yi Xx rfl (bm B) JI (Zc (it K (pv 0) Zb) Zk)) (Zc (Yi Xx rfl (bm B) JI (Zc (it K (pv 0) Zb) Zk)) (Zc (Yi Xx rfl (bm B) JI (Zc (it K (pv 0) Zb) Zk)) Zk)))))))),?_⟩;obtain⟨x1,h1,r1⟩:=tb.r1.part (ok.flat (.inl rfl));obtain⟨x2,h2,r2⟩:=tb.r2.part (ok.flat (.inr (.inl rfl)));obtain⟨x3,h3,r3⟩:=tb.r3.part (ok.flat (.inr (.inr (.inl rfl))));obtain⟨x4,h4,r4⟩:=tb.r4.part (ok.flat (.inr (.inr (.inr rfl))));refine ixT 0 tb.at_ rfl (ixT 1 tb.at_ rfl ⟨l1,x1,rfl,.inl (SqL.of h1),λq1 n1=>?_⟩);dsimp only;refine nl2 n1 λH1 S1 e1=>?_;refine ixT 2 (S1 _ _ tb.at_) rfl ⟨l2,x2,rfl,.inl (SqL.of (S1 _ _ h2)),λq2 n2=>?_⟩;dsimp only;refine nl2 n2 λH2 S2 e2=>?_;have S02:=S1.trans S2;refine ixT 3 (S02 _ _ tb.at_) rfl ⟨l3,x3,rfl,.inl (SqL.of (S02 _ _ h3)),λq3 n3=>?_⟩;dsimp only;refine nl2 n3 λH3 S3 e3=>?_;have S03:=S02.trans S3;refine ixT 4 (S03 _ _ tb.at_) rfl ⟨l4,x4,rfl,.inl (SqL.of (S03 _ _ h4)),λq4 n4=>?_⟩;dsimp only[tNil];have S4:Same H3 (upd H3 q4 (.lst x4)):=sameNew (Same.refl _) n4;have e4:upd H3 q4 (.lst x4) q4=some (.lst x4):=Zf;generalize upd H3 q4 (.lst x4)=H4 at S4 e4 ⊢;have S04:=S03.trans S4;have S24:=S3.trans S4;simp only[br];exact ND ok ((S2.trans S24) _ _ e1) (S24 _ _ e2) (S4 _ _ e3) e4 (r1.same S04) (r2.same S04) (r3.same S04) (r4.same S04) λH5 t S5 ht tel=>k _ t (S04.trans S5) tel
end
end WD
namespace TB
open PySem L2 PySem.Spec PyProof.Rows WD
section
variable {P:Program}{w:World}{K:aa}{mg:Str->Option Value}{base:Heap}{C Cn:Addr}
theorem P9:FnScope ["self","thing"] ["self","thing"] (Zd T.m_Table_is_group):=scO
theorem PF(Z:TCl K C)(D:DfM K C "is_group" "Table.is_group" T.m_Table_is_group ["self","thing"])(CK:Can P w K mg base 1 "is_known" ["thing","names"] N6):CanM P w K mg base CX0 2 C "is_group" ["self","thing"] (GX C "group_by_name"):=by refine D.cn P9 λf cdv A outer s H vs Q E hr h=>?_;obtain⟨t,x,T',fs,d,kvs,rfl,⟨⟨dx,ht⟩,_⟩,hl,hd,th,k⟩:=h;refine⟨_,Ze (Zn (YG CK hr rfl (Zh (pv 1) (Zh (Z2 (pv 0) rfl) Zk)))),?_⟩;exact⟨_,rfl,_,rfl,t,C,dx,fs,_,rfl,ht,Z.cl,Z.na _ (by simp[fields]),hl,x,T',d,kvs,rfl,th,hd,k⟩
end
end TB
namespace SX
open PySem L2 PySem.Spec PyProof.Rows TB WD
noncomputable def sA(ys:List V)(j:Nat):Str:=match at_ ys j with|.str z=>z|_=>""
noncomputable def iA(ys:List V)(j:Nat):Int:=match at_ ys j with|.int i=>i|_=>0
structure Sx where
 key:List Key
 tail:PyData
 head:PyData
 room:V
 price:Int
noncomputable def outS(y:List V)(i:Int):Sx:=⟨[.inr "out",.inr (nameOf y),.inl i],.str (nameOf y),.tuple [.str (sA y 1),.int i],.non,0⟩
noncomputable def XA(y:List V):Sx:=⟨[.inr "ride",.inr (nameOf y)],.tuple [.str (sA y 1),.int (iA y 2)],.tuple [.str (sA y 3),.int (iA y 4)],.int (iA y 5),iA y 4-iA y 2⟩
noncomputable def V8(y:List V)(i:Int):Sx:=⟨[.inr "walk",.inr (nameOf y),.inl i],.tuple [.str (sA y 1),.int i],.tuple [.str (sA y 2),.int (i+iA y 3)],.int (iA y 4),iA y 3⟩
noncomputable def VC(y:List V)(i:Int):Sx:=⟨[.inr "wait",.inr (nameOf y),.inl i],.tuple [.str (nameOf y),.int i],.tuple [.str (nameOf y),.int (i+1)],at_ y 1,1⟩
def V6(T:Tb)(vs:List V)(j:Nat)(S:Sx):Prop:=(∃y∈T.t4,∃i,vs=[.str "out",.str (nameOf y),.int i]/\iA y 2<=i/\i<=T.n/\j=0/\S=outS y i) \/(∃y∈T.t2,vs=[.str "ride",.str (nameOf y)]/\j=1/\S=XA y) \/(∃y∈T.t3,∃i,vs=[.str "walk",.str (nameOf y),.int i]/\0<=i/\i<=T.n-iA y 3/\j=2/\S=V8 y i) \/∃y∈T.t1,∃i,vs=[.str "wait",.str (nameOf y),.int i]/\at_ y 1≠.non/\0<=i/\i<=T.n-1/\j=3/\S=VC y i
theorem V6.key{T:Tb}{vs:List V}{j:Nat}{S:Sx}(h:V6 T vs j S):vs=S.key.map kV/\j<4:=by rcases h with⟨y,_,i,e,_,_,rfl,rfl⟩|⟨y,_,e,rfl,rfl⟩|⟨y,_,i,e,_,_,rfl,rfl⟩|⟨y,_,i,e,_,_,_,rfl,rfl⟩<;>exact⟨e,by decide⟩
theorem NB{t:List (List V)}(h:(t.map nameOf).Nodup){y z:List V}(hy:y∈t)(hz:z∈t)(e:nameOf y=nameOf z):y=z:=by
 induction t with
|nil=>cases hy
|cons a t ih=>
  rw[ar,bB]at h;rcases ao.mp hy with rfl|hy'<;>rcases ao.mp hz with rfl|hz'
  ·rfl
  ·exact absurd (e▸af.mpr ⟨z,hz',rfl⟩) h.1
  ·exact absurd (e▸af.mpr ⟨y,hy',rfl⟩) h.1
  ·exact ih h.2 hy' hz'
theorem NA{T:Tb}(o:OkTb T){j:Nat}(hj:isJ j):((T.part j).map nameOf).Nodup:=(o.part j hj).2.nd
theorem WM:("out":Str)≠"walk"/\("out":Str)≠"wait"/\("walk":Str)≠"wait"/\("out":Str)≠"ride"/\("walk":Str)≠"ride"/\("wait":Str)≠"ride":=by decide +kernel
noncomputable def flds(vk vt vh vr vp:V):List (Str×V):=[("its_key",vk),("its_tail",vt),("its_head",vh),("its_room",vr),("its_price",vp)]
def X7(H:Hp)(Cs:Nat->Addr)(x:Addr)(j:Nat)(S:Sx):Prop:=∃dx k vt vh,H x=some (.ins (Cs j) dx (flds (.ref k) vt vh S.room (.int S.price)))/\H k=some (.tup (S.key.map kV))/\Is H vt S.tail/\Is H vh S.head
theorem X7.same{H H':Hp}{Cs:Nat->Addr}{x:Addr}{j:Nat}{S:Sx}(s:Same H H')(h:X7 H Cs x j S):X7 H' Cs x j S:=by obtain⟨dx,k,vt,vh,h1,h2,h3,h4⟩:=h;exact⟨dx,k,vt,vh,s _ _ h1,s _ _ h2,h3.same s,h4.same s⟩
noncomputable def fnames:List Str:=["its_key","its_tail","its_head","its_room","its_price"]
structure SCl(K:aa)(C:Addr):Prop where
 cl:Cls K C
 na:∀f∈fnames,JK K C f
def R8(K:aa):Sp:=λvs H Q _=>∃(x C dx:Addr)(vk vt vh vr vp:V),vs=[.ref x,vk,vt,vh,vr,vp]/\SCl K C/\H x=some (.ins C dx [])/\Q .non (upd H x (.ins C dx (flds vk vt vh vr vp)))
structure CanB(P:Program)(w:World)(K:aa)(mg:Str->Option Value)(base:Heap)(Cb:Addr):Prop where
 at_:∃f fd,FnOk P w K mg base CX0 1 f fd ["self","key","tail","head","room","price"] (R8 K)/\BaseM K Cb "__init__" f/\Binds K fd ["self","key","tail","head","room","price"] []
 mg:mg "Step"=some (.ref Cb)
structure SMk(P:Program)(w:World)(K:aa)(mg:Str->Option Value)(base:Heap)(x:Str)(C:Addr)(ps:List Str)(sp:Sp):Prop where
 made:∃f fd,Mk K C f/\FnOk P w K mg base CX0 2 f fd ps sp/\Binds K fd ps []
 mg:mg x=some (.ref C)
def spMk(K:aa)(Cs:Nat->Addr)(j:Nat)(rd:List V->List V->Sx->Prop):Sp:=λvs H Q _=>∃(x dx r:Addr)(y:List V)(us:List V)(S:Sx),vs=.ref x::.ref r::us/\SCl K (Cs j)/\H x=some (.ins (Cs j) dx [])/\H r=some (.tup y)/\rd y us S /\∀H',Zg x H H'->X7 H' Cs x j S->Q .non H'
def Ra(y us:List V)(S:Sx):Prop:=∃a b c d e f,y=[.str a,.str b,.int c,.str d,.int e,.int f]/\us=[]/\S=XA y
def Q8(y us:List V)(S:Sx):Prop:=∃a b c d e i,y=[.str a,.str b,.str c,.int d,.int e]/\us=[.int i]/\S=V8 y i
def Q9(y us:List V)(S:Sx):Prop:=∃a b i,y=[.str a,b]/\us=[.int i]/\S=VC y i
theorem nof{K:aa}{C:Addr}(Z:SCl K C){f:Str}(h:f∈fnames):JK K C f:=Z.na f h
mutual
theorem Pw{H:Hp}{x:Addr}{o:HO}(hx:∀xs,H x≠some (.lst xs)/\H x≠some (.tup xs)):∀{v:V}{d:PyData},Is H v d->Is (upd H x o) v d
|_,_,.non=>.non
|_,_,.bl b=>.bl b
|_,_,.int i=>.int i
|_,_,.str z=>.str z
|_,_,.lst e r=>.lst (by rw[Zj (λz=>(hx _).1 (z▸e))];exact e) (UY hx r)
|_,_,.tup e r=>.tup (by rw[Zj (λz=>(hx _).2 (z▸e))];exact e) (UY hx r)
theorem UY{H:Hp}{x:Addr}{o:HO}(hx:∀xs,H x≠some (.lst xs)/\H x≠some (.tup xs)):∀{v:List V}{d:List PyData},IsAll H v d->IsAll (upd H x o) v d
|_,_,.nil=>.nil
|_,_,.cons h r=>.cons (Pw hx h) (UY hx r)
end
theorem NX{H:Hp}{Cs:Nat->Addr}{x dx k:Addr}{j:Nat}{S:Sx}{vt vh:V}{fs:List (Str×V)}(hx:H x=some (.ins (Cs j) dx fs))(hk:H k=some (.tup (S.key.map kV)))(ht:Is H vt S.tail)(hh:Is H vh S.head):X7 (upd H x (.ins (Cs j) dx (flds (.ref k) vt vh S.room (.int S.price)))) Cs x j S:=by have kp:∀{v:V}{d:PyData},Is H v d->Is (upd H x (.ins (Cs j) dx (flds (.ref k) vt vh S.room (.int S.price)))) v d:=λh=>Pw (λxs=>⟨(λz=>by rw[hx]at z;cases z),(λz=>by rw[hx]at z;cases z)⟩) h;exact⟨dx,k,vt,vh,Zf,by rw[Zj (ne_of hk hx (by intro z;cases z))];exact hk,kp ht,kp hh⟩
theorem pfl{f:Str}{v:V}{fs:List (Str×V)}{n:Nat}(h:fs.length<n):(putF f v fs).length<n+1:=by have:=Y6 f v fs;omega
theorem small{n:Nat}(h:n<10):n<1000:=by omega
section
variable {P:Program}{w:World}{K:aa}{mg:Str->Option Value}{base:Heap}{Cb:Addr}{Cs:Nat->Addr}
theorem US:FnScope ["self","key","tail","head","room","price"] ["self","key","tail","head","room","price"] (Zd T.m_Step___init__):=scO
theorem K6{f:Addr}{fd:bW}(F:Fun K "__init__" "Step.__init__" T.m_Step___init__ f fd):FnOk P w K mg base CX0 1 f fd ["self","key","tail","head","room","price"] (R8 K):=by
 refine F.ok US (λvs H Q E h=>?_) (λcdv A outer s H vs Q E hr h=>?_)
 ·obtain⟨x,C,dx,vk,vt,vh,vr,vp,rfl,_⟩:=h;rfl
 ·obtain⟨x,C,dx,vk,vt,vh,vr,vp,rfl,Z,hx,k⟩:=h;refine⟨_,(Za (Xb (pv 0) (pv 1) rfl) (Za (Xb (pv 0) (pv 2) rfl) (Za (Xb (pv 0) (pv 3) rfl) (Za (Xb (pv 0) (pv 4) rfl) (Ze (Xb (pv 0) (pv 5) rfl)))))),?_⟩;refine⟨_,rfl,_,rfl,x,C,dx,_,rfl,hx,Z.cl,nof Z (by decide +kernel),by decide,?_⟩;refine⟨_,rfl,_,rfl,x,C,dx,_,rfl,Zf,Z.cl,nof Z (by decide +kernel),small (n:=_) (pfl (Nat.zero_lt_succ 8)),?_⟩;refine⟨_,rfl,_,rfl,x,C,dx,_,rfl,Zf,Z.cl,nof Z (by decide +kernel),small (n:=_) (pfl (pfl (Nat.zero_lt_succ 7))),?_⟩;refine⟨_,rfl,_,rfl,x,C,dx,_,rfl,Zf,Z.cl,nof Z (by decide +kernel),small (n:=_) (pfl (pfl (pfl (Nat.zero_lt_succ 6)))),?_⟩;refine⟨_,rfl,_,rfl,x,C,dx,_,rfl,Zf,Z.cl,nof Z (by decide +kernel),small (n:=_) (pfl (pfl (pfl (pfl (Nat.zero_lt_succ 5))))),?_⟩;simp only[L7];exact k
theorem Xj:FnScope ["self","row","leave","come"] ["self","row"] (Zd T.m_Ride___init__):=scO
theorem Dy{f:Addr}{fd:bW}(CB:CanB P w K mg base Cb)(F:Fun K "__init__" "Ride.__init__" T.m_Ride___init__ f fd):FnOk P w K mg base CX0 2 f fd ["self","row"] (spMk K Cs 1 Ra):=by
 obtain⟨f1,fd1,F1,b1,bd1⟩:=CB.at_;refine F.ok Xj (λvs H Q E h=>?_) (λcdv A outer s H vs Q E hr h=>?_)
 ·obtain⟨x,dx,r,y,us,S,rfl,_,_,_,⟨_,_,_,_,_,_,_,rfl,_⟩,_⟩:=h;rfl
 ·obtain⟨x,dx,r,y,us,S,rfl,Z,hx,hy,⟨a,b,c,d,e,g,rfl,rfl,rfl⟩,k⟩:=h;refine' ⟨_,(@Za _ _ _ _ _ ?h10 (@Za _ _ _ _ _ ?h11 (@Ze _ _ _ ?h12))),?rd⟩;case' h12=>refine' (Yg (Pn (Z7 (v:=.ref Cb) rfl CB.mg rfl) b1 F1 hr.m bd1 .nil Ys (@Zc _ _ _ _ _ (pv 0) (@Zc _ _ _ _ _ ?h9 (@Zc _ _ _ _ _ ?h7 (@pa3 _ _ _ _ _ _ _ ?h5 ?h3 (Zp XE (pv 3) (pv 2)) (by rfl)) (by rfl)) (by rfl)) (by rfl))))
  case' h11=>refine' (@st _ _ _ _ 3 _ _ Xj.nd ?h2 (by rfl) (by exact aK rfl) (by rfl) (by exact .inl rfl))
  case' h10=>refine' (@st _ _ _ _ 2 _ _ Xj.nd ?h1 (by rfl) (by exact aK rfl) (by rfl) (by exact .inl rfl))
  case' h9=>refine' (@Zw _ _ _ _ _ (@pa2 _ _ _ _ _ ZH ?h8 (by rfl)))
  case' h8=>refine' (@it _ _ _ _ _ _ K (pv 1) Zb (by rfl) (by exact λ_ _=>rfl))
  case' h7=>refine' (@Zw _ _ _ _ _ (@pa2 _ _ _ _ _ ?h6 (pv 2) (by rfl)))
  case' h6=>refine' (@it _ _ _ _ _ _ K (pv 1) Zb (by rfl) (by exact λ_ _=>rfl))
  case' h5=>refine' (@Zw _ _ _ _ _ (@pa2 _ _ _ _ _ ?h4 (pv 3) (by rfl)))
  case' h4=>refine' (@it _ _ _ _ _ _ K (pv 1) Zb (by rfl) (by exact λ_ _=>rfl))
  case' h3=>refine' (@it _ _ _ _ _ _ K (pv 1) Zb (by rfl) (by exact λ_ _=>rfl))
  case' h2=>refine' (@it _ _ _ _ _ _ K (pv 1) Zb (by rfl) (by exact λ_ _=>rfl))
  case' h1=>refine' (@it _ _ _ _ _ _ K (pv 1) Zb (by rfl) (by exact λ_ _=>rfl))
  have at0:atI [V.str a,.str b,.int c,.str d,.int e,.int g] 0=some (.str a):=Zu (j:=0) rfl;have at1:atI [V.str a,.str b,.int c,.str d,.int e,.int g] 1=some (.str b):=Zu (j:=1) rfl;have at2:atI [V.str a,.str b,.int c,.str d,.int e,.int g] 2=some (.int c):=Zu (j:=2) rfl;have at3:atI [V.str a,.str b,.int c,.str d,.int e,.int g] 3=some (.str d):=Zu (j:=3) rfl;have at4:atI [V.str a,.str b,.int c,.str d,.int e,.int g] 4=some (.int e):=Zu (j:=4) rfl;have at5:atI [V.str a,.str b,.int c,.str d,.int e,.int g] 5=some (.int g):=Zu (j:=5) rfl;refine iaT hy at2 ?_;refine iaT hy at4 ?_;refine⟨_,rfl,_,rfl,r,_,0,_,rfl,rfl,SqT.of hy,at0,zl,λq1 h1=>?_⟩;dsimp only[tNil];refine nl2 h1 λH1 S1 e1=>?_;refine iaT (S1 _ _ hy) at1 ⟨_,rfl,zl,λq2 h2=>?_⟩;dsimp only[tNil];refine nl2 h2 λH2 S2 e2=>?_;have S12:=S1.trans S2;refine iaT (S12 _ _ hy) at3 ⟨_,rfl,zl,λq3 h3=>?_⟩;dsimp only[tNil];refine nl2 h3 λH3 S3 e3=>?_;have S13:=S12.trans S3;refine iaT (S13 _ _ hy) at5 ⟨_,rfl,_,rfl,_,_,rfl,rfl,?_⟩;refine⟨x,Cs 1,dx,_,_,_,_,_,rfl,Z,S13 _ _ hx,k _ ?_ ?_⟩
  ·exact λc o e hc=>by rw[Zj hc];exact S13 _ _ e
  ·exact NX (S:=XA [.str a,.str b,.int c,.str d,.int e,.int g]) (S13 _ _ hx) (S3 _ _ (S2 _ _ e1)) (.tup (S3 _ _ e2) (.cons (.str _) (.cons (.int _) .nil))) (.tup e3 (.cons (.str _) (.cons (.int _) .nil)))
theorem Jc:FnScope ["self","row","turn","long"] ["self","row","turn"] (Zd T.m_Walk___init__):=scO
theorem Dw{f:Addr}{fd:bW}(CB:CanB P w K mg base Cb)(F:Fun K "__init__" "Walk.__init__" T.m_Walk___init__ f fd):FnOk P w K mg base CX0 2 f fd ["self","row","turn"] (spMk K Cs 2 Q8):=by
 obtain⟨f1,fd1,F1,b1,bd1⟩:=CB.at_;refine F.ok Jc (λvs H Q E h=>?_) (λcdv A outer s H vs Q E hr h=>?_)
 ·obtain⟨x,dx,r,y,us,S,rfl,_,_,_,⟨_,_,_,_,_,_,_,rfl,_⟩,_⟩:=h;rfl
 ·obtain⟨x,dx,r,y,us,S,rfl,Z,hx,hy,⟨a,b,c,d,e,i,rfl,rfl,rfl⟩,k⟩:=h;refine' ⟨_,(@Za _ _ _ _ _ ?h9 (@Ze _ _ _ ?h10)),?rd⟩;case' h10=>refine' (Yg (Pn (Z7 (v:=.ref Cb) rfl CB.mg rfl) b1 F1 hr.m bd1 .nil Ys (@Zc _ _ _ _ _ (pv 0) (@Zc _ _ _ _ _ ?h8 (@Zc _ _ _ _ _ ?h6 (@pa3 _ _ _ _ _ _ _ ?h4 ?h2 (pv 3) (by rfl)) (by rfl)) (by rfl)) (by rfl))))
  case' h9=>refine' (@st _ _ _ _ 3 _ _ Jc.nd ?h1 (by rfl) (by exact aK rfl) (by rfl) (by exact .inl rfl))
  case' h8=>refine' (@Zw _ _ _ _ _ (@pa3 _ _ _ _ _ _ _ ZH ?h7 (pv 2) (by rfl)))
  case' h7=>refine' (@it _ _ _ _ _ _ K (pv 1) Zb (by rfl) (by exact λ_ _=>rfl))
  case' h6=>refine' (@Zw _ _ _ _ _ (@pa2 _ _ _ _ _ ?h5 (pv 2) (by rfl)))
  case' h5=>refine' (@it _ _ _ _ _ _ K (pv 1) Zb (by rfl) (by exact λ_ _=>rfl))
  case' h4=>refine' (@Zw _ _ _ _ _ (@pa2 _ _ _ _ _ ?h3 (Zp ZG (pv 2) (pv 3)) (by rfl)))
  case' h3=>refine' (@it _ _ _ _ _ _ K (pv 1) Zb (by rfl) (by exact λ_ _=>rfl))
  case' h2=>refine' (@it _ _ _ _ _ _ K (pv 1) Zb (by rfl) (by exact λ_ _=>rfl))
  case' h1=>refine' (@it _ _ _ _ _ _ K (pv 1) Zb (by rfl) (by exact λ_ _=>rfl))
  have at0:atI [V.str a,.str b,.str c,.int d,.int e] 0=some (.str a):=Zu (j:=0) rfl;have at1:atI [V.str a,.str b,.str c,.int d,.int e] 1=some (.str b):=Zu (j:=1) rfl;have at2:atI [V.str a,.str b,.str c,.int d,.int e] 2=some (.str c):=Zu (j:=2) rfl;have at3:atI [V.str a,.str b,.str c,.int d,.int e] 3=some (.int d):=Zu (j:=3) rfl;have at4:atI [V.str a,.str b,.str c,.int d,.int e] 4=some (.int e):=Zu (j:=4) rfl;refine iaT hy at3 ?_;refine⟨_,rfl,_,rfl,r,_,0,_,rfl,rfl,SqT.of hy,at0,_,rfl,zl,λq1 h1=>?_⟩;dsimp only[tNil];refine nl2 h1 λH1 S1 e1=>?_;refine iaT (S1 _ _ hy) at1 ⟨_,rfl,zl,λq2 h2=>?_⟩;dsimp only[tNil];refine nl2 h2 λH2 S2 e2=>?_;have S12:=S1.trans S2;refine iaT (S12 _ _ hy) at2 ⟨_,rfl,_,rfl,_,_,rfl,rfl,zl,λq3 h3=>?_⟩;dsimp only[tNil];refine nl2 h3 λH3 S3 e3=>?_;have S13:=S12.trans S3;refine iaT (S13 _ _ hy) at4 ⟨_,rfl,?_⟩;refine⟨x,Cs 2,dx,_,_,_,_,_,rfl,Z,S13 _ _ hx,k _ ?_ ?_⟩
  ·exact λc o e hc=>by rw[Zj hc];exact S13 _ _ e
  ·exact NX (S:=V8 [.str a,.str b,.str c,.int d,.int e] i) (S13 _ _ hx) (S3 _ _ (S2 _ _ e1)) (.tup (S3 _ _ e2) (.cons (.str _) (.cons (.int _) .nil))) (.tup e3 (.cons (.str _) (.cons (.int _) .nil)))
theorem UR:FnScope ["self","row","turn"] ["self","row","turn"] (Zd T.m_Wait___init__):=scO
theorem Dx{f:Addr}{fd:bW}(CB:CanB P w K mg base Cb)(F:Fun K "__init__" "Wait.__init__" T.m_Wait___init__ f fd):FnOk P w K mg base CX0 2 f fd ["self","row","turn"] (spMk K Cs 3 Q9):=by
 obtain⟨f1,fd1,F1,b1,bd1⟩:=CB.at_;refine F.ok UR (λvs H Q E h=>?_) (λcdv A outer s H vs Q E hr h=>?_)
 ·obtain⟨x,dx,r,y,us,S,rfl,_,_,_,⟨_,_,_,_,rfl,_⟩,_⟩:=h;rfl
 ·obtain⟨x,dx,r,y,us,S,rfl,Z,hx,hy,⟨a,b,i,rfl,rfl,rfl⟩,k⟩:=h;refine' ⟨_,(@Ze _ _ _ ?h8),?rd⟩;case' h8=>refine' (Yg (Pn (Z7 (v:=.ref Cb) rfl CB.mg rfl) b1 F1 hr.m bd1 .nil Ys (@Zc _ _ _ _ _ (pv 0) (@Zc _ _ _ _ _ ?h7 (@Zc _ _ _ _ _ ?h5 (@pa3 _ _ _ _ _ _ _ ?h3 ?h1 Zb (by rfl)) (by rfl)) (by rfl)) (by rfl))))
  case' h7=>refine' (@Zw _ _ _ _ _ (@pa3 _ _ _ _ _ _ _ ZH ?h6 (pv 2) (by rfl)))
  case' h6=>refine' (@it _ _ _ _ _ _ K (pv 1) Zb (by rfl) (by exact λ_ _=>rfl))
  case' h5=>refine' (@Zw _ _ _ _ _ (@pa2 _ _ _ _ _ ?h4 (pv 2) (by rfl)))
  case' h4=>refine' (@it _ _ _ _ _ _ K (pv 1) Zb (by rfl) (by exact λ_ _=>rfl))
  case' h3=>refine' (@Zw _ _ _ _ _ (@pa2 _ _ _ _ _ ?h2 (Zp ZG (pv 2) Zb) (by rfl)))
  case' h2=>refine' (@it _ _ _ _ _ _ K (pv 1) Zb (by rfl) (by exact λ_ _=>rfl))
  case' h1=>refine' (@it _ _ _ _ _ _ K (pv 1) Zb (by rfl) (by exact λ_ _=>rfl))
  have at0:atI [V.str a,b] 0=some (.str a):=Zu (j:=0) rfl;have at1:atI [V.str a,b] 1=some b:=Zu (j:=1) rfl;refine⟨_,rfl,_,rfl,r,_,0,_,rfl,rfl,SqT.of hy,at0,_,rfl,zl,λq1 h1=>?_⟩;dsimp only[tNil];refine nl2 h1 λH1 S1 e1=>?_;refine⟨_,rfl,r,_,0,_,rfl,rfl,SqT.of (S1 _ _ hy),at0,_,rfl,zl,λq2 h2=>?_⟩;dsimp only[tNil];refine nl2 h2 λH2 S2 e2=>?_;have S12:=S1.trans S2;refine⟨_,rfl,r,_,0,_,rfl,rfl,SqT.of (S12 _ _ hy),at0,_,rfl,_,_,rfl,rfl,zl,λq3 h3=>?_⟩;dsimp only[tNil];refine nl2 h3 λH3 S3 e3=>?_;have S13:=S12.trans S3;refine iaT (S13 _ _ hy) at1 ?_;refine⟨x,Cs 3,dx,_,_,_,_,_,rfl,Z,S13 _ _ hx,k _ ?_ ?_⟩
  ·exact λc o e hc=>by rw[Zj hc];exact S13 _ _ e
  ·exact NX (S:=VC [.str a,b] i) (S13 _ _ hx) (S3 _ _ (S2 _ _ e1)) (.tup (S3 _ _ e2) (.cons (.str _) (.cons (.int _) .nil))) (.tup e3 (.cons (.str _) (.cons (.int _) .nil)))
end
def Prt(H:Hp)(fs:List (Str×V))(f:Str)(t:List (List V))(l:Addr)(xs:List V):Prop:=fs.lookup f=some (.ref l)/\H l=some (.tup xs)/\xs.length=t.length/\∀(i:Nat)(y:List V),t[i]?=some y->∃a:Addr,xs[i]?=some (V.ref a)/\H a=some (.tup y)
theorem Ph{H:Hp}{fs:List (Str×V)}{f g:Str}{t:List (List V)}{xs:List V}{k:List (Key×V)}(h:Vp H fs f g (prs xs t) k)(r:Y9 H xs (t.map some)):∃l,Prt H fs f t l xs:=by
 obtain⟨l,d,ys,rs,a1,a2,a3,a4,a5⟩:=h;cases a3;have hl:xs.length=t.length:=by rw[r.1,lm]
 refine⟨l,a1,a4,hl,λi y hi=>?_⟩;have hlt:i<t.length:=(aj.mp hi).1;have e1:xs[i]?=some xs[i]:=gE (by omega);obtain⟨a,ea,ha,_⟩:=r.2 i _ _ e1 (show(t.map some)[i]?=some (some y) by rw[aJ,hi];rfl);exact⟨a,by rw[e1,ea],ha⟩
structure Prts(H:Hp)(C t:Addr)(T:Tb)(fs:List (Str×V)):Prop where
 tab:Tab H C t fs
 turns:fs.lookup ("turns":Str)=some (.int T.n)
 p:∃l xs,Prt H fs "places" T.t1 l xs
 r:∃l xs,Prt H fs "rides" T.t2 l xs
 w:∃l xs,Prt H fs "ways" T.t3 l xs
 g:∃l xs,Prt H fs "groups" T.t4 l xs
theorem V9{H:Hp}{C t:Addr}{T:Tb}(h:Tel H C t T):∃fs,Prts H C t T fs:=by
 obtain⟨fs,x1,x2,x3,x4,k,tp,d⟩:=h;refine⟨fs,tp.tab.tab,tp.tab.turns,?_,?_,?_,?_⟩
 ·obtain⟨l,a⟩:=Ph tp.tab.p (tp.rows _ (.inl rfl) _ _ rfl);exact⟨l,_,a⟩
 ·obtain⟨l,a⟩:=Ph tp.tab.r (tp.rows _ (.inr (.inl rfl)) _ _ rfl);exact⟨l,_,a⟩
 ·obtain⟨l,a⟩:=Ph tp.tab.w (tp.rows _ (.inr (.inr (.inl rfl))) _ _ rfl);exact⟨l,_,a⟩
 ·obtain⟨l,a⟩:=Ph tp.tab.g (tp.rows _ (.inr (.inr (.inr rfl))) _ _ rfl);exact⟨l,_,a⟩
noncomputable def StL(H:Hp)(Cs:Nat->Addr)(T:Tb):List V->List Sx->Prop:=bo λv S=>∃x j,v=.ref x/\X7 H Cs x j S/\V6 T (S.key.map kV) j S
theorem StL.same{H H':Hp}{Cs:Nat->Addr}{T:Tb}{vs:List V}{L:List Sx}(s:Same H H')(h:StL H Cs T vs L):StL H' Cs T vs L:=Paired.mapP h λ_ _⟨x,j,e,q,i⟩=>⟨x,j,e,q.same s,i⟩
def Vr(C:Addr)(Cs:Nat->Addr)(f:Tb->List Sx):Sp:=λvs H Q _=>∃(t:Addr)(T:Tb),vs=[.ref t]/\Tel H C t T/\OkTb T /\∀H' p xs,Same H H'->H p=none->H' p=some (.lst xs)->StL H' Cs T xs (f T)->Q (.ref p) H'
theorem M9{z:Str}(h:Atm (.str z)):GS z:=by cases h with|str h=>exact h
section
variable {T:Tb}(o:OkTb T)
include o
theorem Rb{y:List V}(h:y∈T.t2):∃(a b d:Str)(c e f:Int),y=[.str a,.str b,.int c,.str d,.int e,.int f]/\GS a/\GS b/\GS d/\0<=c/\c+1<=e/\e<=T.n/\0<=f/\f<=1000:=by obtain⟨k1,hk⟩:=Mc o;obtain⟨e0,gs⟩:=YD o (j:=2) (.inr (.inl rfl)) h;obtain⟨z,s,lv,g',cm,se,rfl,en,he,a1,a2,b1,b2,c1,c2⟩:=TJ o h hk.has;obtain⟨q1,q2⟩:=QC o hk he;obtain⟨k1',k2',_⟩:=Uq he;obtain⟨x,v,rfl,_⟩:=Yx k1';obtain⟨x',v',rfl,_⟩:=Yx k2';rw[en]at gs;exact⟨z,x,x',lv,cm,se,rfl,gs,M9 q1,M9 q2,a1,b1,b2,c1,c2⟩
theorem Sy{y:List V}(h:y∈T.t3):∃(a b c:Str)(d e:Int),y=[.str a,.str b,.str c,.int d,.int e]/\GS a/\GS b/\GS c/\1<=d/\d<=50/\0<=e/\e<=1000:=by obtain⟨k1,hk⟩:=Mc o;obtain⟨e0,gs⟩:=YD o (j:=3) (.inr (.inr (.inl rfl))) h;have r:=VY o (j:=3) (.inr (.inr (.inl rfl))) h;have hw:=r.why k1 (λ_=>hk.has);obtain⟨a,b,c,d,e,rfl⟩:=len5 r.len;obtain⟨he,h1,h2⟩:=L5 (hw 0 (λz=>by cases z):wayV k1 b c d e=.non);obtain⟨q1,q2⟩:=QC o hk he;obtain⟨k1',k2',_⟩:=Uq he;obtain⟨x,v,rfl,_⟩:=Yx k1';obtain⟨x',v',rfl,_⟩:=Yx k2';obtain⟨i,rfl,i0,i1⟩:=within_int h1;obtain⟨j,rfl,j0,j1⟩:=within_int h2;have ea:a=.str (nameOf [a,.str x,.str x',.int i,.int j]):=e0;exact⟨_,x,x',i,j,congrArg (λq=>[q,.str x,.str x',.int i,.int j]) ea,gs,M9 q1,M9 q2,i0,i1,j0,j1⟩
theorem YY{y:List V}(h:y∈T.t4):∃(a b:Str)(c d:Int),y=[.str a,.str b,.int c,.int d]/\GS a/\GS b/\0<=c/\c<=T.n/\0<=d/\d<=300:=by obtain⟨k1,hk⟩:=Mc o;obtain⟨e0,gs⟩:=YD o (j:=4) (.inr (.inr (.inr rfl))) h;have r:=VY o (j:=4) (.inr (.inr (.inr rfl))) h;have hw:=r.why k1 (λ_=>hk.has);obtain⟨a,b,c,d,rfl⟩:=len4 r.len;obtain⟨h1,h2,i,rfl,i0,i1⟩:=J9 (hw (300-ZC [a,b,c,d]) (λ_=>by omega):Xm k1 T.n _ b c d=.non);have q1:=UW o hk h1;obtain⟨x,v,rfl,_⟩:=Yx h1;obtain⟨t,rfl,t0,t1⟩:=within_int h2;have ea:a=.str (nameOf [a,.str x,.int t,.int i]):=e0;exact⟨_,x,t,i,congrArg (λq=>[q,.str x,.int t,.int i]) ea,gs,M9 q1,t0,t1,i0,i1⟩
end
theorem UT{H H':Hp}{x dx C:Addr}(hx:H x=none)(hd:H dx=none)(s:Zg x (upd (upd H dx (.own x)) x (.ins C dx [])) H'):Same H H':=λc o e=>by have n1:c≠x:=Zi e hx;have n2:c≠dx:=Zi e hd;exact s c o (by rw[Zj n1,Zj n2];exact e) n1
theorem Mo{H:Hp}{x dx C a:Addr}{ys:List V}(hx:H x=none)(hd:H dx=none)(e:H a=some (.tup ys)):upd (upd H dx (.own x)) x (.ins C dx []) a=some (.tup ys):=by rw[Zj (Zi e hx),Zj (Zi e hd)];exact e
noncomputable def ZL(T:Tb)(y:List V):List Sx:=(aT (T.n+1-iA y 2).toNat).map λ(m:Nat)=>outS y (iA y 2+m)
noncomputable def ZO(T:Tb)(y:List V):List Sx:=(aT (T.n+1-iA y 3).toNat).map λ(m:Nat)=>V8 y (0+m)
noncomputable def ZM(T:Tb)(y:List V):List Sx:=if at_ y 1=.non then[]else(aT T.n.toNat).map λ(m:Nat)=>VC y (0+m)
noncomputable def allS(T:Tb):List Sx:=T.t4.flatMap (ZL T)++T.t2.map XA++T.t3.flatMap (ZO T)++T.t1.flatMap (ZM T)
noncomputable def JL(S:Sx):PyData:=.tuple [S.tail,S.head,dF S.room,.int S.price]
noncomputable def puts(l:List (Sx×V))(acc:List (List Key×V)):List (List Key×V):=l.foldl (λkvs p=>putK kvs p.1.key p.2) acc
def Dc(H:Hp)(p:Addr)(L:List Sx):Prop:=∃kvs:List (List Key×V),H p=some (.dT kvs)/\kvs.length<=L.length/\(∃vs,bo (λv S=>Is H v (JL S)) vs L/\kvs=puts (L.zip vs) [])/\True
theorem Dc.same{H H':Hp}{p:Addr}{L:List Sx}(s:Same H H')(h:Dc H p L):Dc H' p L:=by obtain⟨kvs,e,l,⟨vs,a,b⟩,_⟩:=h;exact⟨kvs,s _ _ e,l,⟨vs,Paired.mapP a λ_ _ i=>i.same s,b⟩,trivial⟩
theorem Dc.put{H:Hp}{p a:Addr}{kvs:List (List Key×V)}{L:List Sx}{S:Sx}(e:H p=some (.dT kvs))(l:kvs.length<=L.length)(h1:∃vs,bo (λv S=>Is H v (JL S)) vs L/\kvs=puts (L.zip vs) [])(h2:True)(hv:Is H (.ref a) (JL S)):Dc (upd H p (.dT (putK kvs S.key (.ref a)))) p (L++[S]):=by
 have hn:∀xs,H p≠some (.lst xs)/\H p≠some (.tup xs):=λxs=>⟨(λz=>by rw[e]at z;cases z),(λz=>by rw[e]at z;cases z)⟩;obtain⟨vs,r,ek⟩:=h1;refine⟨_,Zf,?_,⟨vs++[.ref a],dH (Paired.mapP r λ_ _ i=>Pw hn i) (Pw hn hv),?_⟩,trivial⟩
 ·have:=Y5 kvs S.key (.ref a);rw[ah];show _<=L.length+1;omega
 ·rw[List.zip_append (by rw[aL r])];unfold puts;rw[gw,ek];rfl
theorem Jk{f:List V->List Sx}{t:List (List V)}{i:Nat}(hi:i<t.length):(t.take (i+1)).flatMap f=(t.take i).flatMap f++f t[i]:=by rw[a9,gE hi,List.flatMap_append];simp
theorem map_take{f:List V->Sx}{t:List (List V)}{i:Nat}(hi:i<t.length):(t.take (i+1)).map f=(t.take i).map f++[f t[i]]:=by rw[a9,gE hi,aI];rfl
theorem XB{f:Nat->Sx}{n i:Nat}(hi:i<n):(((aT n).map f).take (i+1))=((aT n).map f).take i++[f i]:=by rw[a9,aJ,fP hi];rfl
theorem Up{f:List V->List Sx}{m:Nat}:∀{t:List (List V)},(∀y∈t,(f y).length<=m)->(t.flatMap f).length<=t.length*m
|[],_=>by simp
|y::t,h=>by
  rw[List.flatMap_cons,ah,aW];have h1:=h y (by simp);have h2:=Up (f:=f) (m:=m) (t:=t) λz hz=>h z (by simp[hz]);have:(t.length+1)*m=t.length*m+m:=by rw[Nat.add_mul,Nat.one_mul]
  omega
theorem LX{T:Tb}(o:OkTb T){S:Sx}(h:S∈allS T):∃j,V6 T (S.key.map kV) j S:=by
 unfold allS at h;simp only[aw,bJ,af]at h;rcases h with((⟨y,hy,h⟩|⟨y,hy,rfl⟩)|⟨y,hy,h⟩)|⟨y,hy,h⟩
 ·unfold ZL at h;obtain⟨m,hm,rfl⟩:=af.mp h;rw[bj]at hm;exact⟨0,.inl ⟨y,hy,_,rfl,by omega,by omega,rfl,rfl⟩⟩
 ·exact⟨1,.inr (.inl ⟨y,hy,rfl,rfl,rfl⟩)⟩
 ·unfold ZO at h;obtain⟨m,hm,rfl⟩:=af.mp h;rw[bj]at hm;exact⟨2,.inr (.inr (.inl ⟨y,hy,_,rfl,by omega,by omega,rfl,rfl⟩))⟩
 ·unfold ZM at h;split at h
  ·cases h
  rename_i hne;obtain⟨m,hm,rfl⟩:=af.mp h;rw[bj]at hm;exact⟨3,.inr (.inr (.inr ⟨y,hy,_,rfl,hne,by omega,by omega,rfl,rfl⟩))⟩
theorem Qi{T:Tb}(o:OkTb T){y:List V}(h:y∈T.t4):(ZL T y).length<=51:=by obtain⟨a,b,c,d,rfl,_,_,h0,_⟩:=YY o h;have:=o.n1;unfold ZL;rw[lm,a_];show(T.n+1-c).toNat<=51;omega
theorem Nh{T:Tb}(o:OkTb T){y:List V}(h:y∈T.t3):(ZO T y).length<=51:=by obtain⟨a,b,c,d,e,rfl,_,_,_,h0,_⟩:=Sy o h;have:=o.n1;unfold ZO;rw[lm,a_];show(T.n+1-d).toNat<=51;omega
theorem Ni{T:Tb}(o:OkTb T){y:List V}:(ZM T y).length<=51:=by
 have:=o.n1;unfold ZM;split
 ·exact Nat.zero_le _
 rw[lm,a_];omega
theorem YC{T:Tb}(o:OkTb T):T.t1.length<=14/\T.t2.length<=80/\T.t3.length<=40/\T.t4.length<=300:=⟨(o.part 1 (.inl rfl)).1,(o.part 2 (.inr (.inl rfl))).1,(o.part 3 (.inr (.inr (.inl rfl)))).1,(o.part 4 (.inr (.inr (.inr rfl)))).1⟩
theorem Vs{T:Tb}(o:OkTb T):(T.t4.flatMap (ZL T)).length<=15300/\(T.t2.map XA).length<=80/\(T.t3.flatMap (ZO T)).length<=2040/\(T.t1.flatMap (ZM T)).length<=714:=by obtain⟨h1,h2,h3,h4⟩:=YC o;have a:=Up (f:=ZL T) (m:=51) (t:=T.t4) λy hy=>Qi o hy;have b:=Up (f:=ZO T) (m:=51) (t:=T.t3) λy hy=>Nh o hy;have c:=Up (f:=ZM T) (m:=51) (t:=T.t1) λy hy=>Ni o;refine⟨by omega,by rw[lm];exact h2,by omega,by omega⟩
theorem JT{f:List V->List Sx}{t:List (List V)}(i:Nat):((t.take i).flatMap f).length<=(t.flatMap f).length:=by
 conv=>rhs;rw[<-cg i t,List.flatMap_append,ah]
 exact Nat.le_add_right _ _
def NL(d:PyData):Prop:=(∃a,d=.str a)\/∃a i,d=.tuple [.str a,.int i]
theorem SN{T:Tb}{ks:List V}{j:Nat}{S:Sx}(h:V6 T ks j S):NL S.tail/\NL S.head:=by
 rcases h with⟨y,_,i,e,_,_,rfl,rfl⟩|⟨y,_,e,rfl,rfl⟩|⟨y,_,i,e,_,_,rfl,rfl⟩|⟨y,_,i,e,_,_,_,rfl,rfl⟩
 ·exact⟨.inl ⟨_,rfl⟩,.inr ⟨_,_,rfl⟩⟩
 ·exact⟨.inr ⟨_,_,rfl⟩,.inr ⟨_,_,rfl⟩⟩
 ·exact⟨.inr ⟨_,_,rfl⟩,.inr ⟨_,_,rfl⟩⟩
 ·exact⟨.inr ⟨_,_,rfl⟩,.inr ⟨_,_,rfl⟩⟩
theorem Ew{H H':Hp}{v:V}{d:PyData}(n:NL d)(ht:∀c xs,H c=some (.tup xs)->H' c=some (.tup xs))(h:Is H v d):Is H' v d:=by
 rcases n with⟨a,rfl⟩|⟨a,i,rfl⟩
 ·cases h with
 |str=>exact .str _
 ·cases h with
 |tup e r=>
   cases r with
  |cons h1 r=>
   cases r with
  |cons h2 r=>
   cases r;cases h1;cases h2;exact .tup (ht _ _ e) (.cons (.str _) (.cons (.int _) .nil))
theorem X7.keepL{H H':Hp}{Cs:Nat->Addr}{T:Tb}{x p:Addr}{j:Nat}{S:Sx}{ys:List V}(hp:H p=some (.lst ys))(s:Zg p H H')(i:V6 T (S.key.map kV) j S)(h:X7 H Cs x j S):X7 H' Cs x j S:=by obtain⟨dx,k,vt,vh,h1,h2,h3,h4⟩:=h;have ht:∀c xs,H c=some (.tup xs)->H' c=some (.tup xs):=λc xs e=>s _ _ e (ne_of e hp (λz=>nomatch z));exact⟨dx,k,vt,vh,s _ _ h1 (ne_of h1 hp (λz=>nomatch z)),ht _ _ h2,Ew (SN i).1 ht h3,Ew (SN i).2 ht h4⟩
theorem StL.keepL{H H':Hp}{Cs:Nat->Addr}{T:Tb}{p:Addr}{vs:List V}{L:List Sx}{ys:List V}(hp:H p=some (.lst ys))(s:Zg p H H')(h:StL H Cs T vs L):StL H' Cs T vs L:=Paired.mapP h λ_ _⟨x,j,e,q,i⟩=>⟨x,j,e,q.keepL hp s i,i⟩
theorem StL.app{H:Hp}{Cs:Nat->Addr}{T:Tb}:∀{vs us:List V}{L M:List Sx},StL H Cs T vs L->StL H Cs T us M->StL H Cs T (vs++us) (L++M)
|_,_,_,_,.nil,b=>b
|_,_,_,_,.cons h t,b=>.cons h (StL.app t b)
theorem StL.snoc{H:Hp}{Cs:Nat->Addr}{T:Tb}{vs:List V}{L:List Sx}{x:Addr}{j:Nat}{S:Sx}(h:StL H Cs T vs L)(q:X7 H Cs x j S)(i:V6 T (S.key.map kV) j S):StL H Cs T (vs++[.ref x]) (L++[S]):=h.app (.cons ⟨x,j,rfl,q,i⟩ .nil)
theorem StL.len{H:Hp}{Cs:Nat->Addr}{T:Tb}{vs:List V}{L:List Sx}(h:StL H Cs T vs L):vs.length=L.length:=aL h
section
variable {P:Program}{w:World}{K:aa}{mg:Str->Option Value}{base:Heap}{C:Addr}{Cs:Nat->Addr}
theorem JV:FnScope ["table","steps","row"] ["table"] (Zd T.f_walks_of):=scO
noncomputable def VH:Scope:=csx [(".0",.local),("turn",.local),("Walk",.globalImplicit),("row",.free)]
theorem U1:CompScope VH (Zd T.f_walks_of):=⟨rfl,by decide +kernel,by decide +kernel,by decide +kernel⟩
theorem U3:(["turn","row"]:List Str).Nodup:=by decide +kernel
theorem U2:CompNames ["table","steps","row"] VH ["turn","row"] [none,some 2]:=.mk' (by decide +kernel)
theorem Wq(B:∀x∈Blts,mg x=none)(Z:TCl K C)(ZS:∀j,j<4->SCl K (Cs j))(M:SMk P w K mg base "Walk" (Cs 2) ["self","row","turn"] (spMk K Cs 2 Q8))(D:Df K mg "walks_of" T.f_walks_of ["table"]):Can P w K mg base 4 "walks_of" ["table"] (Vr C Cs λT=>T.t3.flatMap (ZO T)):=by
 obtain⟨fm,fdm,hM,FM,bM⟩:=M.made;refine D.cn JV λf cdv A outer s H vs Q E hr h=>?_;obtain⟨t,T,rfl,tel,ok,k⟩:=h;obtain⟨fs,pr⟩:=V9 tel;obtain⟨l,xs,f1,f2,f3,f4⟩:=pr.w;obtain⟨dx,ht⟩:=pr.tab.at_;refine⟨_,(Za (st 1 JV.nd (Zz Zk)) (Za (Yn aY rfl (MH (Z2 (pv 0) rfl)) (XU (i:=2) JV.nd rfl (b9 rfl)) (Ze (Yg (GY bN PySem.F.slot_list_extend PySem.F.type_list_extend NC (pv 1) (Zc (ZQ rfl U1 U2 (Y3 rfl (bm B) (Zc (Zp ZG (Zp XE (Z2 (pv 0) rfl) (it K (pv 2) Zb)) Zb) Zk)) (λC s H ex pn=>(nmT 0 U3)) (λC s H ex pn=>Yt) (λC s H ex pn=>(Ug hM FM hr.m rfl M.mg bM .nil Ys (Zc (pv 1) (Zc (pv 0) Zk))))) Zk))))) (Ze (Zn (pv 1))))),?_⟩;refine⟨zl,λp hp=>?_⟩;have e0:upd H p (.lst []) p=some (.lst []):=Zf;have S0:Zg p H (upd H p (.lst [])):=(Zg.refl p H).new' hp;generalize upd H p (.lst [])=H0 at e0 S0 ⊢;have ht':∀{H':Hp},Zg p H H'->H' t=some (.ins C dx fs):=λs=>s _ _ ht (Zi ht hp);have hl':∀{H':Hp},Zg p H H'->H' l=some (.tup xs):=λs=>s _ _ f2 (Zi f2 hp);refine⟨_,rfl,t,C,dx,fs,_,rfl,ht' S0,Z.cl,Z.na _ (by simp[fields]),f1,l,rfl,⟨_,SqT.of (hl' S0)⟩,?_⟩;refine YU (J:=Itt K l) T.t3.length (λi σ H'=>Zg p H H'/\∃ys o,H' p=some (.lst ys)/\StL H' Cs T ys ((T.t3.take i).flatMap (ZO T))/\σ=[some (.ref t),some (.ref p),o]) ⟨S0,_,_,e0,.nil,rfl⟩ (λi σ H' hi q=>?_) (λσ H' q=>?_) (λi σ H' x H2 hi q yl=>?_) (λσ H1 q=>?_)
 ·exact⟨xs,xs[i]'(by omega),SqT.of (hl' q.1),gE _⟩
 ·exact⟨xs,SqT.of (hl' q.1),by omega⟩
 ·obtain⟨s1,ys,o,ep,sl,rfl⟩:=q;have e1:T.t3[i]?=some T.t3[i]:=gE hi;obtain⟨a,ea,ha⟩:=f4 i _ e1;obtain⟨rfl,hx⟩:=yl;have hx2:=hx _ (SqT.of (hl' s1));rw[ea]at hx2;cases hx2;have hy:T.t3[i]∈T.t3:=aD hi;have ha1:=s1 _ _ ha (Zi ha hp);rw[Jk hi];generalize T.t3[i]=y at ha1 hy;obtain⟨a1,b1,c1,d1,e1,rfl,_,_,_,h0,h1,_⟩:=Sy ok hy;dsimp only[Zt];refine td λD' hdd=>?_;refine⟨_,rfl,.inl ⟨rfl,_,SqL.of ep⟩,?_⟩;have hn:=ok.n1;have hn0:=ok.n0;refine⟨_,rfl,t,C,dx,fs,_,rfl,ht' s1,Z.cl,Z.na _ (by simp[fields]),pr.turns,ixT 3 ha1 rfl ⟨_,_,rfl,rfl,_,_,rfl,rfl,_,rfl,by omega,by omega,?_⟩⟩;refine Xg (J:=Itr 0 (T.n-d1+1).toNat) (T.n-d1+1).toNat (Nat.le_trans (by omega:_<=51) (by decide)) (λm zs τ H'=>Same H2 H'/\StL H' Cs T zs ((ZO T [.str a1,.str b1,.str c1,.int d1,.int e1]).take m)/\∃v,τ=[v,some (.ref a)]) ⟨Same.refl _,.nil,none,rfl⟩ (λm zs τ H' q=>by rw[q.2.1.len,aG];omega) (λm zs τ H' hm _=>hm) (λzs τ H' _=>Nat.le_refl _) (λm zs τ H' x H3 hm q yl=>?_) (λzs τ H5 q lr hlr=>?_)
  ·obtain⟨s2,sl2,v,rfl⟩:=q;obtain⟨rfl,rfl⟩:=yl;refine⟨_,rfl,_,rfl,λx' dx' hx' hdx' _=>⟨x',dx',a,_,_,V8 _ (0+m),rfl,ZS 2 (by decide),Zf,Mo hx' hdx' (s2 _ _ ha1),⟨a1,b1,c1,_,_,_,rfl,rfl,rfl⟩,λH' s3 st=>⟨rfl,?_⟩⟩⟩;have s4:=UT hx' hdx' s3;refine⟨s2.trans s4,?_,_,rfl⟩;rw[show(ZO T [.str a1,.str b1,.str c1,.int d1,.int e1]).take (m+1)=(ZO T [.str a1,.str b1,.str c1,.int d1,.int e1]).take m++[V8 [.str a1,.str b1,.str c1,.int d1,.int e1] (0+m)]from XB (n:=(T.n+1-d1).toNat) (by omega)];exact(sl2.same s4).snoc st (.inr (.inr (.inl ⟨_,hy,0+m,rfl,by omega,(by show 0+(m:Int)<=T.n-d1;omega),rfl,rfl⟩)))
  ·obtain⟨s2,sl2,v,rfl⟩:=q;have s5:Same H2 (upd H5 lr (.lst zs)):=sameNew s2 hlr;have sl5:=sl2.same (sameNew (o:=.lst zs) (Same.refl H5) hlr);have er:upd H5 lr (.lst zs) lr=some (.lst zs):=Zf;generalize upd H5 lr (.lst zs)=H6 at s5 sl5 er ⊢;have lz:zs.length<=51:=by rw[sl5.len,aG];omega
   have ly:ys.length<=2040:=by rw[sl.len];exact Nat.le_trans (JT i) (Vs ok).2.2.1
   have fin:∀c o,H6 c=some o->c≠p->upd H6 p (.lst (ys++zs)) c=some o:=λc o e hc=>by rw[Zj hc];exact e
   refine⟨p,lr,ys,zs,rfl,rfl,s5 _ _ ep,er,Nat.le_trans (by omega:_<=20000) (by decide),hdd _ _ ⟨?_,_,_,Zf,?_,rfl⟩⟩
   ·exact λc o e hc=>fin _ _ (s5 _ _ (s1 _ _ e hc)) hc
   ·refine StL.keepL (s5 _ _ ep) fin ((sl.same s5).app ?_);rw[aX (by unfold ZO;rw[lm,a_];show(T.n+1-d1).toNat<=_;omega)]at sl5;exact sl5
 ·obtain⟨s1,ys,o,ep,sl,rfl⟩:=q;rw[aV]at sl;exact⟨_,rfl,k _ p ys (λc o e=>s1 _ _ e (Zi e hp)) hp ep sl⟩
theorem JW:FnScope ["table","steps","row"] ["table"] (Zd T.f_waits_of):=scO
noncomputable def VI:Scope:=csx [(".0",.local),("turn",.local),("Wait",.globalImplicit),("row",.free)]
theorem U4:CompScope VI (Zd T.f_waits_of):=⟨rfl,by decide +kernel,by decide +kernel,by decide +kernel⟩
theorem U6:(["turn","row"]:List Str).Nodup:=by decide +kernel
theorem U5:CompNames ["table","steps","row"] VI ["turn","row"] [none,some 2]:=.mk' (by decide +kernel)
theorem Wr(B:∀x∈Blts,mg x=none)(Z:TCl K C)(ZS:∀j,j<4->SCl K (Cs j))(M:SMk P w K mg base "Wait" (Cs 3) ["self","row","turn"] (spMk K Cs 3 Q9))(D:Df K mg "waits_of" T.f_waits_of ["table"]):Can P w K mg base 4 "waits_of" ["table"] (Vr C Cs λT=>T.t1.flatMap (ZM T)):=by
 obtain⟨fm,fdm,hM,FM,bM⟩:=M.made;refine D.cn JW λf cdv A outer s H vs Q E hr h=>?_;obtain⟨t,T,rfl,tel,ok,k⟩:=h;obtain⟨fs,pr⟩:=V9 tel;obtain⟨l,xs,f1,f2,f3,f4⟩:=pr.p;obtain⟨dx,ht⟩:=pr.tab.at_;refine⟨_,(Za (st 1 JW.nd (Zz Zk)) (Za (Yn aY rfl (MH (Z2 (pv 0) rfl)) (XU (i:=2) JW.nd rfl (b9 rfl)) (Ze (ZF (Zq JA (it K (pv 2) Zb) ZK (ZA _)) (Ze (Yg (GY bN PySem.F.slot_list_extend PySem.F.type_list_extend NC (pv 1) (Zc (ZQ rfl U4 U5 (Y3 rfl (bm B) (Zc (Z2 (pv 0) rfl) Zk)) (λC s H ex pn=>(nmT 0 U6)) (λC s H ex pn=>Yt) (λC s H ex pn=>(Ug hM FM hr.m rfl M.mg bM .nil Ys (Zc (pv 1) (Zc (pv 0) Zk))))) Zk)))) Zr))) (Ze (Zn (pv 1))))),?_⟩;refine⟨zl,λp hp=>?_⟩;have e0:upd H p (.lst []) p=some (.lst []):=Zf;have S0:Zg p H (upd H p (.lst [])):=(Zg.refl p H).new' hp;generalize upd H p (.lst [])=H0 at e0 S0 ⊢;have ht':∀{H':Hp},Zg p H H'->H' t=some (.ins C dx fs):=λs=>s _ _ ht (Zi ht hp);have hl':∀{H':Hp},Zg p H H'->H' l=some (.tup xs):=λs=>s _ _ f2 (Zi f2 hp);refine⟨_,rfl,t,C,dx,fs,_,rfl,ht' S0,Z.cl,Z.na _ (by simp[fields]),f1,l,rfl,⟨_,SqT.of (hl' S0)⟩,?_⟩;refine YU (J:=Itt K l) T.t1.length (λi σ H'=>Zg p H H'/\∃ys o,H' p=some (.lst ys)/\StL H' Cs T ys ((T.t1.take i).flatMap (ZM T))/\σ=[some (.ref t),some (.ref p),o]) ⟨S0,_,_,e0,.nil,rfl⟩ (λi σ H' hi q=>?_) (λσ H' q=>?_) (λi σ H' x H2 hi q yl=>?_) (λσ H1 q=>?_)
 ·exact⟨xs,xs[i]'(by omega),SqT.of (hl' q.1),gE _⟩
 ·exact⟨xs,SqT.of (hl' q.1),by omega⟩
 ·obtain⟨s1,ys,o,ep,sl,rfl⟩:=q;have e1:T.t1[i]?=some T.t1[i]:=gE hi;obtain⟨a,ea,ha⟩:=f4 i _ e1;obtain⟨rfl,hx⟩:=yl;have hx2:=hx _ (SqT.of (hl' s1));rw[ea]at hx2;cases hx2;have hy:T.t1[i]∈T.t1:=aD hi;have ha1:=s1 _ _ ha (Zi ha hp);rw[Jk hi];generalize T.t1[i]=y at ha1 hy;obtain⟨⟨nm,rm⟩,rfl,gs,hrm⟩:=Xo ok hy;dsimp only[Zt];refine td λD' hdd=>?_;cases rm with
 |none=>refine ixT 1 ha1 rfl ⟨rfl,_,rfl,?_⟩;refine iteF ?_;refine hdd _ _ ⟨s1,ys,_,ep,?_,rfl⟩;rw[show ZM T (plRow (nm,none))=[]from if_pos rfl,br];exact sl
 |some b1=>
   refine ixT 1 ha1 rfl ⟨rfl,_,rfl,?_⟩;refine iteT ?_;have ew:ZM T (plRow (nm,some b1))=(aT T.n.toNat).map λ(m:Nat)=>VC (plRow (nm,some b1)) (0+m):=if_neg (λz=>by cases z);have hn:=ok.n1;have hn0:=ok.n0;refine⟨_,rfl,.inl ⟨rfl,_,SqL.of ep⟩,?_⟩;refine⟨_,rfl,t,C,dx,fs,_,rfl,ht' s1,Z.cl,Z.na _ (by simp[fields]),pr.turns,_,rfl,by omega,by omega,?_⟩;refine Xg (J:=Itr 0 T.n.toNat) T.n.toNat (Nat.le_trans (by omega:_<=51) (by decide)) (λm zs τ H'=>Same H2 H'/\StL H' Cs T zs ((ZM T (plRow (nm,some b1))).take m)/\∃v,τ=[v,some (.ref a)]) ⟨Same.refl _,.nil,none,rfl⟩ (λm zs τ H' q=>by rw[q.2.1.len,aG];omega) (λm zs τ H' hm _=>hm) (λzs τ H' _=>Nat.le_refl _) (λm zs τ H' x H3 hm q yl=>?_) (λzs τ H5 q lr hlr=>?_)
   ·obtain⟨s2,sl2,v,rfl⟩:=q;obtain⟨rfl,rfl⟩:=yl;refine⟨_,rfl,_,rfl,λx' dx' hx' hdx' _=>⟨x',dx',a,_,_,VC _ (0+m),rfl,ZS 3 (by decide),Zf,Mo hx' hdx' (s2 _ _ ha1),⟨nm,_,_,rfl,rfl,rfl⟩,λH' s3 st=>⟨rfl,?_⟩⟩⟩;have s4:=UT hx' hdx' s3;refine⟨s2.trans s4,?_,_,rfl⟩;rw[show(ZM T (plRow (nm,some b1))).take (m+1)=(ZM T (plRow (nm,some b1))).take m++[VC (plRow (nm,some b1)) (0+m)]from by rw[ew];exact XB hm];exact(sl2.same s4).snoc st (.inr (.inr (.inr ⟨_,hy,0+m,rfl,(λz=>by cases z),by omega,by omega,rfl,rfl⟩)))
   ·obtain⟨s2,sl2,v,rfl⟩:=q;have s5:Same H2 (upd H5 lr (.lst zs)):=sameNew s2 hlr;have sl5:=sl2.same (sameNew (o:=.lst zs) (Same.refl H5) hlr);have er:upd H5 lr (.lst zs) lr=some (.lst zs):=Zf;generalize upd H5 lr (.lst zs)=H6 at s5 sl5 er ⊢;have lz:zs.length<=51:=by rw[sl5.len,aG];omega
    have ly:ys.length<=2040:=by rw[sl.len];exact Nat.le_trans (JT i) (Nat.le_trans (Vs ok).2.2.2 (by decide))
    have fin:∀c o,H6 c=some o->c≠p->upd H6 p (.lst (ys++zs)) c=some o:=λc o e hc=>by rw[Zj hc];exact e
    refine⟨p,lr,ys,zs,rfl,rfl,s5 _ _ ep,er,Nat.le_trans (by omega:_<=20000) (by decide),hdd _ _ ⟨?_,_,_,Zf,?_,rfl⟩⟩
    ·exact λc o e hc=>fin _ _ (s5 _ _ (s1 _ _ e hc)) hc
    ·refine StL.keepL (s5 _ _ ep) fin ((sl.same s5).app ?_);rw[aX (by rw[ew,lm,a_];exact Nat.le_refl _)]at sl5;exact sl5
 ·obtain⟨s1,ys,o,ep,sl,rfl⟩:=q;rw[aV]at sl;exact⟨_,rfl,k _ p ys (λc o e=>s1 _ _ e (Zi e hp)) hp ep sl⟩
noncomputable def Yj(T:Tb):List Sx:=T.t2.map XA++T.t3.flatMap (ZO T)++T.t1.flatMap (ZM T)
theorem GV(T:Tb):T.t4.flatMap (ZL T)++Yj T=allS T:=by unfold allS Yj;simp only[bU]
theorem P6:FnScope ["table"] ["table"] (Zd T.f_moves_of):=scO
noncomputable def VJ:Scope:=csx [(".0",.local),("row",.local),("Ride",.globalImplicit)]
theorem U7:CompScope VJ (Zd T.f_moves_of):=⟨rfl,by decide +kernel,by decide +kernel,by decide +kernel⟩
theorem U9:(["row"]:List Str).Nodup:=by decide +kernel
theorem U8:CompNames ["table"] VJ ["row"] [none]:=.mk' (by decide +kernel)
theorem Wv(B:∀x∈Blts,mg x=none)(Z:TCl K C)(ZS:∀j,j<4->SCl K (Cs j))(M:SMk P w K mg base "Ride" (Cs 1) ["self","row"] (spMk K Cs 1 Ra))(CW:Can P w K mg base 4 "walks_of" ["table"] (Vr C Cs λT=>T.t3.flatMap (ZO T)))(CA:Can P w K mg base 4 "waits_of" ["table"] (Vr C Cs λT=>T.t1.flatMap (ZM T)))(D:Df K mg "moves_of" T.f_moves_of ["table"]):Can P w K mg base 5 "moves_of" ["table"] (Vr C Cs Yj):=by
 obtain⟨fm,fdm,hM,FM,bM⟩:=M.made;refine D.cn P6 λf cdv A outer s H vs Q E hr h=>?_;obtain⟨t,T,rfl,tel,ok,k⟩:=h;obtain⟨fs,pr⟩:=V9 tel;obtain⟨l,xs,f1,f2,f3,f4⟩:=pr.r;obtain⟨dx,ht⟩:=pr.tab.at_;have pl:=Vs ok;refine⟨_,(Ze (Zn (Zp Z8 (Zp Z8 (ZQ rfl U7 U8 (MH (Z2 (pv 0) rfl)) (λC s H ex pn=>(nmT 0 U9)) (λC s H ex pn=>Yt) (λC s H ex pn=>(Ug hM FM hr.m rfl M.mg bM .nil Ys (Zc (pv 0) Zk)))) (cn CW hr (Zc (pv 0) Zk))) (cn CA hr (Zc (pv 0) Zk))))),?_⟩;refine⟨_,rfl,t,C,dx,fs,_,rfl,ht,Z.cl,Z.na _ (by simp[fields]),f1,l,rfl,⟨_,SqT.of f2⟩,?_⟩;refine Xg (J:=Itt K l) T.t2.length (Nat.le_trans (YC ok).2.1 (by decide)) (λm zs τ H'=>Same H H'/\StL H' Cs T zs ((T.t2.take m).map XA)/\∃v,τ=[v]) ⟨Same.refl _,.nil,none,rfl⟩ (λm zs τ H' q=>by rw[q.2.1.len,lm,aG];omega) (λm zs τ H' hm q=>⟨xs,xs[m]'(by omega),SqT.of (q.1 _ _ f2),gE _⟩) (λzs τ H' q=>⟨xs,SqT.of (q.1 _ _ f2),by omega⟩) (λm zs τ H' x H3 hm q yl=>?_) (λzs τ H5 q lr hlr=>?_)
 ·obtain⟨s2,sl2,v,rfl⟩:=q;have e1:T.t2[m]?=some T.t2[m]:=gE hm;obtain⟨a,ea,ha⟩:=f4 m _ e1;obtain⟨rfl,hx⟩:=yl;have hx2:=hx _ (SqT.of (s2 _ _ f2));rw[ea]at hx2;cases hx2;have hy:T.t2[m]∈T.t2:=aD hm;have ha1:=s2 _ _ ha;rw[map_take hm];generalize T.t2[m]=y at ha1 hy;obtain⟨a1,b1,d1,c1,e1,g1,rfl,_⟩:=Rb ok hy;refine⟨_,rfl,λx' dx' hx' hdx' _=>⟨x',dx',a,_,_,XA _,rfl,ZS 1 (by decide),Zf,Mo hx' hdx' ha1,⟨a1,b1,_,d1,_,_,rfl,rfl,rfl⟩,λH' s3 st=>⟨rfl,?_⟩⟩⟩;have s4:=UT hx' hdx' s3;exact⟨s2.trans s4,(sl2.same s4).snoc st (.inr (.inl ⟨_,hy,rfl,rfl,rfl⟩)),_,rfl⟩
 ·obtain⟨s2,sl2,v,rfl⟩:=q;rw[aV]at sl2;have s5:Same H (upd H5 lr (.lst zs)):=sameNew s2 hlr;have sl5:=sl2.same (sameNew (o:=.lst zs) (Same.refl H5) hlr);have er:upd H5 lr (.lst zs) lr=some (.lst zs):=Zf;have fr:H lr=none:=s2.free hlr;generalize upd H5 lr (.lst zs)=H6 at s5 sl5 er ⊢;refine⟨_,rfl,t,T,rfl,tel.same s5,ok,λH7 p2 ws s7 h7 e7 sl7=>?_⟩;replace sl7:StL H7 Cs T ws (T.t3.flatMap (ZO T)):=sl7;refine⟨lr,p2,zs,ws,rfl,rfl,s7 _ _ er,e7,?_,λp3 h3=>?_⟩
  ·rw[sl5.len,sl7.len];exact Nat.le_trans (by omega:_<=20000) (by decide)
  have s8:Same H7 (upd H7 p3 (.lst (zs++ws))):=sameNew (Same.refl _) h3;have slA:=((sl5.same s7).app sl7).same s8;have e8:upd H7 p3 (.lst (zs++ws)) p3=some (.lst (zs++ws)):=Zf;generalize upd H7 p3 (.lst (zs++ws))=H8 at s8 slA e8 ⊢;have S08:=s5.trans (s7.trans s8);refine⟨_,rfl,t,T,rfl,tel.same S08,ok,λH9 p4 us s9 h9 e9 sl9=>?_⟩;replace sl9:StL H9 Cs T us (T.t1.flatMap (ZM T)):=sl9;have slB:=(slA.same s9).app sl9;have S09:=S08.trans s9;refine⟨p3,p4,_,us,rfl,rfl,s9 _ _ e8,e9,?_,λp5 h5=>?_⟩
  ·rw[slA.len,sl9.len,ah];exact Nat.le_trans (by omega:_<=20000) (by decide)
  exact k _ p5 _ (sameNew S09 h5) (S09.free h5) Zf (slB.same (sameNew (Same.refl _) h5))
end
end SX
namespace L2
open PySem PySem.Spec PyProof.Rows
noncomputable abbrev MK:=Key ⊕ List Key
section
variable (P:Program)(w:World)
noncomputable def mIs(h:Heap):MK->Value->Prop
|.inl k,v=>(ZI P w).is k v=true
|.inr ks,v=>∃a,v=.ref a/\(ck (ZI P w)).is h ks a
noncomputable def mH:MK->Int
|.inl k=>(ZI P w).hash k
|.inr ks=>(ck (ZI P w)).hash ks
noncomputable def mD:MK->Nat
|.inl _=>1
|.inr ks=>(ck (ZI P w)).draws ks
noncomputable def mE(x:MK×Value×Value):DictEntry:=⟨mH P w x.1,x.2.1,x.2.2⟩
end
section
variable {P:Program}{w:World}{A:bz}{E:Value->ag->Prop}{s:ag}
theorem DI{h:Heap}{k:MK}{v:Value}(x:mIs P w h k v):(∃i t,v=.int i t)\/(∃i t,v=.str i t)\/∃a,v=.ref a:=by
 rcases k with k|ks
 ·rcases ZR x with⟨i,t,_,e⟩|⟨y,t,_,e⟩
  ·exact .inl ⟨_,_,e⟩
  ·exact .inr (.inl ⟨_,_,e⟩)
 ·obtain⟨a,e,_⟩:=x;exact .inr (.inr ⟨a,e⟩)
theorem Eu{h:Heap}{v:Value}{a b:MK}(x:mIs P w h a v)(y:mIs P w h b v):a=b:=by
 rcases a with a|a<;>rcases b with b|b
 ·rw[(ZI P w).inj v a b x y]
 ·obtain⟨c,rfl,_⟩:=y;rcases ZR x with⟨_,_,_,e⟩|⟨_,_,_,e⟩<;>cases e
 ·obtain⟨c,rfl,_⟩:=x;rcases ZR y with⟨_,_,_,e⟩|⟨_,_,_,e⟩<;>cases e
 ·obtain⟨c,rfl,p⟩:=x;obtain⟨c',e,q⟩:=y;cases e;rw[(ck (ZI P w)).inj p q]
theorem Lg{k:MK}{v:Value}{Q:Int->ag->Prop}(hu:A.units<cLine)(x:mIs P w s.heap k v)(h:Q (mH P w k) {s with toks:=s.toks+mD P w k}):wpAny (model P w) A (pyHash v) Q E s:=by
 rcases k with k|ks
 ·exact(ZI P w).pyHash x h
 ·obtain⟨a,rfl,p⟩:=x;exact(ck (ZI P w)).pyHash hu p h
theorem Er{h:Heap}{ks:List Key}{a:Addr}(p:(ck (ZI P w)).is h ks a):∃items,h.IsTuple a items:=by obtain⟨o,items,n,h1,h2,h3,_⟩:=p;exact⟨items,o,h1,h2,n,h3⟩
theorem m_eq{x y:MK}{u v:Value}{Q:Bool->ag->Prop}(hu:A.units<cLine)(hx:mIs P w s.heap x u)(hy:mIs P w s.heap y v)(h:Q (decide (x=y)) s):wpAny (model P w) A (eqBool u v) Q E s:=by
 rcases x with a|a<;>rcases y with b|b
 ·refine(ZI P w).eqBool hx hy ?_;rwa [show decide (a=b)=decide ((fI a:MK)=.inl b)from by by_cases e:a=b<;>simp[e]]
 ·obtain⟨c,rfl,p⟩:=hy;obtain⟨its,it⟩:=Er p;rw[decide_eq_false (λq=>nomatch q)]at h;rcases ZR hx with⟨i,t,_,rfl⟩|⟨i,t,_,rfl⟩
  ·exact SeqAt.EqAt.int_tuple i t it hu _ _ _ _ h
  ·exact SeqAt.EqAt.str_tuple i t it hu _ _ _ _ h
 ·obtain⟨c,rfl,p⟩:=hx;obtain⟨its,it⟩:=Er p;rw[decide_eq_false (λq=>nomatch q)]at h;rcases ZR hy with⟨i,t,_,rfl⟩|⟨i,t,_,rfl⟩
  ·exact SeqAt.EqAt.tuple_int i t it hu _ _ _ _ h
  ·exact SeqAt.EqAt.tuple_str i t it hu _ _ _ _ h
 ·obtain⟨c,rfl,p⟩:=hx;obtain⟨d,rfl,q⟩:=hy;refine(ck (ZI P w)).eqBool hu p q ?_;rwa [show decide (a=b)=decide ((cA a:MK)=.inr b)from by by_cases e:a=b<;>simp[e]]
theorem SR{k:MK}{v:Value}{Q:Bool->ag->Prop}(x:mIs P w s.heap k v)(h:Q true s):wpAny (model P w) A (eqIsQuiet 8 v) Q E s:=by
 rcases k with k|ks
 ·rw[eqIsQuiet_byValue _ ((ZI P w).byValue k v x)];exact ai h
 ·obtain⟨a,rfl,p⟩:=x;exact(ck (ZI P w)).quiet p h
theorem DH{key:Value}{k:MK}{stored:List Value}{Q:Bool->ag->Prop}(hkey:mIs P w s.heap k key)(hst:∀v∈stored,∃k',mIs P w s.heap k' v)(h:Q false s):wpAny (model P w) A (tableMayTell key stored) Q E s:=by
 unfold tableMayTell;split
 ·exact ai h
 ·refine ae (SR hkey ?_);simp only[Bool.not_true,Bool.false_eq_true,if_false];refine ae ?_;refine wpAny_forIn_list _ (λrest r s'=>s'=s/\r=(none,())/\∀v∈rest,∃k',mIs P w s.heap k' v) _ ?_ ?_ _ _ ⟨rfl,rfl,hst⟩
  ·rintro x rest r s' ⟨rfl,rfl,hr⟩;obtain⟨k',hb⟩:=hr x aE;refine ae (SR hb ?_);simp only[Bool.not_true,Bool.false_eq_true,if_false];exact ai ⟨rfl,rfl,λv hv=>hr v (av _ hv)⟩
  ·rintro r s' ⟨rfl,rfl,_⟩;exact ai h
theorem Es{h:Heap}{k:MK}{x:Str}{t:Tok}{v:Value}(p:mIs P w h k (.str x t)):(v.isStr x=true)↔mIs P w h k v:=by
 rcases k with k|ks
 ·show _↔(ZI P w).is k v=true;rw[(ZI P w).strs k x t v p]
 ·obtain⟨a,e,_⟩:=p;cases e
theorem SW{es:Array DictEntry}{xs:List (MK×Value×Value)}(he:es.toList=xs.map (mE P w))(j:Nat):es[j]?=(xs[j]?).map (mE P w):=by rw[<-Array.getElem?_toList,he,aJ]
theorem SV{es:Array DictEntry}{xs:List (MK×Value×Value)}(he:es.toList=xs.map (mE P w)):es.size=xs.length:=by rw[<-da,he,lm]
theorem Fl{xs:List (MK×Value×Value)}(hn:(xs.map (·.1)).Nodup):∀{i j:Nat}{k:MK}{p q:Value×Value},xs[i]?=some (k,p)->xs[j]?=some (k,q)->i=j:=by
 intro i j k p q hi hj;have hi':(xs.map (·.1))[i]?=some k:=by rw[aJ,hi];rfl
 have hj':(xs.map (·.1))[j]?=some k:=by rw[aJ,hj];rfl
 exact(List.getElem?_inj (aj.mp hi').1 hn).mp (hi'.trans hj'.symm)
theorem Te{α:Type}{M:Model}{c:Prop}[Decidable c]{a b:Sem α}{Q:α->ag->Prop}(h1:wpAny M A a Q E s)(h2:wpAny M A b Q E s):wpAny M A (if c then a else b) Q E s:=by split<;>assumption
theorem MS{α:Type}{M:Model}{c:Prop}[Decidable c]{t:Sem Bool}{f:Bool->Sem α}{Q:α->ag->Prop}(h1:wpAny M A (f false) Q E s)(h2:∀Q':Bool->ag->Prop,Q' false s->wpAny M A t Q' E s):wpAny M A (if c then(pure false >>= f)else(t >>= f)) Q E s:=Te (ae (ai h1)) (ae (h2 _ h1))
theorem share{α:Type}{M:Model}{C:Value->Prop}{F:Value->Sem α}{Q:α->ag->Prop}{g:Prop}(G:(∀kk,C kk->wpAny M A (F kk) Q E s)->g)(H:∀kk,C kk->wpAny M A (F kk) Q E s):g:=G H
theorem Fn{xs:List (MK×Value×Value)}{k:MK}{f:Nat->Bool}{i x:Nat}{hit:Option Nat}(haskey:∀(j:Nat)(p:Value×Value),xs[j]?=some (k,p)->f j=true)(hskip:∀j,i<=j->j<x->f j=false)(hH:(hit=none/\∀j p,j<i->xs[j]?≠some (k,p))\/∃j p,hit=some j/\j<i/\xs[j]?=some (k,p))(hix:i<=x:=by assumption):(hit=none/\∀j p,j<x->xs[j]?≠some (k,p))\/∃j p,hit=some j/\j<x/\xs[j]?=some (k,p):=by
 rcases hH with⟨h0,hno⟩|⟨j,p,h1,hji,hj⟩
 ·refine .inl ⟨h0,λj p hjx hj=>?_⟩;rcases Nat.lt_or_ge j i with h|h
  ·exact hno j p h hj
  ·have:=hskip j h hjx;rw[haskey j p hj]at this;exact absurd this (by decide)
 ·exact .inr ⟨j,p,h1,by omega,hj⟩
theorem Fm{xs:List (MK×Value×Value)}{k k':MK}{x:Nat}{hit:Option Nat}{b v':Value}(hkv:xs[x]?=some (k',b,v'))(hne:¬k'=k)(hHx:(hit=none/\∀j p,j<x->xs[j]?≠some (k,p))\/∃j p,hit=some j/\j<x/\xs[j]?=some (k,p)):(hit=none/\∀j p,j<x+1->xs[j]?≠some (k,p))\/∃j p,hit=some j/\j<x+1/\xs[j]?=some (k,p):=by
 rcases hHx with⟨h0,hno⟩|⟨j,p,h1,hjx,hj⟩
 ·refine .inl ⟨h0,λj p hjx hj=>?_⟩;rcases Nat.lt_or_ge j x with h|h
  ·exact hno j p h hj
  ·have hjx':j=x:=by omega
   subst hjx';rw[hkv]at hj;injection hj with hj;injection hj with hj;exact hne hj
 ·exact .inr ⟨j,p,h1,by omega,hj⟩
theorem m_find{d:Addr}{key:Value}{o:Obj}{es ep}{xs:List (MK×Value×Value)}{k:MK}{Q:Option Nat->ag->Prop}(hu:A.units<cLine)(hkey:mIs P w s.heap k key)(ho:s.heap.get? d=some o)(hd:o.data=.dict es ep)(he:es.toList=xs.map (mE P w))(his:∀x∈xs,mIs P w s.heap x.1 x.2.1)(hn:(xs.map (·.1)).Nodup)(hnone:(∀(j:Nat)(p:Value×Value),xs[j]?≠some (k,p))->Q none s)(hsome:∀(j:Nat)(p:Value×Value),xs[j]?=some (k,p)->Q (some j) s):wpAny (model P w) A (dictFind d key (mH P w k)) Q E s:=by
 have hsz:es.size=xs.length:=SV he;have haskey:∀(j:Nat)(p:Value×Value),xs[j]?=some (k,p)->((es[j]?.map (·.hash))==some (mH P w k))=true:=by intro j p hj;rw[SW he j,hj];simp[mE]
 have hmem:∀e∈es,∃x∈xs,e=mE P w x:=by intro e hin;have:e∈xs.map (mE P w):=he▸dO.mpr hin;obtain⟨x,hx,rfl⟩:=af.mp this;exact⟨x,hx,rfl⟩
 have hat:∀x,x<es.size->∃k' b v',xs[x]?=some (k',b,v')/\mIs P w s.heap k' b/\es[x]?=some ⟨mH P w k',b,v'⟩:=by intro x hlt;obtain⟨⟨k',b,v'⟩,hkv⟩:∃y,xs[x]?=some y:=⟨xs[x]'(by rw[<-hsz];exact hlt),gE _⟩;exact⟨k',b,v',hkv,his _ (au hkv),by rw[SW he x,hkv];rfl⟩
 have hany:¬(es.any λe=>e.key==key&&e.hash != mH P w k)=true:=by rw[<-Array.any_toList,bC];rintro ⟨e,hin,hc⟩;obtain⟨x,hx,rfl⟩:=hmem e (dO.mp hin);simp only[mE,Bool.and_eq_true,beq_iff_eq,bne_iff_ne,ne_eq]at hc;obtain⟨hxa,hne⟩:=hc;have:=his x hx;rw[hxa]at this;exact hne (by rw[Eu this hkey])
 have hst:∀v∈(gh es.size (λi=>es[i]?.map (·.hash)) (mH P w k)).filterMap (λi=>es[i]?.map (·.key)),∃k',mIs P w s.heap k' v:=by
  intro v hv;obtain⟨i,_,hi⟩:=f6.mp hv;cases hei:es[i]? with
 |none=>rw[hei]at hi;cases hi
 |some e=>
   rw[hei]at hi;obtain rfl:e.key=v:=by simpa using hi
   obtain⟨x,hx,rfl⟩:=hmem e (Array.mem_of_getElem? hei);exact⟨x.1,his x hx⟩
 have nolate:∀i,(∀j p,j<i->xs[j]?≠some (k,p))->(∀j,i<=j->j<es.size->((es[j]?.map (·.hash))==some (mH P w k))=false)->Q none s:=by
  intro i hno hall;refine hnone λj p hj=>?_;rcases Nat.lt_or_ge j i with h|h
  ·exact hno j p h hj
  ·have hjl:j<es.size:=by
    rw[hsz];rcases Nat.lt_or_ge j xs.length with h'|h'
    ·exact h'
    ·rw[cY h']at hj;exact nomatch hj
   have:=hall j h hjl;rw[haskey j p hj]at this;exact absurd this (by decide)
 have plain:wpAny (model P w) A (dictWalkPlain d key (mH P w k) es (gh es.size (λi=>es[i]?.map (·.hash)) (mH P w k))) Q E s:=by
  refine ae ?_;refine wpAny_forIn_list _ (λrest b s'=>s'=s/\b=(none,())/\∃i,rest=(gL i (es.size-i)).filter (λi=>(es[i]?.map (·.hash))==some (mH P w k))/\i<=es.size /\∀j p,j<i->xs[j]?≠some (k,p)) _ ?_ ?_ _ _ ⟨rfl,rfl,0,by rw[gh,List.range_eq_range',Nat.sub_zero],Nat.zero_le _,λ_ _ h=>absurd h (Nat.not_lt_zero _)⟩
  ·rintro x rest b s' ⟨rfl,rfl,i,hr,hi,hno⟩;obtain⟨hix,hxn,hpx,hskip,hrest⟩:=filter_range'_cons _ _ _ _ _ hr.symm;have hlt:x<es.size:=by omega
   obtain⟨k',b,v',hkv,hib,hex⟩:=hat x hlt;have hnext:¬k'=k->∃i,rest=(gL i (es.size-i)).filter (λi=>(es[i]?.map (·.hash))==some (mH P w k))/\i<=es.size /\∀j p,j<i->xs[j]?≠some (k,p):=λhne=>
    ⟨x+1,by rw[hrest];congr 2;omega,hlt,λj p hji hj=>by
     rcases Nat.lt_or_ge j i with h|h
     ·exact hno j p h hj
     ·rcases Nat.lt_or_ge j x with h'|h'
      ·have:=hskip j h h';rw[haskey j p hj]at this;exact absurd this (by decide)
      ·have:j=x:=by omega
       subst this;rw[hkv]at hj;injection hj with hj;injection hj with hj;exact hne hj⟩
   rw[hex];dsimp only;by_cases hh:(mH P w k'==mH P w k)=true
   ·rw[if_pos hh];refine ae (b7 ho hd (ae (m_eq (x:=k') (y:=k) hu hib hkey (ae (b7 ho hd ?_)))));show wpAny _ _ (if(ep != ep)=true then _ else _) _ E _;rw[if_neg (by simp)];by_cases hkk:k'=k
    ·rw[decide_eq_true hkk];subst hkk;exact ae (dB (ai (ai (hsome x _ hkv))))
    ·rw[decide_eq_false hkk];exact ae (dB (ai ⟨rfl,rfl,hnext hkk⟩))
   ·rw[if_neg hh];refine ai ⟨rfl,rfl,hnext ?_⟩;intro hkk;rw[hkk]at hh;simp at hh
  ·rintro b s' ⟨rfl,rfl,i,hr,hi,hno⟩;refine ai (nolate i hno λj h1 h2=>?_);have:=dz.mp hr.symm j (List.mem_range'_1.mpr ⟨h1,by omega⟩);simpa using this
 have byS:∀x t,key=.str x t->wpAny (model P w) A (foundByValue d key es x) Q E s:=by
  intro x t ek;subst ek;unfold foundByValue;cases hf:es.findIdx? (λe=>e.key.isStr x)with
 |none=>
   refine ai (hnone λj p hj=>?_);have q:=Array.findIdx?_eq_none_iff.mp hf (mE P w (k,p)) (by
    have z:es[j]?=some (mE P w (k,p)):=by rw[SW he j,hj];rfl
    exact Array.mem_of_getElem? z);rw[(Es hkey (v:=(mE P w (k,p)).key)).mpr (his _ (au hj))]at q;cases q
 |some i=>
   obtain⟨hlt,hi,_⟩:=Array.findIdx?_eq_some_iff_getElem.mp hf;obtain⟨k',b,v',hkv,hib,hex⟩:=hat i hlt;have ee:es[i]=⟨mH P w k',b,v'⟩:=by rw[Array.getElem?_eq_getElem hlt]at hex;exact aB hex
   rw[ee]at hi;have hkk:k'=k:=Eu hib ((Es hkey).mp hi);simp only[hex];refine ae (b7 ho hd (ae (m_eq (x:=k') (y:=k) hu hib hkey (ae (b7 ho hd ?_)))));show wpAny _ _ (if(ep != ep)=true then _ else _) _ E _;rw[if_neg (by simp),decide_eq_true hkk];subst hkk;exact ae (dB (ai (hsome i _ hkv)))
 unfold dictFind;try with_reducible refine bh ?_
 refine ae (c9 ho hd ?_);refine share (C:=mIs P w s.heap k) (Q:=Q) (E:=E) (A:=A) (M:=model P w) (s:=s) (λHH=>by
  rcases DI hkey with⟨i,t,ek⟩|⟨x,t,ek⟩|⟨a,ek⟩<;>rw[ek]<;>dsimp only<;>rw[<-ek];case' inr.inl=>refine Te (byS x t ek) ?_
  case' inr.inr=>rw[if_neg (by rw[ek];simp[carriedByValue]),if_neg hany]
  case' inl=>refine Te plain ?_
  case' inr.inl=>refine Te plain ?_
  all_goals
   refine MS ?_ (λQ' h=>DH hkey hst h);have hk2:=hkey;revert hk2;generalize key=kk;intro hk2;exact HH kk hk2) ?_
 clear plain byS hany hkey key;intro key hkey;rw[if_neg (by simp)];refine ae ?_;refine wpAny_forIn_list _ (λrest b s'=>s'=s/\∃i hit,b=(none,hit)/\rest=(gL i (es.size-i)).filter (λi=>(es[i]?.map (·.hash))==some (mH P w k))/\i<=es.size /\((hit=none/\∀j p,j<i->xs[j]?≠some (k,p))\/∃j p,hit=some j/\j<i/\xs[j]?=some (k,p))) _ ?_ ?_ _ _ ⟨rfl,0,none,rfl,by rw[gh,List.range_eq_range',Nat.sub_zero],Nat.zero_le _,.inl ⟨rfl,λ_ _ h=>absurd h (Nat.not_lt_zero _)⟩⟩
 ·rintro x rest b s' ⟨rfl,i,hit,rfl,hr,hi,hH⟩;obtain⟨hix,hxn,hpx,hskip,hrest⟩:=filter_range'_cons _ _ _ _ _ hr.symm;have hlt:x<es.size:=by omega
  have hrest':rest=(gL (x+1) (es.size-(x+1))).filter (λi=>(es[i]?.map (·.hash))==some (mH P w k)):=by rw[hrest];congr 2;omega
  obtain⟨k',b,v',hkv,hib,hex⟩:=hat x hlt;have hHx:=Fn haskey hskip hH;have hstay:¬k'=k->_:=λhne=>Fm hkv hne hHx;rw[hex];dsimp only;by_cases hh:(mH P w k'==mH P w k)=true
  ·rw[if_pos hh];refine ae (b7 ho hd (ae (m_eq (x:=k') (y:=k) hu hib hkey (ae (b7 ho hd ?_)))));show wpAny _ _ (if(ep != ep)=true then _ else _) _ E _;rw[if_neg (by simp)];by_cases hkk:k'=k
   ·rw[decide_eq_true hkk];subst hkk;rcases hHx with⟨rfl,_⟩|⟨j,p,_,hjx,hj⟩
    ·first|rw[if_pos rfl]|skip
     simp only[Option.isSome_none,Bool.false_eq_true,if_false];first|refine ae (ai ?_)|skip
     refine ae (dB ?_);split
     ·exact ai (ai (hsome x _ hkv))
     ·exact ai ⟨rfl,x+1,some x,rfl,hrest',hlt,.inr ⟨x,_,rfl,Nat.lt_succ_self x,hkv⟩⟩
    ·exact absurd (Fl hn hj hkv) (by omega)
   ·rw[decide_eq_false hkk];simp only[Bool.false_eq_true,if_false];refine ae (dB ?_);first|rw[if_neg (by simp)]|skip
    first
    |exact ai ⟨rfl,x+1,hit,rfl,hrest',hlt,hstay hkk⟩
    |exact ae (ai (ai ⟨rfl,x+1,hit,rfl,hrest',hlt,hstay hkk⟩))
  ·rw[if_neg hh];refine ai ⟨rfl,x+1,hit,rfl,hrest',hlt,hstay ?_⟩;intro hkk;rw[hkk]at hh;simp at hh
 ·rintro b s' ⟨rfl,i,hit,rfl,hr,hi,hH⟩;rcases hH with⟨rfl,hno⟩|⟨j,p,rfl,_,hj⟩
  ·refine ai (nolate i hno λj h1 h2=>?_);have:=dz.mp hr.symm j (List.mem_range'_1.mpr ⟨h1,by omega⟩);simpa using this
  ·exact ai (hsome j p hj)
end
noncomputable def mAt(xs:List (MK×Value×Value))(k:MK):Option (Value×Value):=(xs.find? λx=>decide (x.1=k)).map (·.2)
noncomputable def mPut(k:MK)(v:Value)(x:MK×Value×Value):MK×Value×Value:=if x.1=k then(x.1,x.2.1,v)else x
noncomputable def mSto(xs:List (MK×Value×Value))(k:MK)(a v:Value):List (MK×Value×Value):=if(mAt xs k).isSome then xs.map (mPut k v)else xs++[(k,a,v)]
theorem SY{xs:List (MK×Value×Value)}(hn:(xs.map (·.1)).Nodup){i:Nat}{k:MK}{p:Value×Value}(hx:xs[i]?=some (k,p)):mAt xs k=some p:=by
 induction xs generalizing i with
|nil=>simp at hx
|cons x rest ih=>
  rw[ar,bB]at hn;cases i with
 |zero=>simp only[List.getElem?_cons_zero,Option.some.injEq]at hx;subst hx;simp[mAt]
 |succ j=>simp only[List.getElem?_cons_succ]at hx;have hmem:k∈rest.map (·.1):=af.mpr ⟨(k,p),au hx,rfl⟩;have hne:¬x.1=k:=λe=>hn.1 (e▸hmem);have:=ih hn.2 hx;simpa[mAt,bV,hne]using this
theorem Qr{xs:List (MK×Value×Value)}{k:MK}(h:∀(j:Nat)(p:Value×Value),xs[j]?≠some (k,p)):mAt xs k=none:=by
 have:(xs.find? λx=>decide (x.1=k))=none:=by rw[List.find?_eq_none];intro x hx hk;obtain⟨j,hj⟩:=aU.mp hx;have hk':x.1=k:=of_decide_eq_true hk;exact h j x.2 (by rw[hj,<-hk'])
 simp[mAt,this]
theorem Fo{xs:List (MK×Value×Value)}{k:MK}(h:∀(j:Nat)(p:Value×Value),xs[j]?≠some (k,p)):k∉xs.map (·.1):=by intro hm;obtain⟨x,hx,rfl⟩:=af.mp hm;obtain⟨j,hj⟩:=aU.mp hx;exact h j x.2 hj
theorem DJ(xs:List (MK×Value×Value))(k:MK)(v:Value)(hn:k∉xs.map (·.1)):xs.map (mPut k v)=xs:=by
 induction xs with
|nil=>rfl
|cons x xs ih=>simp only[ar,ao,not_or]at hn ⊢;rw[mPut,if_neg (λe=>hn.1 e.symm),ih hn.2]
theorem TY(xs:List (MK×Value×Value))(k:MK)(v:Value):(xs.map (mPut k v)).map (·.1)=xs.map (·.1):=by rw[bA];refine de λx _=>?_;show(mPut k v x).1=x.1;unfold mPut;split<;>rfl
theorem Qq{P:Program}{w:World}{k:MK}{v:Value}:∀{xs:List (MK×Value×Value)}{j:Nat}{p:Value×Value},(xs.map (·.1)).Nodup->xs[j]?=some (k,p) ->(xs.map (mE P w)).modify j (λe=>{e with val:=v})=(xs.map (mPut k v)).map (mE P w)
|[],j,p,_,hj=>by simp at hj
|x::rest,0,p,hn,hj=>by rw[ar,bB]at hn;simp only[List.getElem?_cons_zero,Option.some.injEq]at hj;subst hj;rw[ar,ar,DJ rest k v hn.1,mPut,if_pos rfl,ar];rfl
|x::rest,j+1,p,hn,hj=>by rw[ar,bB]at hn;simp only[List.getElem?_cons_succ]at hj;have hmem:k∈rest.map (·.1):=af.mpr ⟨(k,p),au hj,rfl⟩;have hne:¬x.1=k:=λe=>hn.1 (e▸hmem);rw[ar,ar,mPut,if_neg hne,ar];show mE P w x::(rest.map (mE P w)).modify j _=mE P w x::(rest.map (mPut k v)).map (mE P w);rw[Qq hn.2 hj]
def MD(P:Program)(w:World)(h:Heap)(d:Addr)(xs:List (MK×Value×Value)):Prop:=∃o es ep,h.get? d=some o/\o.ExactDict/\o.data=.dict es ep/\es.toList=xs.map (mE P w)/\(xs.map (·.1)).Nodup
section
variable {P:Program}{w:World}{A:bz}{E:Value->ag->Prop}{s:ag}{d:Addr}{xs:List (MK×Value×Value)}{k:MK}{key v:Value}
theorem MD.typeIs(hm:MD P w s.heap d xs):s.TypeIs (.ref d) "dict":=by obtain⟨o,_,_,ho,hc,_⟩:=hm;exact⟨o,ho,hc.1⟩
theorem HN{Q:Option Value->ag->Prop}(hu:A.units<cLine)(hkey:mIs P w s.heap k key)(hm:MD P w s.heap d xs)(his:∀x∈xs,mIs P w s.heap x.1 x.2.1)(h:Q ((mAt xs k).map (·.2)) {s with toks:=s.toks+mD P w k}):wpAny (model P w) A (dictGet d key) Q E s:=by
 obtain⟨o,es,ep,ho,_,hd,he,hn⟩:=hm;unfold dictGet;try with_reducible refine bh ?_
 refine ae (Lg hu hkey (ae (m_find (s:={s with toks:=s.toks+mD P w k}) hu hkey ho hd he his hn ?_ ?_)))
 ·intro hno;rw[Qr hno]at h;exact ai h
 ·intro j p hj;rw[SY hn hj]at h;refine ae (c9 (s:={s with toks:=s.toks+mD P w k}) ho hd ?_);rw[SW he j,hj];exact ai h
theorem MD.push{o:Obj}{es:Array DictEntry}{ep:Nat}{h:Heap}(ho:h.get? d=some o)(hc:o.ExactDict)(hd:o.data=.dict es ep)(he:es.toList=xs.map (mE P w))(hn:(xs.map (·.1)).Nodup)(hno:∀(j:Nat)(p:Value×Value),xs[j]?≠some (k,p)):MD P w (h.update d (·.mapDictKeys λes=>es.push ⟨mH P w k,key,v⟩)) d (xs++[(k,key,v)]):=by
 refine⟨_,_,ep+1,Heap.get?_update_self _ ho (Obj.isFreed_of_dict (Obj.data_mapDictKeys hd _)),hc.mapDictKeys _,Obj.data_mapDictKeys hd _,?_,?_⟩
 ·simp[he,mE]
 ·rw[aI,cw];refine⟨hn,by simp,?_⟩;intro x hx y hy;simp only[ar,d5,ay]at hy;subst hy;exact λe=>Fo hno (e▸hx)
theorem Et{Q:Unit->ag->Prop}(hu:A.units<cLine)(hkey:mIs P w s.heap k key)(hm:MD P w s.heap d xs)(his:∀x∈xs,mIs P w s.heap x.1 x.2.1)(hQ:∀h',MD P w h' d (mSto xs k key v)->Heap.SameBut d s.heap h'->Q () {s with heap:=h',toks:=s.toks+mD P w k})(hsz:xs.length<=sizeLine):wpAny (model P w) A (dictSet d key v) Q E s:=by
 obtain⟨o,es,ep,ho,hc,hd,he,hn⟩:=hm;unfold dictSet;try with_reducible refine bh ?_
 refine ae (Lg hu hkey ?_);unfold dictSetHashed;try with_reducible refine bh ?_
 refine ae (m_find (s:={s with toks:=s.toks+mD P w k}) hu hkey ho hd he his hn ?_ ?_)
 ·intro hno;have e:mSto xs k key v=xs++[(k,key,v)]:=by simp[mSto,Qr hno]
  rw[e]at hQ;exact ae (dB (wpAny_updateDictKeys (hz:=by have e:=SV he;omega) (s:={s with toks:=s.toks+mD P w k}) ho hd (hQ _ (MD.push ho hc hd he hn hno) (Heap.SameBut.update ..))))
 ·intro j p hj;have e:mSto xs k key v=xs.map (mPut k v):=by simp[mSto,SY hn hj]
  rw[e]at hQ;refine ae (dB (ae (wpAny_updateDict (s:={s with toks:=s.toks+mD P w k}) ho hd (wpAny_point (hQ _ ⟨_,_,ep,Heap.get?_update_self _ ho (Obj.isFreed_of_dict (Obj.data_mapDict hd _)),hc.mapDict _,Obj.data_mapDict hd _,?_,?_⟩ (Heap.SameBut.update ..))))))
  ·have:=Qq (P:=P) (w:=w) (v:=v) hn hj;rw[<-he]at this;obtain⟨l⟩:=es;simpa using this
  ·rw[TY];exact hn
theorem m_contains{Q:Bool->ag->Prop}(hu:A.in1.units<cLine)(hkey:mIs P w s.heap k key)(hd:(d==sysModules)=false)(hm:MD P w s.heap d xs)(his:∀x∈xs,mIs P w s.heap x.1 x.2.1)(h:Q (mAt xs k).isSome {s with toks:=s.toks+mD P w k}):wpAny (model P w) A (contains (.ref d) key) Q E s:=by
 unfold contains;try with_reducible refine bh ?_
 refine ae (wpAny_specialOf hm.typeIs gO.lookup ?_);show wpAny _ _ (if(some (Value.builtin "dict.__contains__")==some Value.none)=true then _ else _) _ E s;rw[if_neg (by rw[beq_builtin_none];exact Bool.false_ne_true)];refine ae (wpAny_callSpecialUnlessNone?_slot (name:=Str.ofString "__contains__") hm.typeIs gO (cV gO hm.typeIs entry_dict_contains ?_ (args_dict_contains _ _)));show wpAny _ _ (dictGet d key >>= _) _ _ s;refine ae (HN hu hkey hm his ?_);cases hf:mAt xs k with
|some p=>rw[hf]at h;show wpAny _ _ (ret (.bool true)) _ _ _;exact ai ⟨_,rfl,bt h⟩
|none=>rw[hf]at h;show wpAny _ _ (Builtin.Dict.pendingKey? d key >>= _) _ _ _;exact ae (wpAny_pendingKey_other hd (ai ⟨_,rfl,bt h⟩))
theorem TX{Q:Unit->ag->Prop}(hu:A.in1.units<cLine)(hkey:mIs P w s.heap k key)(hm:MD P w s.heap d xs)(his:∀x∈xs,mIs P w s.heap x.1 x.2.1)(hQ:∀h',MD P w h' d (mSto xs k key v)->Heap.SameBut d s.heap h'->Q () {s with heap:=h',toks:=s.toks+mD P w k})(hsz:xs.length<=sizeLine):wpAny (model P w) A (setItem (.ref d) key v) Q E s:=by
 unfold setItem;try with_reducible refine bh ?_
 refine ae (wpAny_sequenceKey hm.typeIs (by decide) ?_);refine ae (bZ (name:=Str.ofString "__setitem__") hm.typeIs slot_dict_setitem (cV slot_dict_setitem hm.typeIs entry_dict_setitem ?_ (args_dict_setitem _ _ _)));show wpAny _ _ (Builtin.Dict.notOrdered "__setitem__" ⟨[.ref d,key,v],[]⟩ >>= _) _ _ s;refine ae (fS hm.typeIs ?_);show wpAny _ _ (dictSet d key v >>= _) _ _ s;exact ae (Et hu hkey hm his (λh' hm' hs'=>ai ⟨.none,rfl,ai (hQ h' hm' hs')⟩) hsz)
end
noncomputable def mdO(P:Program)(w:World)(a:Addr)(xs:List (MK×Value×Value)):HO:=.ext λh=>MD P w h a xs
noncomputable def KyV(H:Hp):MK->Value->Prop
|.inl k,v=>MR k v=true
|.inr ks,v=>∃b,v=.ref b/\H b=some (.tup (ks.map kV))
noncomputable def KyM(H:Hp):MK->V->Prop
|.inl k,y=>y=kV k
|.inr ks,y=>∃b,y=.ref b/\H b=some (.tup (ks.map kV))
noncomputable def KM(H:Hp):List (MK×V)->List (MK×Value×Value)->Prop:=bo λp q=>p.1=q.1/\KyV H p.1 q.2.1/\RelV p.2 q.2.2
def DM(P:Program)(w:World)(H:Hp)(a:Addr)(kvs:List (MK×V)):Prop:=∃xs,Rd H a (mdO P w a xs)/\KM H kvs xs/\kvs.length<=sizeLine/\(a==sysModules)=false
def DMw(P:Program)(w:World)(H:Hp)(a:Addr)(kvs:List (MK×V)):Prop:=∃xs,H a=some (mdO P w a xs)/\KM H kvs xs/\kvs.length<=sizeLine/\(a==sysModules)=false
section
variable {P:Program}{w:World}{H H':Hp}{h:Heap}{a:Addr}{kvs:List (MK×V)}{xs:List (MK×Value×Value)}{k:MK}{y:V}{u:Value}
theorem DMw.rd(d:DMw P w H a kvs):DM P w H a kvs:=by obtain⟨xs,e,r⟩:=d;exact⟨xs,.inl e,r⟩
theorem Rj(x:MD P w h a xs):Z4 P w H h a (mdO P w a xs):=by have y:=x;obtain⟨o,_,_,ho,_⟩:=y;refine⟨x,⟨o,ho⟩,λh1 h2 p k=>?_⟩;obtain⟨o,es,ep,ho,r⟩:=p;exact⟨o,es,ep,k _ ho,r⟩
theorem KyV.is(ok:HOk P w H h):∀{k:MK}{v:Value},KyV H k v->mIs P w h k v
|.inl k,v,x=>x
|.inr ks,v,⟨b,e,hb⟩=>⟨b,e,MQ ok hb⟩
theorem KyM.val(P:Program)(w:World):∀{k:MK}{y:V}{u:Value},KyM H k y->RelV y u->KyV H k u
|.inl k,y,u,x,r=>by cases(show y=kV k from x);exact Qu (P:=P) (w:=w) r
|.inr ks,y,u,⟨b,e,hb⟩,r=>by subst e;exact⟨b,r,hb⟩
theorem KyV.keeps(ht:∀b ys,H b=some (.tup ys)->H' b=some (.tup ys)):∀{k:MK}{v:Value},KyV H k v->KyV H' k v
|.inl k,v,x=>x
|.inr ks,v,⟨b,e,hb⟩=>⟨b,e,ht _ _ hb⟩
theorem KM.keeps(ht:∀b ys,H b=some (.tup ys)->H' b=some (.tup ys))(r:KM H kvs xs):KM H' kvs xs:=Paired.mapP r λ_ _ z=>⟨z.1,z.2.1.keeps ht,z.2.2⟩
theorem KM.is(ok:HOk P w H h)(r:KM H kvs xs):∀x∈xs,mIs P w h x.1 x.2.1:=by
 induction r with
|nil=>intro x hx;exact nomatch hx
|@cons p q ps qs hq t ih=>
  intro x hx;rcases ao.mp hx with e|hx
  ·subst e;exact(show KyV H x.1 x.2.1 from by rw[<-hq.1];exact hq.2.1).is ok
  ·exact ih x hx
theorem KM.val(r:KM H kvs xs)(k:MK):RelO (valV kvs k) ((mAt xs k).map (·.2)):=by
 induction r with
|nil=>exact bK
|@cons p q ps qs h t ih=>
  obtain⟨h1,_,h2⟩:=h;by_cases e:p.1=k
  ·have e':q.1=k:=h1.symm.trans e;have b:mAt (q::qs) k=some q.2:=by simp[mAt,bV,e']
   rw[Yv e,b];exact h2
  ·have e':¬q.1=k:=λz=>e (h1.trans z);have b:mAt (q::qs) k=mAt qs k:=by simp[mAt,bV,e']
   rw[Yw e,b];exact ih
theorem KM.repl(r:KM H kvs xs)(k:MK){y:V}{u:Value}(ry:RelV y u):KM H (kvs.map λkv=>if kv.1=k then(kv.1,y)else kv) (xs.map (mPut k u)):=by
 induction r with
|nil=>exact .nil
|@cons p q ps qs h t ih=>
  rw[ar,ar];refine .cons ?_ ih;obtain⟨h1,h2,h3⟩:=h;unfold mPut;by_cases e:p.1=k
  ·rw[if_pos e,if_pos (h1.symm.trans e)];exact⟨h1,h2,ry⟩
  ·rw[if_neg e,if_neg (λz=>e (h1.trans z))];exact⟨h1,h2,h3⟩
theorem KM.any(r:KM H kvs xs)(k:MK):(kvs.any λkv=>decide (kv.1=k))=(mAt xs k).isSome:=by rw[X8,(r.val k).isSome_eq,dv]
theorem KM.put(r:KM H kvs xs)(k:MK){b:Value}{y:V}{u:Value}(hb:KyV H k b)(ry:RelV y u):KM H (putK kvs k y) (mSto xs k b u):=by
 unfold putK mSto;rw[r.any k];by_cases q:(mAt xs k).isSome=true
 ·rw[if_pos q,if_pos q];exact r.repl k ry
 ·rw[if_neg q,if_neg q];exact dH r ⟨rfl,hb,ry⟩
theorem DM.at(ok:HOk P w H h)(d:DM P w H a kvs):(a==sysModules)=false/\∃xs,KM H kvs xs/\MD P w h a xs/\xs.length<=sizeLine/\∀x∈xs,mIs P w h x.1 x.2.1:=by obtain⟨xs,e,r,z,hs⟩:=d;exact⟨hs,xs,r,(show Z4 P w H h a (mdO P w a xs)from e.ok ok).1,by rw[<-aL r];exact z,r.is ok⟩
theorem DMw.keeps(d:DMw P w H a kvs)(hk:H' a=H a)(ht:∀b ys,H b=some (.tup ys)->H' b=some (.tup ys)):DMw P w H' a kvs:=by obtain⟨xs,e,r,z⟩:=d;exact⟨xs,hk.trans e,r.keeps ht,z⟩
end
section
variable {X:Cx}{pins:List (Addr×Obj)}{σ:St}{H:Hp}{s:ag}{a:Addr}{kvs:List (MK×V)}{k:MK}{y v:V}{u r:Value}{A:bz}{E:Value->ag->Prop}
theorem DMw.write{h':Heap}{t':Nat}{xs:List (MK×Value×Value)}{kvs2:List (MK×V)}(I:Inv X pins σ H s)(d:DMw X.prog X.w H a kvs)(hs:Heap.SameBut a s.heap h')(m:MD X.prog X.w h' a xs)(r:KM H kvs2 xs)(z:kvs2.length<=sizeLine):Inv X pins σ (upd H a (mdO X.prog X.w a xs)) {s with heap:=h',toks:=t'}/\DMw X.prog X.w (upd H a (mdO X.prog X.w a xs)) a kvs2:=by obtain⟨x0,e,_,_,hm⟩:=d;have m':=m;obtain⟨q,_,_,hq,_⟩:=m';refine⟨Px I (by rw[e];exact bK) hs ⟨q,hq⟩ (Rj m),xs,Zf,r.keeps λc ys ec=>?_,z,hm⟩;rw[Zj (ne_of ec e (λz=>nomatch z))];exact ec
def rInM(P:Program)(w:World):R2:=λx y H Q=>∃a kvs k,y=.ref a/\DM P w H a kvs/\KyM H k x/\Q (.bl (valV kvs k).isSome) H
def Sz(P:Program)(w:World):R2:=λx y H Q=>∃a kvs k,y=.ref a/\DM P w H a kvs/\KyM H k x/\Q (.bl (!(valV kvs k).isSome)) H
theorem Ff(hu:X.A.units+1<cLine):OpR X (bp .In) (rInM X.prog X.w):=by intro pins s σ H x y v u Q I rx ry h;obtain⟨a,kvs,k,rfl,d,hk,q⟩:=h;cases ry;obtain⟨hs,xs,rel,m,z,his⟩:=d.at I.hok;show wpAny _ _ (contains (.ref a) v >>= λb=>pure (Value.bool b)) _ _ s;refine ae (m_contains hu ((hk.val X.prog X.w rx).is I.hok) hs m his (ai ⟨_,H,I.tok _,?_,q⟩));rw[(rel.val k).isSome_eq,dv];rfl
theorem TN(hu:X.A.units+1<cLine):OpR X (bp .NotIn) (Sz X.prog X.w):=by intro pins s σ H x y v u Q I rx ry h;obtain⟨a,kvs,k,rfl,d,hk,q⟩:=h;cases ry;obtain⟨hs,xs,rel,m,z,his⟩:=d.at I.hok;show wpAny _ _ (contains (.ref a) v >>= λb=>pure (Value.bool (!b))) _ _ s;refine ae (m_contains hu ((hk.val X.prog X.w rx).is I.hok) hs m his (ai ⟨_,H,I.tok _,?_,q⟩));rw[(rel.val k).isSome_eq,dv];rfl
end
def HB(P:Program)(w:World)(td ty tv:TE):TS:=λD σ H=>tv σ H λv H1=>td σ H1 λx H2=>ty σ H2 λy H3=>∃a kvs k,x=.ref a/\DMw P w H3 a kvs/\KyM H3 k y/\kvs.length<sizeLine /\∀o,DMw P w (upd H3 a o) a (putK kvs k v)->D.nx σ (upd H3 a o)
def Ht(P:Program)(w:World):TE:=λ_ H Q=>∀p o,H p=none->DMw P w (upd H p o) p []->Q (.ref p) (upd H p o)
section
variable {X:Cx}{o i e value:Expr}{es:List Expr}{pos pos' apos cpos:Pos}{td ty tv to:TE}{t:TA}{name:Str}{id:String}{r:V->List V->Hp->VK->Prop}
theorem Ds(hu:X.A.units+1<cLine)(ho:PE X o td)(hi:PE X i ty)(hv:PE X value tv)(hs:fz value (some (.Subscript o i pos')) pos.line X.env=pure false):PS X (.Assign [.Subscript o i pos'] value pos) (HB X.prog X.w td ty tv):=by intro pins s σ H D I h;refine wpAny_Assign_Subscript (thn (hv pins s σ H _ I h) λr s1⟨v,H1,I1,rv,q1⟩=>thn (ho pins s1 σ H1 _ I1 q1) λu s2⟨x,H2,I2,rx,q2⟩=>thn (hi pins s2 σ H2 _ I2 q2) λiv s3 hZ=>?_) hs;obtain⟨y,H3,I3,ry,a,kvs,k,ex,d,hk,hl,q3⟩:=hZ;subst ex;obtain rfl:u=Value.ref a:=rx;obtain⟨hs,xs,rel,m,z,his⟩:=d.rd.at I3.hok;refine TX hu ((hk.val X.prog X.w ry).is I3.hok) m his (λh' m' sb=>?_) z;obtain⟨I',d'⟩:=d.write (t':=s3.toks+mD X.prog X.w k) I3 sb m' (rel.put k (hk.val X.prog X.w ry) rv) (by have:=Y5 kvs k v;omega);exact⟨σ,_,I',q3 _ d'⟩
theorem Dt:PE X (.Dict [] [] pos) (Ht X.prog X.w):=λpins s σ H Q I h=>by have hb:(s.heap.objs.size==sysModules)=false:=beq_eq_false_iff_ne.mpr (bD (Nat.ne_of_lt I.big));have m:MD X.prog X.w (s.heap.push {cls:=.type "dict",data:=.dict #[]}) s.heap.objs.size []:=⟨_,#[],0,Heap.get?_push_size _ rfl,⟨rfl,rfl,rfl⟩,rfl,rfl,cD⟩;exact wpAny_Dict_empty ⟨.ref s.heap.objs.size,_,I.laid (a:=s.heap.objs.size) (o:=mdO X.prog X.w s.heap.objs.size []) (t':=s.toks) (λ_ _ q=>Heap.get?_push_of_some _ q) (Nat.le_refl _) (Rj m),rfl,h _ _ (I.hok.fresh (Nat.le_refl _)) ⟨[],Zf,.nil,Nat.zero_le _,hb⟩⟩
end
section
variable {prog:Program}{w:World}{A:bz}{E:Value->ag->Prop}{s:ag}
theorem Rr{it d:Addr}{o:Obj}{es:Array DictEntry}{i ep:Nat}{e:DictEntry}{Q:Fin->ag->Prop}(st:s.heap.IsKeyIter it d i es.size ep)(hd:s.heap.get? d=some o)(hdd:o.data=.dict es ep)(he:es[i]?=some e)(hQ:∀h',h'.IsKeyIter it d (i+1) es.size ep->Heap.SameBut it s.heap h'->Q (.done (.ret e.key)) {s with heap:=h'}):wpAny (model prog w) A (dZ.«dict_keyiterator.__next__» ⟨[.ref it],[]⟩) Q E s:=by
 obtain⟨ob,h1,h2,h3⟩:=st;have hT:s.TypeIs (.ref it) "dict_keyiterator":=⟨ob,h1,h2⟩;unfold dZ.«dict_keyiterator.__next__»;refine ae ?_;refine ai ?_;refine ae ?_;refine ae ?_;refine ae (cZ hT ?_);refine ai ?_;refine ae (wpAny_fieldsOf h1 h3 ?_);show wpAny _ _ (if(Value.ref d==Value.none)=true then _ else _) _ _ _;rw[if_neg (show ¬(Value.ref d==Value.none)=true from λz=>nomatch z)];refine ae ?_;refine ai ?_;refine ae (c9 hd hdd ?_);rw[if_neg (by simp)];refine ae ?_;refine ai ?_;refine ae (b7 hd hdd ?_);rw[if_neg (by simp)];refine ai ?_;have ei:(if(i:Int)<0 then none else es[((i:Int)).toNat]?)=some e:=by rw[if_neg (by omega),Int.toNat_natCast];exact he
 show wpAny _ _ (match (if(i:Int)<0 then none else es[((i:Int)).toNat]?)with|some e=>_|none=>_) _ _ _
 rw[ei];refine ae ?_;refine ae (cZ hT ?_);refine ai ?_;refine ae (wpAny_isOneOf_keyiter hT ?_);refine ae (gg h1 h3 (show 0+1<4 by decide) ?_);have g:=Heap.get?_update_self (Obj.mapFields λx=>x.setIfInBounds 1 (fF ((i:Int)+1))) h1 (Obj.isFreed_of_fields (Obj.data_mapFields h3 _));have sb:Heap.SameBut it s.heap (s.heap.update it (Obj.mapFields λx=>x.setIfInBounds 1 (fF ((i:Int)+1)))):=Heap.SameBut.update ..;have hI:(s.heap.update it (Obj.mapFields λx=>x.setIfInBounds 1 (fF ((i:Int)+1)))).IsKeyIter it d (i+1) es.size ep:=by exact⟨_,g,(Obj.cls_mapFields ..).trans h2,by rw[Obj.data_mapFields h3];simp[fF]⟩
 have hT':Shared.TypeIs {s with heap:=s.heap.update it (Obj.mapFields λx=>x.setIfInBounds 1 (fF ((i:Int)+1)))} (.ref it) "dict_keyiterator":=by obtain⟨ob',q1,q2,_⟩:=hI;exact⟨ob',q1,q2⟩
 refine ae (bh ?_);refine ae (wpAny_isOneOf_keyiter hT' ?_);exact ai (ai (hQ _ hI sb))
theorem T8{it d:Addr}{o:Obj}{es:Array DictEntry}{i ep:Nat}{Q:Fin->ag->Prop}(hh:A.handled=none)(st:s.heap.IsKeyIter it d i es.size ep)(hd:s.heap.get? d=some o)(hdd:o.data=.dict es ep)(he:es[i]?=none)(hE:∀h' e,(∀c q,c≠it->s.heap.get? c=some q->h'.get? c=some q)->(∃o,h'.get? e=some o/\o.cls=.type "StopIteration")->E (.ref e) {s with heap:=h'}):wpAny (model prog w) A (dZ.«dict_keyiterator.__next__» ⟨[.ref it],[]⟩) Q E s:=by
 obtain⟨ob,h1,h2,h3⟩:=st;have hT:s.TypeIs (.ref it) "dict_keyiterator":=⟨ob,h1,h2⟩;unfold dZ.«dict_keyiterator.__next__»;refine ae ?_;refine ai ?_;refine ae ?_;refine ae ?_;refine ae (cZ hT ?_);refine ai ?_;refine ae (wpAny_fieldsOf h1 h3 ?_);show wpAny _ _ (if(Value.ref d==Value.none)=true then _ else _) _ _ _;rw[if_neg (show ¬(Value.ref d==Value.none)=true from λz=>nomatch z)];refine ae ?_;refine ai ?_;refine ae (c9 hd hdd ?_);rw[if_neg (by simp)];refine ae ?_;refine ai ?_;refine ae (b7 hd hdd ?_);rw[if_neg (by simp)];refine ai ?_;have ei:(if(i:Int)<0 then none else es[((i:Int)).toNat]?)=none:=by rw[if_neg (by omega),Int.toNat_natCast];exact he
 show wpAny _ _ (match (if(i:Int)<0 then none else es[((i:Int)).toNat]?)with|some e=>_|none=>_) _ _ _
 rw[ei];refine ae ?_;refine ae (cZ hT ?_);refine ai ?_;refine ae (gg h1 h3 (show 0<4 by decide) ?_);show wpAny (model prog w) _ (newExc (.type "StopIteration") [] >>= _) _ _ _;refine ae ?_;simp only[newTuple,newExc];refine ae (c8 (ae (m:=gi _ _) (gc (a:=Value.none) (by first|rfl|(simp only[gi];rfl)) (c8 ?_ (by size_fits)))) (by size_fits))
 simp only[raiseNew];refine ae (wpAny_handled ?_);rw[hh];refine ae (ai (wpAny_throw ?_));exact hE _ _ (((Heap.SameBut.update ..).extBut.push _).push _) ⟨_,Heap.get?_push_size _ rfl,rfl⟩
def RawD(h:Heap)(d:Addr)(es:Array DictEntry)(ep:Nat):Prop:=∃o,h.get? d=some o/\o.ExactDict/\o.data=.dict es ep
theorem Lj{d:Addr}{es:Array DictEntry}{ep:Nat}{Q:Value->ag->Prop}(hs:(d==sysModules)=false)(h:RawD s.heap d es ep)(hQ:Q (.ref s.heap.objs.size) {s with heap:=s.heap.push {cls:=.type "dict_keyiterator",data:=.fields #[.ref d,.int 0 0,.int es.size 0,.int ep 0]}}):wpAny (model prog w) A (pyIter (.ref d)) Q E s:=by obtain⟨o,ho,ex,hd⟩:=h;have hT:s.TypeIs (.ref d) "dict":=⟨o,ho,ex.1⟩;refine wpAny_pyIter_slot hT F.slot_dict_iter (cV F.slot_dict_iter hT F.entry_dict_iter ?_ (F.args_dict_iter_1 _));unfold dZ.«dict.__iter__»;refine ae ?_;unfold Builtin.Dict.dictSlotNone;refine ae (fS hT ?_);refine ai ?_;refine ae ?_;refine ai ?_;refine ae ?_;unfold Builtin.Dict.showsAll;rw[if_neg (by rw[hs];exact Bool.false_ne_true)];refine ai ?_;refine ae (c9 ho hd ?_);refine ae (b7 ho hd ?_);unfold newFields;refine ae (c8 ?_ (by size_fits));refine ai ⟨_,rfl,"dict_keyiterator",_,⟨_,Heap.get?_push_size _ rfl,rfl⟩,F.slot_dict_keyiterator_next.lookup,?_⟩;exact hQ
end
theorem XD{α β:Type}{R:α->β->Prop}:∀{a:List α}{c:List β},bo R a c->∀{i:Nat}{x:α}{y:β},a[i]?=some x->c[i]?=some y->R x y
|_,_,.nil,_,_,_,h,_=>by cases h
|_,_,.cons h t,0,_,_,e1,e2=>by cases e1;cases e2;exact h
|_,_,.cons h t,i+1,_,_,e1,e2=>XD t (by simpa using e1) (by simpa using e2)
theorem FT{P:Program}{w:World}{es:Array DictEntry}{xs:List (List Key×Addr×Value)}(h:es.toList=xs.map (entryOfKey (ck (ZI P w)))){i:Nat}{x:List Key×Addr×Value}(hx:xs[i]?=some x):∃e,es[i]?=some e/\e.key=.ref x.2.1/\e.val=x.2.2:=by refine⟨entryOfKey (ck (ZI P w)) x,?_,rfl,rfl⟩;rw[<-Array.getElem?_toList,h,aJ,hx];rfl
section
variable {X:Cx}{pins:List (Addr×Obj)}{σ:St}{H:Hp}{s:ag}{a:Addr}{o:Obj}{u:HO}
theorem Inv.thaw(I:Inv X pins σ H s)(e:H a=some (.frz o u))(h0:∀o' u',X.H₀ a≠some (.frz o' u')):Inv X pins σ (upd H a u) s:=by
 have ne:∀{c:Addr},H c=none->c≠a:=λh z=>by rw[z,e]at h;cases h
 have nt:∀{c:Addr}{xs:List V},H c=some (.tup xs)->c≠a:=λh z=>by rw[z,e]at h;cases h
 have nw:∀{c y:Addr},H c=some (.own y)->c≠a:=λh z=>by rw[z,e]at h;cases h
 refine⟨I.ok,I.os,I.bare,⟨I.base.keep,I.base.slot,λb ob q n hx=>?_,I.base.there,λb xs q=>?_,λb ob v q=>?_,λb ps q=>?_⟩,I.loc,I.cell,?_,λx c q=>?_,λp hp=>?_,λb v q=>?_,I.len⟩
 ·have:=I.base.free b ob q n hx;rw[Zj (ne this)];exact this
 ·have z:=I.base.tups b xs q;rw[Zj (nt z)];exact z
 ·rw[Zj (λz=>h0 _ _ (z▸q))];exact I.base.frzs b ob v q
 ·obtain⟨m,hm⟩:=I.base.tbls b ps q;exact⟨m,by rw[Zj (λz=>by rw[z,e]at hm;cases hm)];exact hm⟩
 ·rw[Zj (ne I.free)];exact I.free
 ·rw[Zj (ne (I.freeC x c q))];exact I.freeC x c q
 ·obtain⟨p1,p2,p3⟩:=I.pin p hp;exact⟨p1,by rw[Zj (ne p2)];exact p2,p3⟩
 ·by_cases hb:b=a
  ·subst hb;rw[Zf]at q;cases q;exact(I.hok b _ e).2.stay (λ_ _ _ z=>z) (λc z=>by rw[Zj (nw z)];exact z) λc xs z=>by rw[Zj (nt z)];exact z
  ·rw[Zj hb]at q;exact(I.hok b v q).stay (λ_ _ _ z=>z) (λc z=>by rw[Zj (nw z)];exact z) λc xs z=>by rw[Zj (nt z)];exact z
end
end L2
namespace SX
open PySem L2 PySem.Spec PyProof.Rows TB WD
def Mw(K:aa)(f:Str):Sp:=λvs H Q _=>∃(x C dx:Addr)(fs:List (Str×V))(v:V),vs=[.ref x]/\SCl K C/\H x=some (.ins C dx fs)/\fs.lookup f=some v/\Q v H
section
variable {P:Program}{w:World}{K:aa}{mg:Str->Option Value}{base:Heap}{C:Addr}
theorem Pa:FnScope ["self"] ["self"] (Zd T.m_Step_tail):=scO
theorem Vz(D:DfM K C "tail" "Step.tail" T.m_Step_tail ["self"]):CanM P w K mg base CX0 1 C "tail" ["self"] (Mw K "its_tail"):=by refine D.cn Pa λf cdv A outer s H vs Q E hr h=>?_;obtain⟨x,C,dx,fs,v,rfl,Z,hx,hl,k⟩:=h;refine⟨_,(Ze (Zn (Z2 (pv 0) rfl))),?_⟩;exact⟨_,rfl,x,C,dx,fs,_,rfl,hx,Z.cl,nof Z (by decide +kernel),hl,k⟩
theorem Pc:FnScope ["self"] ["self"] (Zd T.m_Step_head):=scO
theorem VB(D:DfM K C "head" "Step.head" T.m_Step_head ["self"]):CanM P w K mg base CX0 1 C "head" ["self"] (Mw K "its_head"):=by refine D.cn Pc λf cdv A outer s H vs Q E hr h=>?_;obtain⟨x,C,dx,fs,v,rfl,Z,hx,hl,k⟩:=h;refine⟨_,(Ze (Zn (Z2 (pv 0) rfl))),?_⟩;exact⟨_,rfl,x,C,dx,fs,_,rfl,hx,Z.cl,nof Z (by decide +kernel),hl,k⟩
theorem Pb:FnScope ["self"] ["self"] (Zd T.m_Step_room):=scO
theorem VA(D:DfM K C "room" "Step.room" T.m_Step_room ["self"]):CanM P w K mg base CX0 1 C "room" ["self"] (Mw K "its_room"):=by refine D.cn Pb λf cdv A outer s H vs Q E hr h=>?_;obtain⟨x,C,dx,fs,v,rfl,Z,hx,hl,k⟩:=h;refine⟨_,(Ze (Zn (Z2 (pv 0) rfl))),?_⟩;exact⟨_,rfl,x,C,dx,fs,_,rfl,hx,Z.cl,nof Z (by decide +kernel),hl,k⟩
end
noncomputable def J7:PyData->MK
|.str a=>.inl (.inr a)
|.tuple [.str a,.int i]=>.inr [.inr a,.inl i]
|_=>.inl (.inr "")
theorem Md{H:Hp}{v:V}{d:PyData}(n:NL d)(h:Is H v d):KyM H (J7 d) v:=by
 rcases n with⟨a,rfl⟩|⟨a,i,rfl⟩
 ·cases h with
 |str=>exact(rfl:V.str a=kV (.inr a))
 ·cases h with
 |tup e r=>
   cases r with
  |cons h1 r=>
   cases r with
  |cons h2 r=>
   cases r;cases h1;cases h2;exact⟨_,rfl,e⟩
def P5:Sp:=λvs H Q _=>∃(pw l1 l2 l3 l4:Addr)(T:Tb),vs=[.ref pw]/\WAt H pw T l1 l2 l3 l4/\OkTb T/\∀H' p,Same H H'->H p=none->Dc H' p (allS T)->Q (.ref p) H'
theorem _root_.WD.RowsL.keepB{H H':Hp}{l p:Addr}{rows:List (List V)}(h:RowsL H l rows)(hp:H p=none)(s:Zg p H H'):RowsL H' l rows:=by obtain⟨as,e,hl,r⟩:=h;exact⟨as,s _ _ e (Zi e hp),hl,λi a q h1 h2=>s _ _ (r i a q h1 h2) (Zi (r i a q h1 h2) hp)⟩
theorem Dr{H H1:Hp}{p a k:Addr}{L:List Sx}{S:Sx}{R:Hp->Prop}(hno:H p=none)(s:Zg p H H1)(dc:Dc H1 p L)(hl:L.length<=20000)(hv:Is H1 (.ref a) (JL S))(hk:H1 k=some (.tup (S.key.map kV)))(r:∀H2,Zg p H H2->Dc H2 p (L++[S])->R H2):∃d H2,V.ref p=.ref d/\DPut H1 d (.ref k) (.ref a) H2/\R H2:=by obtain⟨kvs,e,l,h1,h2⟩:=dc;refine⟨p,_,rfl,DPut.t e hk (Nat.lt_of_le_of_lt (Nat.le_trans l hl) (by decide)),r _ ?_ (Dc.put e l h1 h2 hv)⟩;intro c o ec hc;rw[Zj hc];exact s c o ec hc
theorem Mb{H H1:Hp}{p a k:Addr}{ks:List V}(hk:H1 k=none){L:List Sx}{S:Sx}(e:ks=S.key.map kV){R:Hp->Prop}(hno:H p=none)(s:Zg p H H1)(dc:Dc H1 p L)(hl:L.length<=20000)(hv:Is H1 (.ref a) (JL S))(r:∀H2,Zg p H H2->Dc H2 p (L++[S])->R H2):∃d H2,V.ref p=.ref d/\DPut (upd H1 k (.tup ks)) d (.ref k) (.ref a) H2/\R H2:=by subst e;have S1:=sameNew (o:=.tup (S.key.map kV)) (Same.refl H1) hk;exact Dr hno (s.trans (Zg.of S1)) (dc.same S1) hl (hv.same S1) Zf r
section
variable {P:Program}{w:World}{K:aa}{mg:Str->Option Value}{base:Heap}{C:Addr}{Cs:Nat->Addr}
theorem Zv:FnScope [q_w,"_law_turns",q_p,"_law_rides","_law_ways","_law_groups","_law_steps_here","_law_name","_law_place","_law_turn","_law_many","_law_at","_law_start","_law_leave","_law_goal","_law_come","_law_seats","_law_long","_law_wide","_law_room"] [q_w] (Zd T.f__law_steps):=scO
theorem RL(B:∀x∈Blts,mg x=none)(D:Df K mg "_law_steps" T.f__law_steps [q_w]):Can P w K mg base 1 "_law_steps" [q_w] P5:=by
 refine D.cn Zv λf cdv A outer s H vs Q E hr h=>?_;obtain⟨pw,l1,l2,l3,l4,T,rfl,tb,ok,k⟩:=h;refine' ⟨_,(@Za _ _ _ _ _ ?h24 (@Za _ _ _ _ _ ?h25 (@Za _ _ _ _ _ ?h26 (@Za _ _ _ _ _ ?h27 (@Za _ _ _ _ _ ?h28 (@Za _ _ _ _ _ ?h29 (@Ze _ _ _ ?h30))))))),?rd⟩;case' h30=>refine' (Zn (pv 6))
 case' h29=>refine' (Yn aY rfl (ZV (pv 2)) (YE rfl (Zl (nmT 8 Zv.nd) (Zl (nmT 19 Zv.nd) Z0))) (@Ze _ _ _ ?h23))
 case' h28=>refine' (Yn aY rfl (ZV (pv 4)) (YE rfl (Zl (nmT 7 Zv.nd) (Zl (nmT 12 Zv.nd) (Zl (nmT 14 Zv.nd) (Zl (nmT 17 Zv.nd) (Zl (nmT 18 Zv.nd) Z0)))))) (@Ze _ _ _ ?h16))
 case' h27=>refine' (Yn aY rfl (ZV (pv 3)) (YE rfl (Zl (nmT 7 Zv.nd) (Zl (nmT 12 Zv.nd) (Zl (nmT 13 Zv.nd) (Zl (nmT 14 Zv.nd) (Zl (nmT 15 Zv.nd) (Zl (nmT 16 Zv.nd) Z0))))))) (@Ze _ _ _ ?h10))
 case' h26=>refine' (Yn aY rfl (ZV (pv 5)) (YE rfl (Zl (nmT 7 Zv.nd) (Zl (nmT 8 Zv.nd) (Zl (nmT 9 Zv.nd) (Zl (nmT 10 Zv.nd) Z0))))) (@Ze _ _ _ ?h5))
 case' h25=>refine' (@st _ _ _ _ 6 _ _ Zv.nd KP (by rfl) (by exact aK rfl) (by rfl) (by exact .inl rfl))
 case' h24=>refine' (X0 (pv 0) (YE rfl (Zl (nmT 1 Zv.nd) (Zl (nmT 2 Zv.nd) (Zl (nmT 3 Zv.nd) (Zl (nmT 4 Zv.nd) (Zl (nmT 5 Zv.nd) Z0)))))))
 case' h23=>refine' (@ZF _ _ _ _ _ _ _ _ (@Zq _ _ _ _ _ _ _ _ JA (pv 19) ZK (ZA _)) (@Ze _ _ _ ?h22) Zr)
 case' h22=>refine' (Yn aY rfl (Y3 rfl (bm B) (@pa1 _ _ _ (pv 1) (by rfl))) (nmT 11 Zv.nd) (@Ze _ _ _ ?h21))
 case' h21=>refine' (XS (YX hr) (pv 6) ?h17 ?h20 rfl)
 case' h20=>refine' (@Zw _ _ _ _ _ (@Zc _ _ _ _ _ ?h19 (@pa3 _ _ _ _ _ _ _ ?h18 (pv 19) Zb (by rfl)) (by rfl)))
 case' h19=>refine' (@Zw _ _ _ _ _ (@pa2 _ _ _ _ _ (pv 8) (pv 11) (by rfl)))
 case' h18=>refine' (@Zw _ _ _ _ _ (@pa2 _ _ _ _ _ (pv 8) (Zp ZG (pv 11) Zb) (by rfl)))
 case' h17=>refine' (@Zw _ _ _ _ _ (@pa3 _ _ _ _ _ _ _ ZH (pv 8) (pv 11) (by rfl)))
 case' h16=>refine' (Yn aY rfl (Y3 rfl (bm B) (@pa1 _ _ _ (Zp XE (Zp ZG (pv 1) Zb) (pv 17)) (by rfl))) (nmT 11 Zv.nd) (@Ze _ _ _ ?h15))
 case' h15=>refine' (XS (YX hr) (pv 6) ?h11 ?h14 rfl)
 case' h14=>refine' (@Zw _ _ _ _ _ (@Zc _ _ _ _ _ ?h13 (@pa3 _ _ _ _ _ _ _ ?h12 (pv 18) (pv 17) (by rfl)) (by rfl)))
 case' h13=>refine' (@Zw _ _ _ _ _ (@pa2 _ _ _ _ _ (pv 12) (pv 11) (by rfl)))
 case' h12=>refine' (@Zw _ _ _ _ _ (@pa2 _ _ _ _ _ (pv 14) (Zp ZG (pv 11) (pv 17)) (by rfl)))
 case' h11=>refine' (@Zw _ _ _ _ _ (@pa3 _ _ _ _ _ _ _ ZH (pv 7) (pv 11) (by rfl)))
 case' h10=>refine' (XS (YX hr) (pv 6) ?h6 ?h9 rfl)
 case' h9=>refine' (@Zw _ _ _ _ _ (@Zc _ _ _ _ _ ?h8 (@pa3 _ _ _ _ _ _ _ ?h7 (pv 16) (Zp XE (pv 15) (pv 13)) (by rfl)) (by rfl)))
 case' h8=>refine' (@Zw _ _ _ _ _ (@pa2 _ _ _ _ _ (pv 12) (pv 13) (by rfl)))
 case' h7=>refine' (@Zw _ _ _ _ _ (@pa2 _ _ _ _ _ (pv 14) (pv 15) (by rfl)))
 case' h6=>refine' (@Zw _ _ _ _ _ (@pa2 _ _ _ _ _ ZH (pv 7) (by rfl)))
 case' h5=>refine' (Yn aY rfl (Xy rfl (bm B) (@pa2 _ _ _ _ _ (pv 9) (Zp ZG (pv 1) Zb) (by rfl))) (nmT 11 Zv.nd) (@Ze _ _ _ ?h4))
 case' h4=>refine' (XS (YX hr) (pv 6) ?h1 ?h3 rfl)
 case' h3=>refine' (@Zw _ _ _ _ _ (@Zc _ _ _ _ _ (pv 7) (@pa3 _ _ _ _ _ _ _ ?h2 ZK Zb (by rfl)) (by rfl)))
 case' h2=>refine' (@Zw _ _ _ _ _ (@pa2 _ _ _ _ _ (pv 8) (pv 11) (by rfl)))
 case' h1=>refine' (@Zw _ _ _ _ _ (@pa3 _ _ _ _ _ _ _ ZH (pv 7) (pv 11) (by rfl)))
 have n0:=ok.n0;have n1:=ok.n1;obtain⟨m1,m2,m3,m4⟩:=YC ok;obtain⟨z1,z2,z3,z4⟩:=Vs ok;refine⟨_,rfl,pw,_,rfl,SqT.of tb.at_,rfl,_,_,rfl,_,_,rfl,_,_,rfl,_,_,rfl,_,_,rfl,rfl,λp hp=>?_⟩;have D0:Dc (upd H p (.dT [])) p []:=⟨[],Zf,Nat.le_refl _,⟨[],.nil,rfl⟩,trivial⟩;have S0:Zg p H (upd H p (.dT [])):=λc o e hc=>by rw[Zj hc];exact e
 generalize upd H p (.dT [])=H0 at D0 S0 ⊢;have nw:∀{c:Addr}{o:HO},H c=some o->c≠p:=λe=>Zi e hp;have rw4:∀{H':Hp},Zg p H H'->RowsL H' l4 T.t4:=λs=>tb.r4.keepB hp s;have rw3:∀{H':Hp},Zg p H H'->RowsL H' l3 T.t3:=λs=>tb.r3.keepB hp s;have rw2:∀{H':Hp},Zg p H H'->RowsL H' l2 T.t2:=λs=>tb.r2.keepB hp s;have rw1:∀{H':Hp},Zg p H H'->RowsL H' l1 T.t1:=λs=>tb.r1.keepB hp s;have DD:∀{H':Hp}{L:List Sx},Dc H' p L->Dc H' p (L++[]):=λh=>by rw[br];exact h
 dsimp only[Zt];refine tq λD1 hk1=>?_;refine⟨_,rfl,l4,rfl,⟨_,SqL.of (rw4 S0).choose_spec.1⟩,?_⟩;refine YU (J:=Itl K l4) T.t4.length (λi σ H'=>Zg p H H'/\Dc H' p ((T.t4.take i).flatMap (ZL T))/\∃o:Nat->Option V,σ=[some (.ref pw),some (.int T.n),some (.ref l1),some (.ref l2),some (.ref l3),some (.ref l4),some (.ref p),o 7,o 8,o 9,o 10,o 11,o 12,o 13,o 14,o 15,o 16,o 17,o 18,o 19]) ⟨S0,D0,shp rfl⟩ (λi σ H' hi q=>(rw4 q.1).go hi) (λσ H' q=>(rw4 q.1).stop) (λi σ H' x H2 hi q yl=>?_) (λσ H1 q=>?_)
 ·obtain⟨s1,dc,o,rfl⟩:=q;have e0:T.t4[i]?=some T.t4[i]:=gE hi;obtain⟨rfl,a,rfl,ha⟩:=(rw4 s1).item e0 yl;have hy:T.t4[i]∈T.t4:=aD hi;have le1:=JT (f:=ZL T) (t:=T.t4) i;have le2:=Qi ok hy;rw[Jk hi];generalize T.t4[i]=y at ha hy le2;obtain⟨a1,b1,c1,d1,rfl,ga,gb,c0,c2,_,_⟩:=YY ok hy;refine⟨a,_,rfl,SqT.of ha,rfl,_,_,rfl,_,_,rfl,_,_,rfl,_,_,rfl,rfl,?_⟩;try dsimp only[az]
  refine td λD'' hd'=>?_;refine⟨_,rfl,_,rfl,_,_,rfl,rfl,c1,T.n+1,rfl,⟨by omega,by omega,by omega,by omega⟩,?_⟩;refine U0 (lo:=c1) (n:=(T.n+1-c1).toNat) (λm σ' H'=>Zg p H H'/\Dc H' p ((T.t4.take i).flatMap (ZL T)++(ZL T [.str a1,.str b1,.int c1,.int d1]).take m)/\∃o:Nat->Option V,σ'=[some (.ref pw),some (.int T.n),some (.ref l1),some (.ref l2),some (.ref l3),some (.ref l4),some (.ref p),some (.str a1),some (.str b1),some (.int c1),some (.int d1),o 11,o 12,o 13,o 14,o 15,o 16,o 17,o 18,o 19]) ⟨s1,DD dc,shp rfl⟩ (λm σ' H' hm q=>?_) (λσ' H' q=>?_)
  ·obtain⟨s2,dc2,o,rfl⟩:=q;dsimp only[Zt];refine td λD' hd=>?_;refine⟨_,rfl,_,rfl,_,rfl,zl,λq1 h1=>?_⟩;try dsimp only[tNil]
   refine nl2 h1 λH3 S3 e3=>?_;refine⟨zl,λq2 h2=>?_⟩;try dsimp only[tNil]
   refine nl2 h2 λH4 S4 e4=>?_;refine⟨_,rfl,_,rfl,_,rfl,zl,λq3 h3=>?_⟩;try dsimp only[tNil]
   have S35:=S3.trans S4;refine Mb h3 rfl (S:=outS [.str a1,.str b1,.int c1,.int d1] (c1+m)) hp (s2.trans (Zg.of S35)) (dc2.same S35) ?_ (.tup e4 (.cons (.str _) (.cons (.tup (S4 _ _ e3) (.cons (.str _) (.cons (.int _) .nil))) (.cons .non (.cons (.int _) .nil))))) λH6 s6 dc6=>hd _ _ ⟨s6,?_,shp rfl⟩
   ·rw[ah,aG];omega
   ·rw[show ZL T [.str a1,.str b1,.int c1,.int d1]=(aT (T.n+1-c1).toNat).map λ(m:Nat)=>outS [.str a1,.str b1,.int c1,.int d1] (c1+m)from rfl]at dc6 ⊢;rw[XB hm,<-bU];exact dc6
  ·obtain⟨s2,dc2,o,rfl⟩:=q;refine hd' _ _ ⟨s2,?_,shp rfl⟩;rw[show(ZL T [.str a1,.str b1,.int c1,.int d1]).take (T.n+1-c1).toNat=ZL T [.str a1,.str b1,.int c1,.int d1]from aX (by unfold ZL;rw[lm,a_];exact Nat.le_refl _)]at dc2;exact dc2
 obtain⟨s1,dc1,o,rfl⟩:=q;rw[aV]at dc1;refine hk1 _ _ ?_;refine tq λD2 hk2=>?_;refine⟨_,rfl,l2,rfl,⟨_,SqL.of (rw2 s1).choose_spec.1⟩,?_⟩;refine YU (J:=Itl K l2) T.t2.length (λi σ H'=>Zg p H H'/\Dc H' p (T.t4.flatMap (ZL T)++(T.t2.take i).map XA)/\∃o:Nat->Option V,σ=[some (.ref pw),some (.int T.n),some (.ref l1),some (.ref l2),some (.ref l3),some (.ref l4),some (.ref p),o 7,o 8,o 9,o 10,o 11,o 12,o 13,o 14,o 15,o 16,o 17,o 18,o 19]) ⟨s1,DD dc1,shp rfl⟩ (λi σ H' hi q=>(rw2 q.1).go hi) (λσ H' q=>(rw2 q.1).stop) (λi σ H' x H2 hi q yl=>?_) (λσ H1 q=>?_)
 ·obtain⟨s2,dc,o,rfl⟩:=q;have e0:T.t2[i]?=some T.t2[i]:=gE hi;obtain⟨rfl,a,rfl,ha⟩:=(rw2 s2).item e0 yl;have hy:T.t2[i]∈T.t2:=aD hi;have le1:((T.t2.take i).map XA).length<=80:=by rw[lm,aG];omega
  rw[map_take hi];generalize T.t2[i]=y at ha hy;obtain⟨a1,b1,d1,c1,e1,f1,rfl,_⟩:=Rb ok hy;refine⟨a,_,rfl,SqT.of ha,rfl,_,_,rfl,_,_,rfl,_,_,rfl,_,_,rfl,_,_,rfl,_,_,rfl,rfl,?_⟩;try dsimp only[az]
  refine td λD'' hd'=>?_;refine⟨_,rfl,_,rfl,zl,λq1 h1=>?_⟩;try dsimp only[tNil]
  refine nl2 h1 λH3 S3 e3=>?_;refine⟨_,rfl,_,rfl,zl,λq2 h2=>?_⟩;try dsimp only[tNil]
  refine nl2 h2 λH4 S4 e4=>?_;refine⟨_,rfl,_,rfl,_,rfl,_,_,rfl,rfl,zl,λq3 h3=>?_⟩;try dsimp only[tNil]
  refine nl2 h3 λH5 S5 e5=>?_;refine⟨_,rfl,_,rfl,zl,λq4 h4=>?_⟩;try dsimp only[tNil]
  have S36:=(S3.trans S4).trans S5;refine Mb h4 rfl (S:=XA [.str a1,.str b1,.int c1,.str d1,.int e1,.int f1]) hp (s2.trans (Zg.of S36)) (dc.same S36) (by rw[ah];omega) (.tup e5 (.cons (.tup (S5 _ _ (S4 _ _ e3)) (.cons (.str _) (.cons (.int _) .nil))) (.cons (.tup (S5 _ _ e4) (.cons (.str _) (.cons (.int _) .nil))) (.cons (.int _) (.cons (.int _) .nil))))) λH7 s7 dc7=>hd' _ _ ⟨s7,?_,shp rfl⟩;rw[<-bU];exact dc7
 obtain⟨s2,dc2,o,rfl⟩:=q;rw[aV]at dc2;refine hk2 _ _ ?_;refine tq λD3 hk3=>?_;refine⟨_,rfl,l3,rfl,⟨_,SqL.of (rw3 s2).choose_spec.1⟩,?_⟩;refine YU (J:=Itl K l3) T.t3.length (λi σ H'=>Zg p H H'/\Dc H' p ((T.t4.flatMap (ZL T)++T.t2.map XA)++(T.t3.take i).flatMap (ZO T))/\∃o:Nat->Option V,σ=[some (.ref pw),some (.int T.n),some (.ref l1),some (.ref l2),some (.ref l3),some (.ref l4),some (.ref p),o 7,o 8,o 9,o 10,o 11,o 12,o 13,o 14,o 15,o 16,o 17,o 18,o 19]) ⟨s2,DD dc2,shp rfl⟩ (λi σ H' hi q=>(rw3 q.1).go hi) (λσ H' q=>(rw3 q.1).stop) (λi σ H' x H2 hi q yl=>?_) (λσ H1 q=>?_)
 ·obtain⟨s3,dc,o,rfl⟩:=q;have e0:T.t3[i]?=some T.t3[i]:=gE hi;obtain⟨rfl,a,rfl,ha⟩:=(rw3 s3).item e0 yl;have hy:T.t3[i]∈T.t3:=aD hi;have le1:=JT (f:=ZO T) (t:=T.t3) i;have le2:=Nh ok hy;rw[Jk hi];generalize T.t3[i]=y at ha hy le2;obtain⟨a1,b1,c1,d1,e1,rfl,_,_,_,c0,c2,_⟩:=Sy ok hy;refine⟨a,_,rfl,SqT.of ha,rfl,_,_,rfl,_,_,rfl,_,_,rfl,_,_,rfl,_,_,rfl,rfl,?_⟩;try dsimp only[az]
  refine td λD'' hd'=>?_;refine⟨_,rfl,_,_,rfl,rfl,_,rfl,_,_,rfl,rfl,T.n+1-d1,rfl,by omega,by omega,?_⟩;refine U0 (lo:=0) (n:=(T.n+1-d1).toNat) (λm σ' H'=>Zg p H H'/\Dc H' p (((T.t4.flatMap (ZL T)++T.t2.map XA)++(T.t3.take i).flatMap (ZO T))++(ZO T [.str a1,.str b1,.str c1,.int d1,.int e1]).take m)/\∃o:Nat->Option V,σ'=[some (.ref pw),some (.int T.n),some (.ref l1),some (.ref l2),some (.ref l3),some (.ref l4),some (.ref p),some (.str a1),o 8,o 9,o 10,o 11,some (.str b1),o 13,some (.str c1),o 15,o 16,some (.int d1),some (.int e1),o 19]) ⟨s3,DD dc,shp rfl⟩ (λm σ' H' hm q=>?_) (λσ' H' q=>?_)
  ·obtain⟨s4,dc4,o,rfl⟩:=q;dsimp only[Zt];refine td λD' hd=>?_;refine⟨_,rfl,_,rfl,zl,λq1 h1=>?_⟩;try dsimp only[tNil]
   refine nl2 h1 λH3 S3 e3=>?_;refine⟨_,rfl,_,rfl,_,rfl,_,_,rfl,rfl,zl,λq2 h2=>?_⟩;try dsimp only[tNil]
   refine nl2 h2 λH4 S4 e4=>?_;refine⟨_,rfl,_,rfl,zl,λq3 h3=>?_⟩;try dsimp only[tNil]
   refine nl2 h3 λH5 S5 e5=>?_;refine⟨_,rfl,_,rfl,_,rfl,zl,λq4 h4=>?_⟩;try dsimp only[tNil]
   have S36:=(S3.trans S4).trans S5;refine Mb h4 rfl (S:=V8 [.str a1,.str b1,.str c1,.int d1,.int e1] (0+m)) hp (s4.trans (Zg.of S36)) (dc4.same S36) ?_ (.tup e5 (.cons (.tup (S5 _ _ (S4 _ _ e3)) (.cons (.str _) (.cons (.int _) .nil))) (.cons (.tup (S5 _ _ e4) (.cons (.str _) (.cons (.int _) .nil))) (.cons (.int _) (.cons (.int _) .nil))))) λH7 s7 dc7=>hd _ _ ⟨s7,?_,shp rfl⟩
   ·simp only[ah,aG];omega
   ·rw[show ZO T [.str a1,.str b1,.str c1,.int d1,.int e1]=(aT (T.n+1-d1).toNat).map λ(m:Nat)=>V8 [.str a1,.str b1,.str c1,.int d1,.int e1] (0+m)from rfl]at dc7 ⊢;rw[XB hm,<-bU];exact dc7
  ·obtain⟨s4,dc4,o,rfl⟩:=q;refine hd' _ _ ⟨s4,?_,shp rfl⟩;rw[show(ZO T [.str a1,.str b1,.str c1,.int d1,.int e1]).take (T.n+1-d1).toNat=ZO T [.str a1,.str b1,.str c1,.int d1,.int e1]from aX (by unfold ZO;rw[lm,a_];exact Nat.le_refl _)]at dc4;rw[<-bU];exact dc4
 obtain⟨s3,dc3,o,rfl⟩:=q;rw[aV]at dc3;refine hk3 _ _ ?_;refine tq λD4 hk4=>?_;refine⟨_,rfl,l1,rfl,⟨_,SqL.of (rw1 s3).choose_spec.1⟩,?_⟩;refine YU (J:=Itl K l1) T.t1.length (λi σ H'=>Zg p H H'/\Dc H' p ((T.t4.flatMap (ZL T)++T.t2.map XA++T.t3.flatMap (ZO T))++(T.t1.take i).flatMap (ZM T))/\∃o:Nat->Option V,σ=[some (.ref pw),some (.int T.n),some (.ref l1),some (.ref l2),some (.ref l3),some (.ref l4),some (.ref p),o 7,o 8,o 9,o 10,o 11,o 12,o 13,o 14,o 15,o 16,o 17,o 18,o 19]) ⟨s3,DD dc3,shp rfl⟩ (λi σ H' hi q=>(rw1 q.1).go hi) (λσ H' q=>(rw1 q.1).stop) (λi σ H' x H2 hi q yl=>?_) (λσ H1 q=>?_)
 ·obtain⟨s4,dc,o,rfl⟩:=q;have e0:T.t1[i]?=some T.t1[i]:=gE hi;obtain⟨rfl,a,rfl,ha⟩:=(rw1 s4).item e0 yl;have hy:T.t1[i]∈T.t1:=aD hi;have le1:=JT (f:=ZM T) (t:=T.t1) i;have le2:=Ni ok (y:=T.t1[i]);rw[Jk hi];generalize T.t1[i]=y at ha hy le2;obtain⟨⟨z1,rr⟩,rfl,_,_⟩:=Xo ok hy;refine⟨a,_,rfl,SqT.of ha,rfl,_,_,rfl,_,_,rfl,rfl,?_⟩;try dsimp only[az]
  refine td λD'' hd'=>?_;cases rr with
 |none=>refine⟨_,rfl,rfl,_,rfl,?_⟩;refine iteF ?_;refine hd' _ _ ⟨s4,?_,shp rfl⟩;rw[show ZM T (plRow (z1,none))=[]from if_pos rfl,br];exact dc
 |some r1=>
   refine⟨_,rfl,rfl,_,rfl,?_⟩;refine iteT ?_;have ew:ZM T (plRow (z1,some r1))=(aT T.n.toNat).map λ(m:Nat)=>VC (plRow (z1,some r1)) (0+m):=if_neg (λz=>by cases z);refine⟨_,rfl,T.n,rfl,by omega,by omega,?_⟩;refine U0 (lo:=0) (n:=T.n.toNat) (λm σ' H'=>Zg p H H'/\Dc H' p (((T.t4.flatMap (ZL T)++T.t2.map XA++T.t3.flatMap (ZO T))++(T.t1.take i).flatMap (ZM T))++(ZM T (plRow (z1,some r1))).take m)/\∃o:Nat->Option V,σ'=[some (.ref pw),some (.int T.n),some (.ref l1),some (.ref l2),some (.ref l3),some (.ref l4),some (.ref p),o 7,some (.str z1),o 9,o 10,o 11,o 12,o 13,o 14,o 15,o 16,o 17,o 18,some (.int r1)]) ⟨s4,DD dc,shp rfl⟩ (λm σ' H' hm q=>?_) (λσ' H' q=>?_)
   ·obtain⟨s5,dc5,o,rfl⟩:=q;dsimp only[Zt];refine td λD' hd=>?_;refine⟨_,rfl,_,rfl,zl,λq1 h1=>?_⟩;try dsimp only[tNil]
    refine nl2 h1 λH3 S3 e3=>?_;refine⟨_,rfl,_,rfl,_,_,rfl,rfl,zl,λq2 h2=>?_⟩;try dsimp only[tNil]
    refine nl2 h2 λH4 S4 e4=>?_;refine⟨_,rfl,zl,λq3 h3=>?_⟩;try dsimp only[tNil]
    refine nl2 h3 λH5 S5 e5=>?_;refine⟨_,rfl,_,rfl,_,rfl,zl,λq4 h4=>?_⟩;try dsimp only[tNil]
    have S36:=(S3.trans S4).trans S5;refine Mb h4 rfl (S:=VC (plRow (z1,some r1)) (0+m)) hp (s5.trans (Zg.of S36)) (dc5.same S36) ?_ (.tup e5 (.cons (.tup (S5 _ _ (S4 _ _ e3)) (.cons (.str _) (.cons (.int _) .nil))) (.cons (.tup (S5 _ _ e4) (.cons (.str _) (.cons (.int _) .nil))) (.cons (.int _) (.cons (.int _) .nil))))) λH7 s7 dc7=>hd _ _ ⟨s7,?_,shp rfl⟩
    ·simp only[ah,aG];omega
    ·rw[ew]at dc7 ⊢;rw[XB hm,<-bU];exact dc7
   ·obtain⟨s5,dc5,o,rfl⟩:=q;refine hd' _ _ ⟨s5,?_,shp rfl⟩;rw[show(ZM T (plRow (z1,some r1))).take T.n.toNat=ZM T (plRow (z1,some r1))from aX (by rw[ew,lm,a_];exact Nat.le_refl _)]at dc5;rw[<-bU];exact dc5
 obtain⟨s4,dc4,o,rfl⟩:=q;rw[aV]at dc4;exact hk4 _ _ ⟨_,rfl,k H1 p (λc o e=>s4 c o e (nw e)) hp dc4⟩
end
def KNe(S S':Sx):Prop:=S.key≠S'.key
theorem Rf{f:Nat->Sx}{n:Nat}(h:∀a b:Nat,a<b->KNe (f a) (f b)):((aT n).map f).Pairwise KNe:=gv.mpr (List.Pairwise.imp (h _ _) List.pairwise_lt_range)
theorem SD{T:Tb}(o:OkTb T){j:Nat}(hj:isJ j){R:List V->List V->Prop}(h:∀a b,nameOf a≠nameOf b->R a b):(T.part j).Pairwise R:=List.Pairwise.imp (h _ _) (gv.mp (NA o hj))
theorem key2{a b:Str}{x y:Key}{l m:List Key}(h:a≠b\/x≠y):((.inr a:Key)::x::l)≠.inr b::y::m:=by
 intro e;injection e with e1 e2;injection e2 with e2 e3;injection e1 with e1;rcases h with h|h
 ·exact h e1
 ·exact h e2
theorem nmI{a b:Str}(h:a≠b):(.inr a:Key)≠.inr b:=λe=>by injection e with e;exact h e
theorem key3{a b:Str}{x y:Key}{i j:Int}(h:i≠j):([.inr a,x,.inl i]:List Key)≠[.inr b,y,.inl j]:=by intro e;injection e with e1 e2;injection e2 with e2 e3;injection e3 with e3 e4;injection e3 with e3;exact h e3
theorem Jz{T:Tb}{y:List V}{S:Sx}(h:S∈ZL T y):∃i,S=outS y i:=by obtain⟨m,_,rfl⟩:=af.mp h;exact⟨_,rfl⟩
theorem V7{T:Tb}{y:List V}{S:Sx}(h:S∈ZO T y):∃i,S=V8 y i:=by obtain⟨m,_,rfl⟩:=af.mp h;exact⟨_,rfl⟩
theorem Ml{T:Tb}{y:List V}{S:Sx}(h:S∈ZM T y):∃i,S=VC y i:=by
 unfold ZM at h;split at h
 ·cases h
 obtain⟨m,_,rfl⟩:=af.mp h;exact⟨_,rfl⟩
theorem LY{T:Tb}(o:OkTb T):(allS T).Pairwise KNe:=by
 obtain⟨w1,w2,w3,w4,w5,w6⟩:=WM;unfold allS;rw[fD,fD,fD];refine⟨⟨⟨?_,?_,?_⟩,?_,?_⟩,?_,?_⟩
 ·refine fw.mpr ⟨λy hy=>Rf λa b h=>key3 (by omega),SD o (j:=4) (.inr (.inr (.inr rfl))) λa b h x hx y hy=>?_⟩;obtain⟨i,rfl⟩:=Jz hx;obtain⟨i',rfl⟩:=Jz hy;exact key2 (.inr (nmI h))
 ·exact gv.mpr (SD o (j:=2) (.inr (.inl rfl)) λa b h=>key2 (.inr (nmI h)))
 ·intro x hx z hz;obtain⟨y,hy,hx⟩:=bJ.mp hx;obtain⟨y',hy',rfl⟩:=af.mp hz;obtain⟨i,rfl⟩:=Jz hx;exact key2 (.inl w4)
 ·refine fw.mpr ⟨λy hy=>Rf λa b h=>key3 (by omega),SD o (j:=3) (.inr (.inr (.inl rfl))) λa b h x hx y hy=>?_⟩;obtain⟨i,rfl⟩:=V7 hx;obtain⟨i',rfl⟩:=V7 hy;exact key2 (.inr (nmI h))
 ·intro x hx z hz;obtain⟨y',hy',hz⟩:=bJ.mp hz;obtain⟨i',rfl⟩:=V7 hz;rcases aw.mp hx with hx|hx
  ·obtain⟨y,hy,hx⟩:=bJ.mp hx;obtain⟨i,rfl⟩:=Jz hx;exact key2 (.inl w1)
  ·obtain⟨y,hy,rfl⟩:=af.mp hx;exact key2 (.inl w5.symm)
 ·refine fw.mpr ⟨λy hy=>?_,SD o (j:=1) (.inl rfl) λa b h x hx y hy=>?_⟩
  ·unfold ZM;split
   ·exact .nil
   ·exact Rf λa b h=>key3 (by omega)
  ·obtain⟨i,rfl⟩:=Ml hx;obtain⟨i',rfl⟩:=Ml hy;exact key2 (.inr (nmI h))
 ·intro x hx z hz;obtain⟨y',hy',hz⟩:=bJ.mp hz;obtain⟨i',rfl⟩:=Ml hz;rcases aw.mp hx with hx|hx
  ·rcases aw.mp hx with hx|hx
   ·obtain⟨y,hy,hx⟩:=bJ.mp hx;obtain⟨i,rfl⟩:=Jz hx;exact key2 (.inl w2)
   ·obtain⟨y,hy,rfl⟩:=af.mp hx;exact key2 (.inl w6.symm)
  ·obtain⟨y,hy,hx⟩:=bJ.mp hx;obtain⟨i,rfl⟩:=V7 hx;exact key2 (.inl w3)
theorem Qd:∀(l:List (Sx×V))(acc:List (List Key×V)),l.Pairwise (λp q=>KNe p.1 q.1)->(∀p∈l,∀q∈acc,q.1≠p.1.key)->puts l acc=acc++l.map λp=>(p.1.key,p.2)
|[],acc,_,_=>by simp[puts]
|p::l,acc,h,n=>by
  have e:putK acc p.1.key p.2=acc++[(p.1.key,p.2)]:=by unfold putK;rw[if_neg];intro z;obtain⟨q,hq,z⟩:=bC.mp z;exact n p (by simp) q hq (of_decide_eq_true z)
  show puts l (putK acc p.1.key p.2)=_;cases h with
 |cons h1 h2=>
  rw[e,Qd l _ h2 λq hq r hr=>?_,bU]
  ·rfl
  ·rcases aw.mp hr with hr|hr
   ·exact n q (by simp[hq]) r hr
   ·rw[ay]at hr;subst hr;exact h1 q hq
theorem WJ{H:Hp}:∀{vs:List V}{L:List Sx},bo (λv S=>Is H v (JL S)) vs L->L.Pairwise KNe->(L.zip vs).Pairwise λp q=>KNe p.1 q.1
|_,_,.nil,_=>.nil
|_,_,.cons _ t,h=>by
  cases h with
 |cons h1 h2=>exact .cons (λq hq=>h1 q.1 (fu hq).1) (WJ t h2)
theorem WK{H:Hp}:∀{vs:List V}{L:List Sx},bo (λv S=>Is H v (JL S)) vs L->bo (λ(kv:List Key×V)(S:Sx)=>kv.1=S.key/\Is H kv.2 (JL S)) ((L.zip vs).map λp=>(p.1.key,p.2)) L
|_,_,.nil=>.nil
|_,_,.cons r t=>.cons ⟨rfl,r⟩ (WK t)
theorem Dc.ord{H:Hp}{p:Addr}{L:List Sx}(d:Dc H p L)(h:L.Pairwise KNe):∃kvs,H p=some (.dT kvs)/\bo (λ(kv:List Key×V)(S:Sx)=>kv.1=S.key/\Is H kv.2 (JL S)) kvs L:=by obtain⟨kvs,e,_,⟨vs,r,ek⟩,_⟩:=d;refine⟨_,e,?_⟩;rw[ek,Qd _ [] (WJ r h) (λ_ _ q hq=>nomatch hq),List.nil_append];exact WK r
end SX
namespace L2
open PySem PySem.Spec PyProof.Rows
noncomputable def Itk(a:Addr)(o:Obj)(kvs:List (List Key×V)):It:=⟨λi H=>i<kvs.length/\H a=some (.frz o (.dT kvs)),λi H x H'=>H'=H/\∃(b:Addr)(kv:List Key×V),kvs[i]?=some kv/\H b=some (.tup (kv.1.map kV))/\x=.ref b,λi H=>i=kvs.length/\H a=some (.frz o (.dT kvs))⟩
theorem QR{P:Program}{w:World}{K:aa}{tg:Expr}{a it:Addr}{o:Obj}{kvs:List (List Key×V)}{es:Array DictEntry}{ep:Nat}(hdd:o.data=.dict es ep)(hsz:es.size=kvs.length):
  Turn P w K tg (Itk a o kvs) [it] it (λi h=>h.IsKeyIter it a i es.size ep) where
 mem:=by simp
 obj:=λi h st b hb=>by
  have e:b=it:=by simpa using hb
  subst e
  obtain⟨o,e,c,d⟩:=st
  exact⟨o,e,λv z=>by rw[d]at z;cases z⟩
 keep:=λi h h' st k=>st.at λo e=>k it (by simp) o e
 item:=by
  intro X hP hw hK hc i pins s σ H E I hf st hg
  subst hP hw hK
  obtain⟨hi,hq⟩:=hg
  obtain⟨ho,z,hd,xs,rel,o',es2,ep2,h1,h2,h3,h4,h5⟩:=I.hok a _ hq
  rw[ho]at h1
  cases h1
  rw[hdd]at h3
  cases h3
  have hl:=aL rel
  have hi':i<xs.length:=by omega
  obtain⟨e,he,ek,ev⟩:=FT h4 (gE hi')
  have hkv:=gE hi
  obtain⟨r1,r2,r3⟩:=XD rel hkv (gE hi')
  obtain⟨f0,f1,f2,f3,f4,f5⟩:=hf it (by simp)
  have hT:s.TypeIs (.ref it) "dict_keyiterator":=by obtain⟨o,e,c,d⟩:=st;exact⟨o,e,c⟩
  unfold pyNext
  refine ae (gD (bZ (name:=Str.ofString "__next__") hT F.slot_dict_keyiterator_next (cV F.slot_dict_keyiterator_next hT F.entry_dict_keyiterator_next ?_ (F.args_dict_keyiterator_next_1 _))))
  refine Rr st ho hdd he λh' st' sb=>⟨_,rfl,ai ?_⟩
  have I1:Inv X pins σ H {s with heap:=h'}:=I.turned (t':=s.toks) (λb o hb e=>(sb.2 b hb).trans e) f0 f1 f3 f4 f5
  obtain⟨o',e',c',d'⟩:=id st'
  exact⟨_,rfl,QA (s:={s with heap:=h'}) e' c' d' (by decide) ⟨.ref xs[i].2.1,H,I1,ek,⟨rfl,xs[i].2.1,kvs[i],hkv,r2,rfl⟩,st',λb hb=>(hf b hb).1⟩⟩
 done:=by
  intro X hP hw hK hc i pins s σ H E I hf st hg
  subst hP hw hK
  obtain⟨hi,hq⟩:=hg
  have ho:=(I.hok a _ hq).1
  obtain⟨f0,f1,f2,f3,f4,f5⟩:=hf it (by simp)
  have hT:s.TypeIs (.ref it) "dict_keyiterator":=by obtain⟨o,e,c,d⟩:=st;exact⟨o,e,c⟩
  unfold pyNext
  refine ae (gD (bZ (name:=Str.ofString "__next__") hT F.slot_dict_keyiterator_next (cV F.slot_dict_keyiterator_next hT F.entry_dict_keyiterator_next ?_ (F.args_dict_keyiterator_next_1 _))))
  refine T8 (I.ok.hd hc) st ho hdd (by simp;omega) λh' e hk he=>?_
  obtain⟨o',ho',hc'⟩:=he
  refine ae (wpAny_isInstance (T:="StopIteration") (b:=true) ⟨o',ho',hc'⟩ isSubtype_stop ?_)
  exact ai ⟨rfl,I.turned (t':=s.toks) (λb o hb e=>hk b o hb e) f0 f1 f3 f4 f5⟩
 self:=λ_ _ _ _ _ st h=>wpAny_pyIter_keyiter st h
section
variable {X:Cx}{tg:Expr}
noncomputable def FU(tl:TE):TI:=λσ H R=>tl σ H λx H1=>∃a kvs,x=.ref a/\H1 a=some (.dT kvs)/\∀o,R (Itk a o kvs) (upd H1 a (.frz o (.dT kvs)))
theorem KH{l:Expr}{tl:TE}(hl:PE X l tl):PI X tg l (FU tl):=by
 intro pins s σ H R I h;refine thn (hl pins s σ H _ I h) λv s1 hZ=>?_;obtain⟨x,H1,I1,r1,q1⟩:=hZ;obtain⟨a,kvs,e,hq,q⟩:=q1;subst e;cases r1;obtain⟨z,hd,xs,rel,ob,es,ep,h1,h2,h3,h4,h5,h6⟩:=Ez I1.hok hq;have hlen:=aL rel;have hsz:es.size=kvs.length:=by rw[<-da,h4,lm,hlen]
 have I2:Inv X pins σ (upd H1 a (.frz ob (.dT kvs))) s1:=I1.write (x:=a) (e:=a) (h':=s1.heap) (t':=s1.toks) (o:=.frz ob (.dT kvs)) (by rw[hq];exact bK) (.inl rfl) (λb u _ z=>z) ⟨ob,h1⟩ ⟨h1,?_⟩
 ·refine Lj hd ⟨ob,h1,h2,h3⟩ ?_;refine⟨s1.heap.objs.size,[s1.heap.objs.size],_,_,_,rfl,I2.kept (t':=s1.toks) λb o e=>Heap.get?_push_of_some _ e,QR h3 hsz,⟨_,Heap.get?_push_size _ rfl,rfl,rfl⟩,λb hb=>?_,q ob⟩;have e:b=s1.heap.objs.size:=by simpa using hb
  subst e;exact I2.fpOk (Nat.le_refl _) (I2.hok.fresh (Nat.le_refl _))
 ·have h0:Z4 X.prog X.w H1 s1.heap a (.dT kvs):=I1.hok a _ hq;exact h0.stay (λ_ _ _ z=>z) (λc z=>by rw[Zj (ne_of z hq (λq=>nomatch q))];exact z) λc xs z=>by rw[Zj (ne_of z hq (λq=>nomatch q))];exact z
end
section
variable {prog:Program}{w:World}{A:bz}{E:Value->ag->Prop}{s:ag}
theorem T7{a:Addr}{xs:Array Value}{k:Nat}{sl:Array (Option Value)}{Q:Option Value->ag->Prop}(hx:s.heap.get? a=some {cls:=.type "list",data:=.seq xs k,slots:=sl})(hA:A.handled=none)(h:∀(h':Heap)(tk:Nat),(∀b o,s.heap.get? b=some o->h'.get? b=some o)->Q none {s with heap:=h',toks:=tk}):wpAny (model prog w) A (getAttr? (.ref a) (Str.ofString "keys")) Q E s:=by obtain⟨hp,g,d,tk,os⟩:=s;have hT:∀x,Shared.TypeIs {heap:=hp,gens:=g,drawn:=d,toks:=x,os:=os} (.ref a) "list":=λx=>⟨_,hx,rfl⟩;have f3:=F.slot_list_getattribute.lookup;have f4:=F.slot_list_getattribute.bind (Value.ref a);have f5:=am_list_getattr_none;unfold getAttr?;refine ae ?_;unfold mkText;refine ae (wpAny_fresh' (ai ?_));unfold getAttrBy?;refine ae (gD ?_);unfold getAttrBy;refine bh (ae (wpAny_typeOf (hT _) ?_));refine ae (gc f3 ?_);refine fK rfl ?_;unfold getAttrByItsOwn;refine ae ?_;unfold hookBefore;refine fK rfl (ai ?_);refine ae (gD (bh ?_));unfold callGetattribute;refine fK rfl ?_;refine ae (gc f4 ?_);refine call_meets F.slot_list_getattribute (hT _) am_entry_list_getattribute (F.args_list_getattribute_2 _ _) (meets_getattribute_miss_list a xs k _ (Str.ofString "keys") _ (by rfl) (by decide)) ⟨hx,hA,λh' tk' e hn=>?_⟩;obtain⟨keeps,new,⟨t,u,there⟩⟩:=hn;have hE:∀x,Shared.TypeIs {heap:=h',gens:=g,drawn:=d,toks:=x,os:=os} (.ref e) "AttributeError":=λx=>⟨_,there,rfl⟩;show wpAny _ _ (getattributeRaised _ _ _ _ _ _ _) _ _ _;unfold getattributeRaised;refine ae (wpAny_isInstance (b:=true) (hE _) sub_AttributeError ?_);refine dM rfl ?_;refine ae ?_;unfold hookBehind;refine fK rfl (gc f5 ?_);unfold hookOrError;dsimp only;unfold attributeErrorLeaves;refine dM rfl (ae (wpAny_throw ?_));show wpAny _ _ (isInstance _ _ >>= _) _ _ _;refine ae (wpAny_isInstance (b:=true) (hE _) sub_AttributeError ?_);refine dM rfl (ai ?_);exact h h' tk' keeps
theorem SU{h h':Heap}{k:MK}{v:Value}(x:mIs prog w h k v)(e:∀b o,h.get? b=some o->h'.get? b=some o):mIs prog w h' k v:=by
 rcases k with k|ks
 ·exact x
 ·obtain⟨a,rfl,o,items,n,h1,h2,h3,h4⟩:=x;exact⟨a,rfl,o,items,n,e _ _ h1,h2,h3,h4⟩
noncomputable def UN(ps:List (MK×Value×Value)):List (MK×Value×Value):=ps.foldl (λxs p=>mSto xs p.1 p.2.1 p.2.2) []
theorem R5:∀(ps:List (MK×Value×Value))(xs:List (MK×Value×Value))x,x∈ps.foldl (λxs p=>mSto xs p.1 p.2.1 p.2.2) xs->∃p∈xs++ps,x.1=p.1/\x.2.1=p.2.1
|[],xs,x,h=>⟨x,by simpa using h,rfl,rfl⟩
|p::ps,xs,x,h=>by
  obtain⟨q,hq,e1,e2⟩:=R5 ps _ x h;rcases aw.mp hq with hq|hq
  ·unfold mSto at hq;dsimp only at hq;split at hq
   ·obtain⟨y,hy,rfl⟩:=af.mp hq;refine⟨y,bq _ hy,?_⟩;rw[e1,e2];unfold mPut;split<;>exact⟨rfl,rfl⟩
   ·rcases aw.mp hq with hq|hq
    ·exact⟨q,bq _ hq,e1,e2⟩
    ·rw[ay]at hq;subst hq;exact⟨p,by simp,e1,e2⟩
  ·exact⟨q,by simp[hq],e1,e2⟩
theorem R6:∀(ps:List (MK×Value×Value))(xs:List (MK×Value×Value)),(ps.foldl (λxs p=>mSto xs p.1 p.2.1 p.2.2) xs).length<=xs.length+ps.length
|[],xs=>by simp
|p::ps,xs=>by
  have:=R6 ps (mSto xs p.1 p.2.1 p.2.2);have h:(mSto xs p.1 p.2.1 p.2.2).length<=xs.length+1:=by
   unfold mSto;split
   ·rw[lm];omega
   ·simp
  rw[dr,aW];omega
theorem NH:entryFor table "dict.update.loop"=some dZ.«dict.update.loop»:=entryFor_of_tree (by rfl)
theorem Vt:plainId "dict.update.loop"=true:=by decide +kernel
theorem Wi{h0:Heap}{I l d:Addr}{items:Array Value}{ps:List (MK×Value×Value)}{R:Result->ag->Prop}(hu:A.in1.units<cLine)(hh:A.in1.handled=none)(hne:l≠I)(ndI:d≠I)(ndl:d≠l)(hps:ps.length=items.size)(hz:ps.length<=sizeLine)(hit:∀(i:Nat)p,ps[i]?=some p->∃a o n,items[i]?=some (.ref a)/\h0.get? a=some o/\o.cls=.type "tuple"/\o.data=.seq #[p.2.1,p.2.2] n)(hk:∀p∈ps,mIs prog w h0 p.1 p.2.1)(fr:∀b o,h0.get? b=some o->b≠d/\b≠I):∀(k i:Nat)(j:Int)(s:ag),items.size-i=k->i<=items.size->(∀b o,h0.get? b=some o->s.heap.get? b=some o)->s.heap.IsListIter I l i->s.heap.IsList l items->MD prog w s.heap d (UN (ps.take i)) ->(∀(h':Heap)(tk:Nat),(∀b o,h0.get? b=some o->h'.get? b=some o)->MD prog w h' d (UN ps)->R (.ok (.ret .none)) {s with heap:=h',toks:=tk}) ->fG (model prog w) A (Code.builtin "dict.update.loop" {pos:=[.ref d,.ref I,fF j,.none],kw:=[]}) R s:=by
 have W:=Walks.list (prog:=prog) (w:=w) (A:=A.in1) hh I l hne items;intro k;induction k with
|zero=>
  intro i j s hki hi hold it li md hR;have e:i=items.size:=by omega
  subst e;refine codeAny_builtin NH ?_;rw[Around.under_plainId Vt];unfold dZ.«dict.update.loop»;refine ae (W.done s _ _ ⟨it,li⟩ λh' tk mv=>?_);show wpAny _ _ (gx d [] >>= _) _ _ _;unfold gx;refine ae (ae (ai (ai ?_)));refine ai (hR h' tk (λb o e=>mv b o (by simpa using(fr b o e).2) (hold b o e)) ?_);rw[<-hps,aV]at md;obtain⟨o,es,ep,ho,r⟩:=md;exact⟨o,es,ep,mv d o (by simpa using ndI) ho,r⟩
|succ k ih=>
  intro i j s hki hi hold it li md hR;have hlt:i<items.size:=by omega
  refine codeAny_builtin NH ?_;rw[Around.under_plainId Vt];unfold dZ.«dict.update.loop»;refine ae (W.item i s _ _ hlt ⟨it,li⟩ λv h' tk hv st mv=>?_);have hlt':i<ps.length:=by omega
  have ep:ps[i]?=some ps[i]:=gE hlt';have hmem:ps[i]∈ps:=aD hlt';generalize ps[i]=p at ep hmem;obtain⟨a,o,n,ea,ho,hc,hd⟩:=hit i p ep;rw[ea]at hv;cases hv;have hold':∀b o,h0.get? b=some o->h'.get? b=some o:=λb o e=>mv b o (by simpa using(fr b o e).2) (hold b o e);have ho':=hold' _ _ ho;have md':MD prog w h' d (UN (ps.take i)):=by obtain⟨o,es,ep,ho,r⟩:=md;exact⟨o,es,ep,mv d o (by simpa using ndI) ho,r⟩
  refine ae (bh (ae (wpAny_tryCatch ?_)));unfold Builtin.Dict.pairItems;refine ae (wpAny_typeOf (T:="tuple") ⟨o,ho',hc⟩ ?_);refine dM rfl ?_;unfold seqItems?;refine ae (ae (wpAny_load ho' ?_));rw[hd];refine ai (ai ?_);show wpAny _ _ (dY [p.2.1,p.2.2] (dictSet d p.2.1 p.2.2)) _ _ _;refine bh (Et (k:=p.1) hu (SU (hk p hmem) hold') md' (λx hx=>?_) (λh2 m2 sb=>?_) ?_)
  ·obtain⟨q,hq,e1,e2⟩:=R5 _ _ x hx;rw[List.nil_append]at hq;rw[e1,e2];exact SU (hk q (c7 hq)) hold'
  ·refine ai ⟨plainId_quiet Vt _,?_⟩;have hold2:∀b o,h0.get? b=some o->h2.get? b=some o:=λb o e=>sb.extBut b o (fr b o e).1 (hold' b o e);refine ih (i+1) (j+1) _ (by omega) (by omega) hold2 ?_ ?_ ?_ ?_
   ·obtain⟨oI,e1,e2⟩:=st.1;exact⟨oI,sb.extBut I oI (bD ndI) e1,e2⟩
   ·obtain⟨ol,e1,e2⟩:=st.2;exact⟨ol,sb.extBut l ol (bD ndl) e1,e2⟩
   ·rw[a9,ep];unfold UN at m2 ⊢;rw[gw];exact m2
   ·exact λh3 tk3=>hR h3 tk3
  ·have:=R6 (ps.take i) [];rw[aG]at this;unfold UN;have h0:([]:List (MK×Value×Value)).length=0:=rfl;omega
end
section
variable {X:Cx}
noncomputable def Qe(ks:List (MK×V)):List (MK×V):=ks.foldl (λkvs p=>putK kvs p.1 p.2) []
noncomputable def EV(P:Program)(w:World)(K:aa):List V->Hp->VK->Prop:=λxs H Q=>∃(l:Addr)(its:List V)(ks:List (MK×V)),xs=[.ref l]/\SqL K H l its/\bo (λv p=>∃(a:Addr)(y:V),v=.ref a/\H a=some (.tup [y,p.2])/\KyM H p.1 y) its ks/\its.length<=1000 /\∀d o,H d=none->DMw P w (upd H d o) d (Qe ks)->Q (.ref d) (upd H d o)
theorem Fp{H:Hp}{ks:List (MK×V)}{ps:List (MK×Value×Value)}{kvs:List (MK×V)}{xs:List (MK×Value×Value)}(h:bo (λ(p:MK×V)(q:MK×Value×Value)=>p.1=q.1/\KyV H p.1 q.2.1/\RelV p.2 q.2.2) ks ps)(r:KM H kvs xs):KM H (ks.foldl (λkvs p=>putK kvs p.1 p.2) kvs) (ps.foldl (λxs p=>mSto xs p.1 p.2.1 p.2.2) xs):=by
 induction h generalizing kvs xs with
|nil=>exact r
|@cons p q ks ps h0 _ ih=>obtain⟨e,h1,h2⟩:=h0;rw[dr,dr];refine ih ?_;rw[<-e];exact r.put p.1 h1 h2
theorem SE:∀(ks kvs:List (MK×V)),(ks.foldl (λkvs p=>putK kvs p.1 p.2) kvs).length<=kvs.length+ks.length
|[],kvs=>by simp
|p::ks,kvs=>by have h1:=SE ks (putK kvs p.1 p.2);have h2:=Y5 kvs p.1 p.2;rw[dr,aW];omega
theorem KW{pins:List (Addr×Obj)}{σ:St}{H:Hp}{s:ag}(I:Inv X pins σ H s){its:List V}{us:List Value}{ks:List (MK×V)}(rv:Vals its us)(h:bo (λv(p:MK×V)=>∃(a:Addr)(y:V),v=.ref a/\H a=some (.tup [y,p.2])/\KyM H p.1 y) its ks):∃ps:List (MK×Value×Value),bo (λ(p:MK×V)(q:MK×Value×Value)=>p.1=q.1/\KyV H p.1 q.2.1/\RelV p.2 q.2.2) ks ps/\bo (λu(q:MK×Value×Value)=>∃a o n,u=Value.ref a/\s.heap.get? a=some o/\o.cls=.type "tuple"/\o.data=.seq #[q.2.1,q.2.2] n) us ps:=by
 induction h generalizing us with
|nil=>cases rv;exact⟨[],.nil,.nil⟩
|@cons v p its ks h0 _ ih=>
  cases rv with
 |cons r t=>
   obtain⟨ps,h1,h2⟩:=ih t;obtain⟨a,y,e,ha,hy⟩:=h0;subst e;cases r;obtain⟨vs,rv,⟨o,e1,e2,n,e3⟩,_⟩:=I.tuple (SqT.of ha);obtain⟨x,z,rfl,rx,rz⟩:∃x z,vs=[x,z]/\RelV y x/\RelV p.2 z:=by
    cases rv with
   |cons r1 t1=>cases t1 with
    |cons r2 t2=>cases t2;exact⟨_,_,rfl,r1,r2⟩
   exact⟨(p.1,x,z)::ps,.cons ⟨rfl,hy.val X.prog X.w rx,rz⟩ h1,.cons ⟨a,o,n,rfl,e1,e2,e3⟩ h2⟩
theorem Jx{α β:Type}{R:α->β->Prop}{a:List α}{b:List β}(h:bo R a b):∀{i:Nat}{y:β},b[i]?=some y->∃x,a[i]?=some x/\R x y:=by
 induction h with
|nil=>intro i x h;cases h
|cons r _ ih=>
  intro i x h;cases i with
 |zero=>cases h;exact⟨_,rfl,r⟩
 |succ i=>obtain⟨u,h1,h2⟩:=ih (i:=i) (y:=x) (by simpa using h);exact⟨u,by simpa using h1,h2⟩
theorem RS(hu:X.A.units+64<cLine)(hc:X.calm=true):YS X (.type "dict") (EV X.prog X.w X.K):=by
 intro pins s σ H xs us Q I r h;obtain⟨l,its,ks,rfl,hq,pk,hl,q⟩:=h;obtain⟨u,rfl,ru⟩:=vals1 r;cases ru;obtain⟨vs,rv,pl,hz⟩:=I.list hq;obtain⟨ps,pa,pb⟩:=KW I rv pk;have hlv:=rv.length;have lp:=aL pb;have lk:=aL pk;have lka:=aL pa;obtain⟨ol,n0,el,cl,dl,sl⟩:=pl;refine callType_codes F.kt_called_dict (F.kt_typeCall_dict_1 _) F.entry_dict_init (kt_code_dict_new (Q₁:=λobj s1=>obj=.ref s.heap.objs.size/\s1={s with heap:=s.heap.push {cls:=.type "dict",data:=.dict #[]}}) _ ⟨rfl,rfl⟩) λobj s1⟨e1,e2⟩=>?_;subst e1 e2;have hD:∀(h':Heap),(∀b o,(s.heap.push {cls:=.type "dict",data:=.dict #[]}).get? b=some o->h'.get? b=some o)->MD X.prog X.w h' s.heap.objs.size []:=λh' k=>⟨_,#[],0,k _ _ (Heap.get?_push_size _ rfl),⟨rfl,rfl,rfl⟩,rfl,rfl,cD⟩;refine⟨⟨_,Heap.get?_push_size _ rfl,rfl⟩,F.args_dict_init_2 _ _,?_⟩;have ell:∀b o,s.heap.get? b=some o->(s.heap.push {cls:=.type "dict",data:=.dict #[]}).get? b=some o:=λb o e=>Heap.get?_push_of_some _ e;have lsz:l<s.heap.objs.size:=Heap.lt_size el;generalize hS:s.heap.objs.size=S at *;unfold dZ.«dict.__init__»;refine ae ?_;unfold Builtin.Dict.selfAndRest;refine ae (fS ⟨_,by rw[<-hS];exact Heap.get?_push_size _ rfl,rfl⟩ ?_);refine ae (ai (ai ?_));show wpAny _ _ (gB _ _ _ _ _) _ _ _;unfold gB;refine ae (wpAny_typeOf (T:="list") ⟨ol,ell _ _ el,cl⟩ ?_);refine dM rfl ?_;obtain⟨c0,d0,t0,z0⟩:=ol;subst cl dl sl;have hhd:X.A.in1.in1.handled=none:=I.ok.hd hc;refine ae (T7 (ell _ _ el) hhd λh1 tk1 k1=>?_);refine dM rfl ?_;refine ae (dB ?_);have li1:h1.IsList l vs.toArray:=⟨_,k1 _ _ (ell _ _ el),rfl,_,rfl⟩;refine ae (dN li1 ?_);refine ai ⟨plainId_quiet Vt _,?_⟩;have hge:S<h1.objs.size:=Heap.lt_size (k1 S _ (by rw[<-hS];exact Heap.get?_push_size _ rfl));have k2:∀b o,(s.heap.push {cls:=.type "dict",data:=.dict #[]}).get? b=some o->(h1.push {cls:=.type "list_iterator",data:=.fields #[.ref l,.int 0 0]}).get? b=some o:=λb o e=>Heap.get?_push_of_some _ (k1 _ _ e);have hu2:X.A.in1.in1.units<cLine:=by show X.A.units+1+1<cLine;omega
 refine Wi (A:=X.A.in1) (h0:=s.heap) (I:=h1.objs.size) (l:=l) (d:=S) (items:=vs.toArray) (ps:=ps) hu2 hhd (Nat.ne_of_lt (Nat.lt_trans lsz hge)) (Nat.ne_of_lt hge) (Nat.ne_of_gt lsz) (by rw[aq];omega) (Nat.le_trans (by omega:ps.length<=1000) (by decide)) (λi p hp=>?_) (λp hp=>?_) (λb o e=>?_) vs.toArray.size 0 0 _ (by omega) (Nat.zero_le _) ?_ ?_ ?_ ?_ (λh' tk kk m=>?_)
 ·obtain⟨u,hu',a,o,n,e,r1,r2,r3⟩:=Jx pb hp;subst e;exact⟨a,o,n,by simpa using hu',r1,r2,r3⟩
 ·obtain⟨i,hi⟩:=aU.mp hp;obtain⟨x,_,e,h1,_⟩:=Jx pa hi;rw[<-e];exact h1.is I.hok
 ·have hb:b<S:=hS▸Heap.lt_size e;exact⟨Nat.ne_of_lt hb,Nat.ne_of_lt (Nat.lt_trans hb hge)⟩
 ·exact λb o e=>k2 _ _ (ell _ _ e)
 ·exact⟨_,Heap.get?_push_size _ rfl,rfl,rfl⟩
 ·obtain⟨o,e,r⟩:=li1;exact⟨o,Heap.get?_push_of_some _ e,r⟩
 ·exact hD _ k2
 ·have keep:∀b o,s.heap.get? b=some o->h'.get? b=some o:=kk;have hn:H S=none:=I.hok.fresh (Nat.le_of_eq hS);refine⟨rfl,.ref S,upd H S (mdO X.prog X.w S (UN ps)),I.laid keep (Nat.le_of_eq hS) (Rj m),rfl,q _ _ hn ⟨_,Zf,?_,?_,?_⟩⟩
  ·exact KM.keeps (λb ys e=>(Zj (Zi e hn)).trans e) (Fp pa .nil)
  ·have:=SE ks [];exact Nat.le_trans (Nat.le_trans this (by rw[fv];omega:_<=1000)) (by decide)
  ·rw[<-hS];exact beq_eq_false_iff_ne.mpr (bD (Nat.ne_of_lt I.big))
theorem any_range(bs:List Bool):(aT bs.length).any (λi=>bs.getD i true)=bs.any id:=by
 rw[Bool.eq_iff_iff,bC,bC];constructor
 ·rintro ⟨i,hi,h⟩;have hl:=bj.mp hi;rw[ax,gE hl]at h;exact⟨_,aD hl,h⟩
 ·rintro ⟨b,hb,h⟩;obtain⟨i,hi⟩:=aU.mp hb;have hl:i<bs.length:=(aj.mp hi).1;exact⟨i,bj.mpr hl,by rw[ax,hi];exact h⟩
theorem M7(hc:X.calm=true):YS X (.builtin "any") (λxs H Q=>∃(p:Addr)(bs:List Bool),xs=[.ref p]/\SqL X.K H p (bs.map V.bl)/\Q (.bl (bs.any id)) H):=by
 intro pins s σ H xs us Q I r h;obtain⟨p,bs,rfl,hq,q⟩:=h;obtain⟨u,rfl,ru⟩:=vals1 r;cases ru;obtain⟨its,rv,pl,hz⟩:=I.list hq;have hl:=rv.length;rw[lm]at hl;refine call_any_walk (dN pl.isList ?_);have hne:p≠s.heap.objs.size:=by obtain⟨o,n,e,_⟩:=pl;exact Nat.ne_of_lt (Heap.lt_size e)
 refine⟨s.heap.objs.size,_,_,_,_,_,λi=>bs.getD i true,rfl,Walks.list (A:=X.A.in1) (I.ok.hd hc) s.heap.objs.size p hne its.toArray,⟨⟨_,Heap.get?_push_size _ rfl,rfl,rfl⟩,?_⟩,λi v s' Q' E' hp hQ=>?_,λh' tk kk=>?_⟩
 ·obtain⟨o,e,c,n,d⟩:=pl.isList;exact⟨o,Heap.get?_push_of_some _ e,c,n,d⟩
 ·obtain⟨b,hb,rfl⟩:=RY rv i v (by simpa using hp);have:bs.getD i true=b:=by rw[ax,hb];rfl
  exact bt (this▸hQ)
 ·have e:(aT its.toArray.size).any (λi=>bs.getD i true)=bs.any id:=by rw[aq,<-hl];exact any_range bs
  rw[e];refine⟨.bl (bs.any id),H,I.kept (t':=tk) λb o q=>?_,rfl,q⟩;exact kk b o (by simp;exact Nat.ne_of_lt (Heap.lt_size q)) (Heap.get?_push_of_some _ q)
theorem DG{prog:Program}{w:World}{d:Addr}(hd:(d==sysModules)=false):MeetsIn prog w (dZ.«dict.__len__» {pos:=[.ref d]}) (λ_ R s=>∃xs,MD prog w s.heap d xs/\R (.ok (.ret (.int (xs.length:Nat) s.toks))) {s with toks:=s.toks+1}):=.of_wp λA R s hZ=>by
  obtain⟨xs,⟨o,es,ep,ho,hc,hdat,he,hn⟩,h⟩:=hZ
  have this:es.size=xs.length:=by rw[<-da,he,lm]
  show wpAny _ _ (dictSize d >>= _) _ _ _;refine ae (ae (c9 ho hdat (ai (ae (wpAny_pendingCount_other hd (wpAny_ret_mkInt ?_))))));rw[this];simpa using h
theorem WG:YS X (.builtin "len") (λxs H Q=>∃a kvs,xs=[V.ref a]/\DM X.prog X.w H a kvs/\Q (.int kvs.length) H):=by
 intro pins s σ H xs us Q I r h;obtain⟨a,kvs,rfl,d,q⟩:=h;obtain⟨u,rfl,ru⟩:=vals1 r;cases ru;obtain⟨hs,ys,rel,m,z,his⟩:=d.at I.hok;have hl:=aL rel;have hfit:((ys.length:Nat):Int)<2 ^ 63:=by have:=JF;omega
 refine Calls.call_function_entry kind_len plain_len entry_len (args_len1 _) ?_;unfold Builtin.len;refine ae (ai ?_);refine ae (bZ m.typeIs F.slot_dict_len (call_meetsIn F.slot_dict_len m.typeIs F.entry_dict_len (F.args_dict_len_1 _) (DG hs) ⟨ys,m,?_⟩));show wpAny _ _ (dY _ (asIndex _) >>= _) _ _ _;refine ae (bh (ai ?_));refine ae (wpAny_letGo ?_);dsimp only;rw[if_neg (by omega),if_neg (by omega)];refine ae (wpAny_mkInt (ai ⟨_,rfl,.int kvs.length,H,(I.tok _).tok _,⟨_,by rw[hl]⟩,q⟩))
end
theorem KG(its:List Value):slicePick its.toArray none none (some (-1))=its.reverse.toArray:=by
 have hb:di none none (some (-1)) its.toArray.size=((its.length:Int)-1,-1,-1):=by simp[di]
 unfold slicePick;rw[hb];have hr:sliceRange ((its.length:Int)-1) (-1) (-1)=(aT its.length).map λk=>its.length-1-k:=by
  unfold sliceRange;have hc:(if(-1:Int)>0 then if(its.length:Int)-1 < -1 then(-1-((its.length:Int)-1) + -1-1) / -1 else 0 else if(its.length:Int)-1 > -1 then(((its.length:Int)-1) - -1 - -1-1) / - -1 else 0).toNat=its.length:=by
   rw[if_neg (by decide)];split
   ·rw[show((its.length:Int)-1 - -1 - -1-1)=its.length by omega,show(- -1:Int)=1 by decide,Int.ediv_one,Int.toNat_natCast]
   ·omega
  show((aT _).map _)=_;rw[hc];refine de λk hk=>?_;rw[bj]at hk;omega
 rw[hr];congr 1;apply List.ext_getElem?;intro i;have h2:∀l:List Nat,(∀k∈l,k<its.length)->(l.map λk=>its.length-1-k).filterMap (λx=>its.toArray[x]?)=l.map λk=>its.getD (its.length-1-k) .none:=by
  intro l;induction l with
 |nil=>intro _;rfl
 |cons k l ih=>
   intro h;have hk:=h k aE;have:its.length-1-k<its.length:=by omega
   rw[ar,ar,df,ih λj hj=>h j (av _ hj)];simp[this]
 rw[h2 _ λk hk=>bj.mp hk,aJ];by_cases h:i<its.length
 ·rw[List.getElem?_reverse h,fP h];have h3:its.length-1-i<its.length:=by omega
  simp[h3]
 ·rw[cY (by simp;omega),cY (by simp;omega)];rfl
def tRev(K:aa)(te ts:TE):TE:=λσ H Q=>te σ H λx H1=>ts σ H1 λy H2=>y=.int (-1)/\∃a xs,x=.ref a/\SqL K H2 a xs/\∀p,H2 p=none->Q (.ref p) (upd H2 p (.lst xs.reverse))
theorem E7{X:Cx}{e st:Expr}{te ts:TE}{pos p2:Pos}(he:PE X e te)(hs:PE X st ts):PE X (.Subscript e (.Slice none none (some st) p2) pos) (tRev X.K te ts):=by intro pins s σ H Q I h;refine Subscript_ (thn (he pins s σ H _ I h) λv s1 hZ=>?_);obtain⟨x,H1,I1,r1,q1⟩:=hZ;refine wpAny_Slice ?_;rw[evalPart_none,evalPart_some];refine ai (ai (thn (hs pins s1 σ H1 _ I1 q1) λu s3 hZ=>?_));obtain⟨y,H3,I3,r3,ey,a,xs,ex,hx,q⟩:=hZ;subst ey ex;obtain⟨t,rfl⟩:=r3;cases r1;have I4:Inv X pins σ H3 {s3 with heap:=s3.heap.push {cls:=.type "slice",data:=.fields #[.none,.none,.int (-1) t]}}:=I3.kept (t':=s3.toks) λb ob q=>Heap.get?_push_of_some _ q;obtain⟨its,r,ht,hz⟩:=I4.list hx;have hlen:=r.length;show wpAny (model X.prog X.w) X.A (gF e (.Slice none none (some st) p2) (.ref a) (.ref s3.heap.objs.size)) (EP X pins σ Q) X.xe {s3 with heap:=s3.heap.push {cls:=.type "slice",data:=.fields #[.none,.none,.int (-1) t]}};refine tail_any (ops:=[.ref a,.ref s3.heap.objs.size]) ht.isList.typeIs slot_list_getitem.lookup ?_ (by with_unfolding_all rfl);refine wpAny_getItem_list_slice ht.isList (Heap.IsSliceOf.new ..) .none .none (.int (-1) t) (by simp) ?_ (by rw[aq]<;>omega);rw[KG];refine⟨.ref _,_,I4.laid (t':=s3.toks) (o:=.lst xs.reverse) (λb ob q=>Heap.get?_push_of_some _ q) (Nat.le_refl _) ?_,rfl,q _ (I4.hok.fresh (Nat.le_refl _))⟩;exact⟨by rw[fO];exact hz,_,0,r.reverse,Heap.get?_push_size _ rfl⟩
theorem KZ{X:Cx}:OpR X (bp .Is) (λx y H Q=>∃a b,x=.bl a/\y=.bl b/\Q (.bl (a==b)) H):=by intro pins s σ H x y v u Q I rx ry h;obtain⟨a,b,rfl,rfl,q⟩:=h;cases rx;cases ry;exact is_bool (ZN I q rfl)
theorem TQ{X:Cx}:OpR X (bp .IsNot) (λx y H Q=>∃a b,x=.bl a/\y=.bl b/\Q (.bl (a != b)) H):=by intro pins s σ H x y v u Q I rx ry h;obtain⟨a,b,rfl,rfl,q⟩:=h;cases rx;cases ry;exact isnot_bool (ZN I q rfl)
end L2
namespace SX
open PySem L2 PySem.Spec PyProof.Rows TB WD
def L0(K:aa)(H:Hp)(x:V):Prop:=∃ty,TyOf K H x ty/\aH K ty (.type "tuple")=some false
theorem Rp{K:aa}:aH K (.type "tuple") (.type "tuple")=some true:=by kernel_rfl
def RV(T:Tb)(xs:List V):Prop:=∃y∈T.t1,∃i,xs=[.str (nameOf y),.int i]/\0<=i/\i<=T.n
def W6(K:aa)(C:Addr):Sp:=λvs H Q _=>∃(t:Addr)(x:V)(T:Tb),vs=[.ref t,x]/\Tel H C t T/\OkTb T /\((L0 K H x/\Q (.bl false) H)\/∃a xs,x=.ref a/\H a=some (.tup xs)/\xs.length<=1000/\(∀v∈xs,∃T,Th H v T)/\∀b:Bool,(b=true↔RV T xs)->Q (.bl b) H)
theorem Qt{z:Str}{kvs:List (Key×V)}{v:V}(h:valV kvs (.inr z)=some v):ZY (.str z) kvs=true:=by show(valV kvs (.inr z)).isSome=true;rw[h];rfl
section
variable {P:Program}{w:World}{K:aa}{mg:Str->Option Value}{base:Heap}{C:Addr}
theorem Nc:FnScope ["table","thing"] ["table","thing"] (Zd T.f_is_spot_of):=scO
theorem LD(B:∀x∈Blts,mg x=none)(Z:TCl K C)(CP:CanM P w K mg base CX0 2 C "is_place" ["self","thing"] (GX C "room_by_place"))(CI:Can P w K mg base 2 "is_within" ["thing","low","high"] K1.Xq)(D:Df K mg "is_spot_of" T.f_is_spot_of ["table","thing"]):Can P w K mg base 4 "is_spot_of" ["table","thing"] (W6 K C):=by
 refine D.cn Nc λf cdv A outer s H vs Q E hr h=>?_;obtain⟨t,x,T,rfl,tel,ok,h⟩:=h;obtain⟨fs,x1,x2,x3,x4,k5,tp,dd⟩:=tel;obtain⟨l,d,ys,rs,a1,a2,a3,a4,a5⟩:=tp.tab.p;have pd:=dd.p;obtain⟨dx,ht⟩:=tp.tab.tab.at_;refine⟨_,(Za (ZF (PW.pt (JN (Z9 (ZZ (X1 (c:="tuple") (pv 1) rfl (bm B) rfl (bm B) XM))) (XC (Zq MJ (Zy (r:=rLen K) ZU rfl (bm B) aZ (Zc (pv 1) Zk)) Zb (ZA _))))) (Ze (Zn YW)) Zr) (Ze (Zn (Xk (YH CP Z.cl Ys hr.m (pv 0) (Zc (it K (pv 1) Zb) Zk)) (YF (cn CI hr (Zc (it K (pv 1) Zb) (Zc Zb (Zc (Z2 (pv 0) rfl) Zk))))))))),?_⟩;rcases h with⟨⟨ty,hty,kt⟩,k⟩|⟨a,xs,rfl,ha,hlen,hit,k⟩
 ·refine⟨_,rfl,_,_,_,_,rfl,hty,kt,_,rfl,?_⟩;refine iteT ?_;exact iteT k
 ·refine⟨_,rfl,_,_,_,_,rfl,.tup ha,Rp,_,rfl,?_⟩;refine iteF ?_;refine⟨_,rfl,a,_,rfl,.inr (SqT.of ha),rfl,_,rfl,?_⟩;refine Xh (λe=>?_) (λe=>?_)
  ·refine k false ⟨λh=>(by cases h),?_⟩;rintro ⟨y,_,i,rfl,_⟩;simp at e
  ·have h2:xs.length=2:=by
    have q:decide (V.int (xs.length:Int)=V.int 2)=true:=by simpa using e
    have q:=of_decide_eq_true q;injection q with q;omega
   obtain⟨u,v,rfl⟩:=len2 h2;obtain⟨T0,th0⟩:=hit u (by simp);obtain⟨T1,th1⟩:=hit v (by simp);refine mthV ht (tp.tab.tab.only _ (by decide +kernel)) (ixT 0 ha rfl ⟨t,u,T0,fs,d,_,rfl,tp.tab.tab,a2,a5,th0,?_⟩);refine⟨_,rfl,?_⟩;cases e2:ZY u k5.1 with
  |false=>refine iteF ?_;refine k false ⟨λh=>(by cases h),?_⟩;rintro ⟨y,hy,i,e3,_⟩;injection e3 with e3 e4;rw[e3,Qt (pd.has y hy)]at e2;cases e2
  |true=>
    refine iteT ?_;refine ixT 1 ha rfl ⟨_,rfl,t,C,dx,fs,_,rfl,ht,Z.cl,Z.na _ (by simp[fields]),tp.tab.turns,v,T1,0,T.n,rfl,th1,?_⟩;obtain⟨z,v0,rfl,hv⟩:=Yx e2;refine k _ ⟨λh=>?_,?_⟩
    ·obtain⟨i,rfl,i0,i1⟩:=within_int h;have hm:z∈T.t1.map nameOf:=gI λn=>by rw[pd.no z n]at hv;cases hv
     obtain⟨y,hy,rfl⟩:=af.mp hm;exact⟨y,hy,i,rfl,i0,i1⟩
    ·rintro ⟨y,hy,i,e3,i0,i1⟩;injection e3 with e3 e4;injection e4 with e4;subst e4;show(decide (0<=i)&&decide (i<=T.n))=true;rw[decide_eq_true i0,decide_eq_true i1];rfl
end
noncomputable abbrev Spt:=Str×Int
noncomputable def nG(g:Str):MK:=.inl (.inr g)
noncomputable def nS(s:Spt):MK:=.inr [.inr s.1,.inl s.2]
noncomputable def YJ(gs:List Str)(ss:List Spt):List MK:=gs.map nG++ss.map nS
theorem Le{a b:Str}(h:nG a=nG b):a=b:=by injection h with h;injection h with h
theorem Ld{a b:Spt}(h:nS a=nS b):a=b:=by obtain⟨a1,a2⟩:=a;obtain⟨b1,b2⟩:=b;injection h with h;injection h with h1 h2;injection h1 with h1;injection h2 with h2 h3;injection h2 with h2;subst h1 h2;rfl
theorem nGS{a:Str}{b:Spt}:nG a≠nS b:=λh=>by cases h
noncomputable def memK(ks:List MK)(k:MK):Bool:=ks.any λx=>decide (x=k)
theorem MN{ks:List MK}{k:MK}:memK ks k=true↔k∈ks:=by unfold memK;rw[bC];exact⟨λ⟨x,h,e⟩=>of_decide_eq_true e▸h,λh=>⟨k,h,decide_eq_true rfl⟩⟩
theorem KJ{a b:List Int}(h:a.Perm b):a.sum=b.sum:=by
 induction h with
|nil=>rfl
|cons x _ ih=>rw[bQ,bQ,ih]
|swap x y l=>simp only[bQ];omega
|trans _ _ h1 h2=>exact h1.trans h2
section
variable {gs gs':List Str}{ss ss':List Spt}{T:Tb}
theorem Fj{g:Str}:nG g∈YJ gs ss↔g∈gs:=by
 unfold YJ;rw[aw,af,af];constructor
 ·rintro (⟨a,h,e⟩|⟨a,h,e⟩)
  ·exact Le e▸h
  ·exact absurd e.symm nGS
 ·exact λh=>.inl ⟨g,h,rfl⟩
theorem SO:(YJ gs ss).Nodup↔gs.Nodup/\ss.Nodup:=by
 unfold YJ;rw[cw];constructor
 ·rintro ⟨h1,h2,_⟩;exact⟨gS nG (λa b h e=>h (e▸rfl)) h1,gS nS (λa b h e=>h (e▸rfl)) h2⟩
 ·rintro ⟨h1,h2⟩;refine⟨nodup_map_on h1 λx _ y _ e=>Le e,nodup_map_on h2 λx _ y _ e=>Ld e,λa ha b hb e=>?_⟩;obtain⟨x,_,rfl⟩:=af.mp ha;obtain⟨y,_,rfl⟩:=af.mp hb;exact nGS e
def XZ(T:Tb)(s:Spt):Prop:=s.1∈T.t1.map nameOf/\0<=s.2/\s.2<=T.n
structure LnOk(T:Tb)(gs:List Str)(ss:List Spt):Prop where
 g:∀g∈gs,g∈T.t4.map nameOf
 s:∀s∈ss,XZ T s
noncomputable def inN(gs:List Str)(ss:List Spt)(k:MK):Bool:=memK (YJ gs ss) k
noncomputable def crs(gs:List Str)(ss:List Spt)(S:Sx):Bool:=inN gs ss (J7 S.tail)&&!inN gs ss (J7 S.head)
noncomputable def rmI(S:Sx):Int:=match S.room with|.int i=>i|_=>0
noncomputable def sumR(gs:List Str)(ss:List Spt)(L:List Sx):Int:=((L.filter (crs gs ss)).map rmI).sum
noncomputable def acr(T:Tb)(gs:List Str)(ss:List Spt):Option Int:=if(T.t4.flatMap (ZL T)).any (crs gs ss)=true then none else some (sumR gs ss (Yj T))
noncomputable def hmB(T:Tb)(p:Str):Bool:=T.t1.any λy=>decide (nameOf y=p)&&decide (at_ y 1=.non)
noncomputable def Xe(T:Tb)(ss:List Spt)(turn:Int):Bool:=ss.any λs=>hmB T s.1&&decide (s.2<=turn)
noncomputable def byd(T:Tb)(gs:List Str):Int:=((T.t4.filter λy=>!decide (nameOf y∈gs)).map ZC).sum
noncomputable def YI(T:Tb)(turn:Int)(gs:List Str)(ss:List Spt):Option Int:=if Xe T ss turn=true then none else(acr T gs ss).map (·+byd T gs)
noncomputable def optV:Option Int->V
|none=>.non
|some i=>.int i
theorem T6(hg:∀g,g∈gs↔g∈gs')(hs:∀s,s∈ss↔s∈ss')(turn:Int):YI T turn gs ss=YI T turn gs' ss':=by
 have hk:inN gs ss=inN gs' ss':=by funext k;unfold inN;rw[Bool.eq_iff_iff,MN,MN];unfold YJ;simp only[aw,af,hg,hs]
 have hc:crs gs ss=crs gs' ss':=by funext S;unfold crs;rw[hk]
 have hh:Xe T ss turn=Xe T ss' turn:=by unfold Xe;rw[Bool.eq_iff_iff,bC,bC];simp only[hs]
 have hb:byd T gs=byd T gs':=by
  unfold byd;have:(λy:List V=>!decide (nameOf y∈gs))=λy=>!decide (nameOf y∈gs'):=by funext y;rw[decide_eq_decide.mpr (hg (nameOf y))]
  rw[this]
 unfold YI acr sumR;rw[hc,hh,hb]
theorem Np{p:List V->Bool}:∀t:List (List V),(t.map ZC).sum=((t.filter p).map ZC).sum+((t.filter λy=>!p y).map ZC).sum
|[]=>rfl
|y::t=>by
  have h:=Np (p:=p) t;rw[ar,bQ,h];cases e:p y
  ·rw[cM (by simp[e]),cL (by simp[e]),ar,bQ];omega
  ·rw[cL (by simp[e]),cM (by simp[e]),ar,bQ];omega
theorem Hl(o:OkTb T)(nd:gs.Nodup)(hg:∀g∈gs,g∈T.t4.map nameOf){f:Str->Int}(hf:∀y∈T.t4,f (nameOf y)=ZC y):(T.t4.map ZC).sum-(gs.map f).sum=byd T gs:=by
 have ndn:(T.t4.map nameOf).Nodup:=NA o (j:=4) (.inr (.inr (.inr rfl)));have hp:gs.Perm ((T.t4.filter λy=>decide (nameOf y∈gs)).map nameOf):=by
  refine(List.perm_ext_iff_of_nodup nd (ndn.sublist ((dX).map nameOf))).mpr λg=>?_;constructor
  ·intro h;obtain⟨y,hy,rfl⟩:=af.mp (hg g h);exact af.mpr ⟨y,a7.mpr ⟨hy,decide_eq_true h⟩,rfl⟩
  ·intro h;obtain⟨y,hy,rfl⟩:=af.mp h;exact of_decide_eq_true (a7.mp hy).2
 have h1:(gs.map f).sum=((T.t4.filter λy=>decide (nameOf y∈gs)).map ZC).sum:=by rw[KJ (hp.map f),bA];congr 1;refine de λy hy=>?_;exact hf y (a7.mp hy).1
 have h2:=Np (p:=λy=>decide (nameOf y∈gs)) T.t4;unfold byd;rw[h1,h2];omega
end
theorem SQ{T:Tb}(o:OkTb T){S:Sx}(h:S∈Yj T):S.room=.int (rmI S):=by
 unfold Yj at h;simp only[aw,bJ,af]at h;rcases h with(⟨y,hy,rfl⟩|⟨y,hy,h⟩)|⟨y,hy,h⟩
 ·rfl
 ·obtain⟨m,_,rfl⟩:=af.mp h;rfl
 ·unfold ZM at h;split at h
  ·cases h
  rename_i hne;obtain⟨m,_,rfl⟩:=af.mp h;obtain⟨⟨nm,rm⟩,rfl,_⟩:=Xo o hy;cases rm with
 |none=>exact absurd rfl hne
 |some i=>rfl
noncomputable def JE(ks:List MK):List (MK×V):=Qe (ks.map λk=>(k,V.bl true))
theorem Ql:∀(ks:List MK)(kvs:List (MK×V)),(∀k,(valV ((ks.map λk=>(k,V.bl true)).foldl (λkvs p=>putK kvs p.1 p.2) kvs) k).isSome=((valV kvs k).isSome||memK ks k))
|[],kvs,k=>by simp[memK]
|a::ks,kvs,k=>by
  rw[ar,dr,Ql ks,Xa];unfold memK;rw[b6];by_cases e:k=a
  ·subst e;simp
  ·rw[if_neg (λz=>e z),decide_eq_false (λz=>e z.symm),Bool.false_or]
theorem Lc(ks:List MK)(k:MK):(valV (JE ks) k).isSome=memK ks k:=by unfold JE Qe;rw[Ql];rfl
theorem KA{kvs:List (MK×V)}{k:MK}{v:V}:(putK kvs k v).length=if(valV kvs k).isSome=true then kvs.length else kvs.length+1:=by
 unfold putK;rw[X8];split
 ·rw[lm]
 ·rw[ah];rfl
theorem Ui:∀(ks:List MK)(kvs:List (MK×V)),((ks.map λk=>(k,V.bl true)).foldl (λkvs p=>putK kvs p.1 p.2) kvs).length<=kvs.length+ks.length/\(((ks.map λk=>(k,V.bl true)).foldl (λkvs p=>putK kvs p.1 p.2) kvs).length=kvs.length+ks.length↔ks.Nodup/\∀k∈ks,valV kvs k=none)
|[],kvs=>by simp
|a::ks,kvs=>by
  obtain⟨h1,h2⟩:=Ui ks (putK kvs a (.bl true));rw[ar,dr,aW];dsimp only;have hl:=KA (kvs:=kvs) (k:=a) (v:=.bl true);refine⟨by split at hl<;>omega,?_⟩;rw[bB];constructor
  ·intro e;have hn:valV kvs a=none:=by
    cases hv:valV kvs a with
   |none=>rfl
   |some v=>rw[hv,if_pos (by rfl)]at hl;omega
   rw[hn,if_neg (by simp)]at hl;obtain⟨n1,n2⟩:=h2.mp (by omega);refine⟨⟨λhm=>?_,n1⟩,λk hk=>?_⟩
   ·have:=n2 a hm;rw[Xa,if_pos rfl]at this;cases this
   ·rcases ao.mp hk with rfl|hk
    ·exact hn
    ·have:=n2 k hk;rw[Xa]at this;split at this
     ·cases this
     ·exact this
  ·rintro ⟨⟨n1,n2⟩,n3⟩;have hn:=n3 a aE;rw[hn,if_neg (by simp)]at hl;have:=h2.mpr ⟨n2,λk hk=>by have hz:¬k=a:=λz=>n1 (z▸hk);rw[Xa,if_neg hz];exact n3 k (av _ hk)⟩;omega
theorem MM(ks:List MK):(JE ks).length<=ks.length/\((JE ks).length=ks.length↔ks.Nodup):=by obtain⟨h1,h2⟩:=Ui ks [];unfold JE Qe;rw[fv,Nat.zero_add]at h1 h2;refine⟨h1,h2.trans ⟨λh=>h.1,λh=>⟨h,λ_ _=>rfl⟩⟩⟩
theorem XG{z:Str}(h:GS z):z.length<=1000:=Nat.le_trans h.1 (by decide)
theorem Eb:bF "dict"=some (.type "dict"):=by decide +kernel
structure TA(H:Hp)(C t:Addr)(T:Tb)(dx:Addr)(fs:List (Str×V))(dP dG:Addr)(kP kG:List (Key×V)):Prop where
 tab:Tab H C t fs
 ins:H t=some (.ins C dx fs)
 turns:fs.lookup ("turns":Str)=some (.int T.n)
 p:fs.lookup ("room_by_place":Str)=some (.ref dP)
 pd:H dP=some (.dK kP)
 pk:PlDict kP T.t1
 g:fs.lookup ("group_by_name":Str)=some (.ref dG)
 gd:H dG=some (.dK kG)
 gk:∀y∈T.t4,∃a:Addr,valV kG (.inr (nameOf y))=some (.ref a)/\H a=some (.tup y)
 gn:∀z,z∉T.t4.map nameOf->valV kG (.inr z)=none
 gr:∃l xs,Prt H fs "groups" T.t4 l xs
theorem JS{H:Hp}{C t:Addr}{T:Tb}(h:Tel H C t T):∃dx fs dP dG kP kG,TA H C t T dx fs dP dG kP kG:=by
 obtain⟨fs',pr⟩:=V9 h;obtain⟨dx',ht'⟩:=pr.tab.at_;obtain⟨fs,x1,x2,x3,x4,k,tp,d⟩:=h;obtain⟨dx,ht⟩:=tp.tab.tab.at_;have e:fs'=fs:=by rw[ht]at ht';cases ht';rfl
 subst e;obtain⟨l1,dP,ys1,rs1,a1,a2,a3,a4,a5⟩:=tp.tab.p;obtain⟨l4,dG,ys4,rs4,b1,b2,b3,b4,b5⟩:=tp.tab.g;have rows:=tp.rows _ (.inr (.inr (.inr rfl))) _ _ rfl;refine⟨dx,fs',dP,dG,k.1,k.2.2.2,tp.tab.tab,ht,tp.tab.turns,a2,a5,d.p,b2,b5,λy hy=>?_,d.g.no,pr.g⟩;obtain⟨m,hm⟩:=aU.mp hy;have hl:x4.length=T.t4.length:=by rw[rows.1,lm]
 have hlt:m<T.t4.length:=(aj.mp hm).1;have e1:x4[m]?=some x4[m]:=gE (by omega);obtain⟨a,ea,ha,_⟩:=rows.2 m _ _ e1 (show(T.t4.map some)[m]?=some (some y) by rw[aJ,hm];rfl);exact⟨a,by rw[d.g.at_ m y _ hm e1,ea],ha⟩
section
variable {H H':Hp}{C t dx dP dG:Addr}{T:Tb}{fs:List (Str×V)}{kP kG:List (Key×V)}
theorem TA.same(s:Same H H')(h:TA H C t T dx fs dP dG kP kG):TA H' C t T dx fs dP dG kP kG:=⟨⟨⟨dx,s _ _ h.ins⟩,h.tab.only⟩,s _ _ h.ins,h.turns,h.p,s _ _ h.pd,h.pk,h.g,s _ _ h.gd,λy hy=>let ⟨a,e1,e2⟩:=h.gk y hy;⟨a,e1,s _ _ e2⟩,h.gn,let ⟨l,xs,f1,f2,f3,f4⟩:=h.gr;⟨l,xs,f1,s _ _ f2,f3,λi y hi=>let ⟨a,e1,e2⟩:=f4 i y hi;⟨a,e1,s _ _ e2⟩⟩⟩
noncomputable def isG(T:Tb):V->Bool
|.str z=>decide (z∈T.t4.map nameOf)
|_=>false
theorem TA.isG(h:TA H C t T dx fs dP dG kP kG)(v:V):ZY v kG=SX.isG T v:=by
 cases v with
|str z=>
  show(valV kG (.inr z)).isSome=decide _;by_cases e:z∈T.t4.map nameOf
  ·obtain⟨y,hy,rfl⟩:=af.mp e;obtain⟨a,ha,_⟩:=h.gk y hy;rw[ha,decide_eq_true e];rfl
  ·rw[h.gn z e,decide_eq_false e];rfl
|_=>rfl
theorem TA.home(h:TA H C t T dx fs dP dG kP kG)(o:OkTb T){z:Str}(hz:z∈T.t1.map nameOf):Ul (.str z) kP=hmB T z:=by
 obtain⟨y,hy,rfl⟩:=af.mp hz;have hv:=h.pk.has y hy;have e1:Ul (.str (nameOf y)) kP=decide (at_ y 1=.non):=by show decide (valV kP (.inr (nameOf y))=some .non)=_;rw[hv];by_cases e:at_ y 1=.non<;>simp[e]
 rw[e1];unfold hmB;rw[Bool.eq_iff_iff,bC,decide_eq_true_iff];constructor
 ·exact λe=>⟨y,hy,by simp[e]⟩
 ·rintro ⟨x,hx,e⟩;rw[Bool.and_eq_true,decide_eq_true_iff,decide_eq_true_iff]at e;have:=NB (NA o (j:=1) (.inl rfl)) hx hy e.1;rw[<-this];exact e.2
end
theorem kitL{K:aa}{H:Hp}{v:V}{T:String}(h:Th H v T):aH K (.type T) (.type "list")=some (decide (T="list")):=by cases h<;>(unfold aH;first|rfl|decide +kernel|(show _=_;simp;rfl))
def L1(H:Hp)(x:V):Prop:=∃T',Th H x T'/\T'≠"list"
def Ab(H:Hp)(x:V):Prop:=∃T',Th H x T'/\T'≠"tuple"
theorem Rq{K:aa}:aH K (.type "list") (.type "list")=some true:=by kernel_rfl
def RU(H:Hp)(v:V):Prop:=Ab H v\/∃p xs,v=.ref p/\H p=some (.tup xs)/\xs.length<=1000 /\(xs.length≠2\/∃x y,xs=[x,y]/\(L1 H x\/(∃a zs,x=.ref a/\H a=some (.lst zs))/\L1 H y))
def Kd:Sp:=λvs H Q _=>∃v,vs=[v]/\((RU H v/\Q (.bl false) H)\/∃p a b xs ys,v=.ref p/\H p=some (.tup [.ref a,.ref b])/\H a=some (.lst xs)/\H b=some (.lst ys)/\Q (.bl true) H)
def Mu(C:Addr):Sp:=λvs H Q _=>∃(t:Addr)(v:V)(T:Tb)(T':String),vs=[.ref t,v]/\Tel H C t T/\Th H v T'/\Q (.bl (K1.Zx v 0 T.n)) H
def W7(C:Addr):Sp:=λvs H Q _=>∃(t:Addr)(v:V)(T:Tb)(T':String),vs=[.ref t,v]/\Tel H C t T/\Th H v T'/\K1.Zx v 0 T.n=true/\Q .non H
def Kc(C:Addr):Sp:=λvs H Q _=>∃(t:Addr)(T:Tb)(y:List V),vs=[.ref t,.str (nameOf y)]/\Tel H C t T/\OkTb T/\y∈T.t4/\∀a,H a=some (.tup y)->Q (.ref a) H
def Ei(C:Addr):Sp:=λvs H Q _=>∃(t:Addr)(T:Tb),vs=[.ref t]/\Tel H C t T/\OkTb T/\∀H',Same H H'->Q (.int (T.t4.map ZC).sum) H'
section
variable {P:Program}{w:World}{K:aa}{mg:Str->Option Value}{base:Heap}{C:Addr}
theorem Q6:FnScope ["table","thing"] ["table","thing"] (Zd T.f_is_turn):=scO
theorem LB(Z:TCl K C)(CI:Can P w K mg base 2 "is_within" ["thing","low","high"] K1.Xq)(D:Df K mg "is_turn" T.f_is_turn ["table","thing"]):Can P w K mg base 3 "is_turn" ["table","thing"] (Mu C):=by refine D.cn Q6 λf cdv A outer s H vs Q E hr h=>?_;obtain⟨t,v,T,T',rfl,tel,th,k⟩:=h;obtain⟨dx,fs,dP,dG,kP,kG,ta⟩:=JS tel;refine⟨_,(Ze (Zn (cn CI hr (Zc (pv 1) (Zc Zb (Zc (Z2 (pv 0) rfl) Zk)))))),?_⟩;exact⟨_,rfl,_,rfl,t,C,dx,fs,_,rfl,ta.ins,Z.cl,Z.na _ (by simp[fields]),ta.turns,v,T',0,T.n,rfl,th,k⟩
theorem Ua:FnScope ["table","thing"] ["table","thing"] (Zd T.f_refuse_no_turn):=scO
theorem LG(CT:Can P w K mg base 3 "is_turn" ["table","thing"] (Mu C))(D:Df K mg "refuse_no_turn" T.f_refuse_no_turn ["table","thing"]):Can P w K mg base 4 "refuse_no_turn" ["table","thing"] (W7 C):=by refine D.cn Ua λf cdv A outer s H vs Q E hr h=>?_;obtain⟨t,v,T,T',rfl,tel,th,hw,k⟩:=h;refine⟨_,(Ze (ZF (Z9 (ZZ (cn CT hr (Zc (pv 0) (Zc (pv 1) Zk))))) (Ze Je) Zr)),?_⟩;refine⟨_,rfl,_,rfl,t,v,T,T',rfl,tel,th,_,rfl,?_⟩;rw[hw];exact iteF k
theorem Qa:FnScope ["line"] ["line"] (Zd T.f_has_form):=scO
theorem LN(B:∀x∈Blts,mg x=none)(D:Df K mg "has_form" T.f_has_form ["line"]):Can P w K mg base 1 "has_form" ["line"] Kd:=by
 refine D.cn Qa λf cdv A outer s H vs Q E hr h=>?_;obtain⟨v,rfl,h⟩:=h;refine⟨_,(Za (ZF (PW.pt (JN (Z9 (ZZ (X1 (c:="tuple") (pv 0) rfl (bm B) rfl (bm B) XM))) (XC (Zq MJ (Zy (r:=rLen K) ZU rfl (bm B) aZ (Zc (pv 0) Zk)) Zb (ZA _))))) (Ze (Zn YW)) Zr) (Ze (Zn (Xk (X1 (c:="list") (it K (pv 0) Zb) rfl (bm B) rfl (bm B) JI) (YF (X1 (c:="list") (it K (pv 0) Zb) rfl (bm B) rfl (bm B) JI)))))),?_⟩;rcases h with⟨⟨T',th,nt⟩|⟨p,xs,rfl,hp,hl,hx⟩,k⟩|⟨p,a,b,xs,ys,rfl,hp,ha,hb,k⟩
 ·refine⟨_,rfl,_,_,_,_,rfl,th.ty,(by rw[th.kitT,decide_eq_false nt]),_,rfl,?_⟩;refine iteT ?_;exact iteT k
 ·refine⟨_,rfl,_,_,_,_,rfl,.tup hp,Rp,_,rfl,?_⟩;refine iteF ?_;refine⟨_,rfl,p,_,rfl,.inr (SqT.of hp),rfl,_,rfl,?_⟩;refine Xh (λe=>k) (λe=>?_);have h2:xs.length=2:=by
   have q:decide (V.int (xs.length:Int)=V.int 2)=true:=by simpa using e
   have q:=of_decide_eq_true q;injection q with q;omega
  rcases hx with hx|⟨x,y,rfl,hx⟩
  ·exact absurd h2 hx
  ·rcases hx with⟨T',th,nt⟩|⟨⟨a,zs,rfl,ha⟩,⟨T',th,nt⟩⟩
   ·refine ixT 0 hp rfl ⟨_,_,_,_,rfl,th.ty,(by rw[kitL th,decide_eq_false nt]),_,rfl,?_⟩;exact iteF k
   ·refine ixT 0 hp rfl ⟨_,_,_,_,rfl,.lst ha,Rq,_,rfl,?_⟩;refine iteT ?_;exact ixT 1 hp rfl ⟨_,_,_,_,rfl,th.ty,(by rw[kitL th,decide_eq_false nt]),k⟩
 ·refine⟨_,rfl,_,_,_,_,rfl,.tup hp,Rp,_,rfl,?_⟩;refine iteF ?_;refine⟨_,rfl,p,_,rfl,.inr (SqT.of hp),rfl,_,rfl,?_⟩;refine iteF ?_;refine ixT 0 hp rfl ⟨_,_,_,_,rfl,.lst ha,Rq,_,rfl,?_⟩;refine iteT ?_;exact ixT 1 hp rfl ⟨_,_,_,_,rfl,.lst hb,Rq,k⟩
theorem VX:FnScope ["self","name"] ["self","name"] (Zd T.m_Table_group_row):=scO
theorem LM(Z:TCl K C)(CG:CanM P w K mg base CX0 2 C "is_group" ["self","thing"] (GX C "group_by_name"))(D:DfM K C "group_row" "Table.group_row" T.m_Table_group_row ["self","name"]):CanM P w K mg base CX0 3 C "group_row" ["self","name"] (Kc C):=by refine D.cn VX λf cdv A outer s H vs Q E hr h=>?_;obtain⟨t,T,y,rfl,tel,ok,hy,k⟩:=h;obtain⟨dx,fs,dP,dG,kP,kG,ta⟩:=JS tel;obtain⟨a,e1,e2⟩:=ta.gk y hy;have gs:=(YD ok (j:=4) (.inr (.inr (.inr rfl))) hy).2;refine⟨_,(Za (ZF (Z9 (ZZ (YH CG Z.cl Ys hr.m (pv 0) (Zc (pv 1) Zk)))) (Ze Je) Zr) (Ze (Zn (Pk (YX hr) (Z2 (pv 0) rfl) (pv 1) (λ_ _=>rfl))))),?_⟩;refine mthV ta.ins (ta.tab.only _ (by decide +kernel)) ⟨_,rfl,t,.str (nameOf y),"str",fs,dG,kG,rfl,ta.tab,ta.g,ta.gd,.str _ (XG gs),_,rfl,?_⟩;rw[Qt e1];refine iteF ?_;exact⟨_,rfl,t,C,dx,fs,_,rfl,ta.ins,Z.cl,Z.na _ (by simp[fields]),ta.g,_,rfl,dG,_,rfl,(by rw[<-e1];exact DGet.k (k:=cA (nameOf y)) ta.gd),k a e2⟩
end
theorem V3{α:Type}{J:It}{g:TG}{tc:TT}{te:TE}{τ0:L2.St}{H0:Hp}{R:List V->Hp->Prop}(xs:List α)(hn:xs.length<=sizeLine)(p:α->Bool)(f:α->V)(S:L2.St->Prop)(s0:S τ0)(go:∀i H,i<xs.length->Same H0 H->J.go i H)(stop:∀H,Same H0 H->J.stop xs.length H)(step:∀(i:Nat)x τ v H H',xs[i]?=some x->S τ->Same H0 H->J.yld i H v H'->∀(N1:V->L2.St->Hp->Prop)(N2:L2.St->Hp->Prop),(p x=true->∀τ2 H2,S τ2->Same H0 H2->N1 (f x) τ2 H2)->(p x=false->∀τ2 H2,S τ2->Same H0 H2->N2 τ2 H2) ->g v τ H' λτ2 H2=>tc τ2 H2 λb H3=>if b=true then te τ2 H3 λy H4=>N1 y τ2 H4 else N2 τ2 H3)(hd:∀H,Same H0 H->R ((xs.filter p).map f) H):∃W:Nat->Nat->List V->L2.St->Hp->Prop,(∃m,W 0 m [] τ0 H0)/\∀i m ys τ H,W i m ys τ H ->(J.stop i H/\R ys H) \/(J.go i H/\ys.length<sizeLine/\∃N:List V->L2.St->Hp->Prop,(∀ys' τ' H',N ys' τ' H'->∃m',m'<m/\W (i+1) m' ys' τ' H') /\∀x H',J.yld i H x H'->g x τ H' λτ2 H2=>tc τ2 H2 λb H3=>if b=true then te τ2 H3 λy H4=>N (ys++[y]) τ2 H4 else N ys τ2 H3):=by
 refine JG (J:=J) (g:=g) (tc:=tc) (te:=te) xs.length hn (λi ys τ H=>Same H0 H/\ys=((xs.take i).filter p).map f/\S τ) ⟨Same.refl _,rfl,s0⟩ (λi ys τ H q=>?_) (λi ys τ H hi q=>go i H hi q.1) (λys τ H q=>stop H q.1) (λi ys τ H x H' hi q yl=>?_) (λys τ H q=>?_)
 ·obtain⟨_,rfl,_⟩:=q;rw[lm];exact Nat.le_trans (bg _ _) (by rw[aG];omega)
 ·obtain⟨sm,rfl,st⟩:=q;have e0:xs[i]?=some xs[i]:=gE hi;refine step i xs[i] τ x H H' e0 st sm yl _ _ (λe τ2 H2 s2 m2=>⟨m2,?_,s2⟩) (λe τ2 H2 s2 m2=>⟨m2,?_,s2⟩)
  ·rw[XO _ _ e0,if_pos e,aI];rfl
  ·rw[XO _ _ e0,if_neg (by rw[e];exact Bool.false_ne_true),br]
 ·obtain⟨sm,rfl,_⟩:=q;rw[aV];exact hd H sm
theorem Y8{α:Type}{J:It}{g:TG}{te:TE}{τ0:L2.St}{H0:Hp}{R:List V->Hp->Prop}(xs:List α)(hn:xs.length<=sizeLine)(f:α->V)(S:L2.St->Prop)(s0:S τ0)(go:∀i H,i<xs.length->Same H0 H->J.go i H)(stop:∀H,Same H0 H->J.stop xs.length H)(step:∀(i:Nat)x τ v H H',xs[i]?=some x->S τ->Same H0 H->J.yld i H v H'->∀(N1:V->L2.St->Hp->Prop),(∀τ2 H2,S τ2->Same H0 H2->N1 (f x) τ2 H2)->g v τ H' λτ2 H2=>te τ2 H2 λy H4=>N1 y τ2 H4)(hd:∀H,Same H0 H->R (xs.map f) H):∃W:Nat->Nat->List V->L2.St->Hp->Prop,(∃m,W 0 m [] τ0 H0)/\∀i m ys τ H,W i m ys τ H ->(J.stop i H/\R ys H) \/(J.go i H/\ys.length<sizeLine/\∃N:List V->L2.St->Hp->Prop,(∀ys' τ' H',N ys' τ' H'->∃m',m'<m/\W (i+1) m' ys' τ' H') /\∀x H',J.yld i H x H'->g x τ H' λτ2 H2=>tYes τ2 H2 λb H3=>if b=true then te τ2 H3 λy H4=>N (ys++[y]) τ2 H4 else N ys τ2 H3):=by
 refine Xg (J:=J) (g:=g) (te:=te) xs.length hn (λi ys τ H=>Same H0 H/\ys=(xs.take i).map f/\S τ) ⟨Same.refl _,rfl,s0⟩ (λi ys τ H q=>?_) (λi ys τ H hi q=>go i H hi q.1) (λys τ H q=>stop H q.1) (λi ys τ H x H' hi q yl=>?_) (λys τ H q=>?_)
 ·obtain⟨_,rfl,_⟩:=q;rw[lm,aG];omega
 ·obtain⟨sm,rfl,st⟩:=q;have e0:xs[i]?=some xs[i]:=gE hi;refine step i xs[i] τ x H H' e0 st sm yl _ (λτ2 H2 s2 m2=>⟨m2,?_,s2⟩);rw[a9,e0,aI];rfl
 ·obtain⟨sm,rfl,_⟩:=q;rw[aV];exact hd H sm
theorem Yz{α β:Type}{R:α->β->Prop}{a:List α}{b:List β}(h:bo R a b):∀{i:Nat}{x:α},a[i]?=some x->∃y,b[i]?=some y/\R x y:=by
 induction h with
|nil=>intro i x h;cases h
|cons r _ ih=>
  intro i x h;cases i with
 |zero=>cases h;exact⟨_,rfl,r⟩
 |succ i=>obtain⟨u,h1,h2⟩:=ih (i:=i) (x:=x) (by simpa using h);exact⟨u,by simpa using h1,h2⟩
theorem Zo{n:Nat}(h:n<=1000):n<=sizeLine:=Nat.le_trans h (by decide)
def SpAt(H:Hp)(v:V)(s:Spt):Prop:=∃a:Addr,v=.ref a/\H a=some (.tup [.str s.1,.int s.2])
def IsSp(H:Hp)(T:Tb)(y:V):Prop:=∃a xs,y=.ref a/\H a=some (.tup xs)/\RV T xs
def SpIt(K:aa)(H:Hp)(T:Tb)(y:V):Prop:=(∃T',Th H y T'/\T'≠"tuple")\/∃a xs,y=.ref a/\H a=some (.tup xs)/\xs.length<=1000/\∀v∈xs,∃T,Th H v T
noncomputable def spB(H:Hp)(T:Tb)(y:V):Bool:=@decide (IsSp H T y) (Classical.propDecidable _)
theorem So{H:Hp}{T:Tb}{y:V}:spB H T y=true↔IsSp H T y:=by unfold spB;exact @decide_eq_true_iff _ (Classical.propDecidable _)
theorem Ho{K:aa}{H:Hp}{y:V}{T':String}(h:Th H y T')(n:T'≠"tuple"):L0 K H y:=⟨_,h.ty,by rw[h.kitT,decide_eq_false n]⟩
theorem WR{H:Hp}{T:Tb}{y:V}{T':String}(h:Th H y T')(n:T'≠"tuple"):¬IsSp H T y:=λ hZ=>by
 obtain⟨a,xs,e,ha,_⟩:=hZ
 subst e;cases h with
|lst e=>rw[e]at ha;cases ha
|tup e=>exact n rfl
|dK e=>rw[e]at ha;cases ha
def Z3(H:Hp)(T:Tb)(v:V)(gs:List Str)(ss:List Spt):Prop:=∃p a b ys,v=.ref p/\H p=some (.tup [.ref a,.ref b])/\H a=some (.lst (gs.map V.str))/\H b=some (.lst ys)/\bo (SpAt H) ys ss/\LnOk T gs ss/\gs.Nodup/\ss.Nodup/\gs.length<=400/\ss.length<=400
def YT(K:aa)(H:Hp)(T:Tb)(v:V):Prop:=RU H v\/∃p a b xs ys,v=.ref p/\H p=some (.tup [.ref a,.ref b])/\H a=some (.lst xs)/\H b=some (.lst ys)/\xs.length<=450/\ys.length<=450 /\(((∀x∈xs,∃T,Th H x T)/\∃x∈xs,isG T x=false)\/∃gs,xs=gs.map V.str/\(∀g∈gs,g∈T.t4.map nameOf)/\(((∀y∈ys,SpIt K H T y)/\∃y∈ys,¬IsSp H T y)\/∃ss,bo (SpAt H) ys ss/\(∀s∈ss,XZ T s)/\¬(YJ gs ss).Nodup))
section
variable {K:aa}{H H':Hp}{T:Tb}{v:V}{gs:List Str}{ss:List Spt}
theorem SpAt.same(s:Same H H'){x:Spt}(h:SpAt H v x):SpAt H' v x:=by obtain⟨a,e,h⟩:=h;exact⟨a,e,s _ _ h⟩
theorem Z3.same(s:Same H H')(h:Z3 H T v gs ss):Z3 H' T v gs ss:=by obtain⟨p,a,b,ys,e,h1,h2,h3,h4,r⟩:=h;exact⟨p,a,b,ys,e,s _ _ h1,s _ _ h2,s _ _ h3,Paired.mapP h4 λ_ _ q=>q.same s,r⟩
theorem W3{a:Addr}{x:Spt}(o:XZ T x):RV T [.str x.1,.int x.2]:=by obtain⟨h,h1,h2⟩:=o;obtain⟨y,hy,e⟩:=af.mp h;exact⟨y,hy,x.2,by rw[e],h1,h2⟩
theorem g_th(o:OkTb T){g:Str}(h:g∈T.t4.map nameOf):Th H (.str g) "str"/\isG T (.str g)=true:=by obtain⟨y,hy,rfl⟩:=af.mp h;exact⟨.str _ (XG (YD o (j:=4) (.inr (.inr (.inr rfl))) hy).2),decide_eq_true h⟩
end
theorem SpIt.same{K:aa}{H H':Hp}{T:Tb}{y:V}(s:Same H H')(h:SpIt K H T y):SpIt K H' T y/\(¬IsSp H T y->¬IsSp H' T y):=by
 rcases h with⟨T',th,nt⟩|⟨a,xs,rfl,ha,hl,hi⟩
 ·exact⟨.inl ⟨T',th.same s,nt⟩,λ_=>WR (th.same s) nt⟩
 ·refine⟨.inr ⟨a,xs,rfl,s _ _ ha,hl,λv hv=>let ⟨T',t⟩:=hi v hv;⟨T',t.same s⟩⟩,λh⟨a2,x2,e,h2,q⟩=>h ⟨a,xs,rfl,ha,?_⟩⟩;cases e;rw[s _ _ ha]at h2;cases h2;exact q
theorem YT.same{K:aa}{H H':Hp}{T:Tb}{v:V}(s:Same H H')(h:YT K H T v):YT K H' T v:=by
 rcases h with nf|⟨p,a,b,xs,ys,e,h1,h2,h3,h4,h5,h6⟩
 ·refine .inl ?_;rcases nf with⟨T',th,nt⟩|⟨p,xs,e,hp,hl,hx⟩
  ·exact .inl ⟨T',th.same s,nt⟩
  ·refine .inr ⟨p,xs,e,s _ _ hp,hl,?_⟩;rcases hx with hx|⟨x,y,e2,⟨T',th,nt⟩|⟨⟨a,zs,e3,ha⟩,T',th,nt⟩⟩
   ·exact .inl hx
   ·exact .inr ⟨x,y,e2,.inl ⟨T',th.same s,nt⟩⟩
   ·exact .inr ⟨x,y,e2,.inr ⟨⟨a,zs,e3,s _ _ ha⟩,T',th.same s,nt⟩⟩
 ·refine .inr ⟨p,a,b,xs,ys,e,s _ _ h1,s _ _ h2,s _ _ h3,h4,h5,?_⟩;rcases h6 with⟨t,bad⟩|⟨gs,e2,hg,⟨it,y,hy,ny⟩|⟨ss,ps,hs,nd⟩⟩
  ·exact .inl ⟨λx hx=>let ⟨T',q⟩:=t x hx;⟨T',q.same s⟩,bad⟩
  ·exact .inr ⟨gs,e2,hg,.inl ⟨λz hz=>((it z hz).same s).1,y,hy,((it y hy).same s).2 ny⟩⟩
  ·exact .inr ⟨gs,e2,hg,.inr ⟨ss,Paired.mapP ps λ_ _ q=>q.same s,hs,nd⟩⟩
def Nr(P:Program)(w:World)(H:Hp)(d:Addr)(gs:List Str)(ss:List Spt):Prop:=DM P w H d (JE (YJ gs ss))
def W8(P:Program)(w:World)(K:aa)(C:Addr):Sp:=λvs H Q _=>∃(t:Addr)(v:V)(T:Tb),vs=[.ref t,v]/\Tel H C t T/\OkTb T /\((YT K H T v/\∀H',Same H H'->Q .non H')\/∃gs ss,Z3 H T v gs ss/\∀H' d,Same H H'->Nr P w H' d gs ss->Q (.ref d) H')
section
variable {P:Program}{w:World}{K:aa}{mg:Str->Option Value}{base:Heap}{C:Addr}
theorem Ju:FnScope ["table","line","near","node"] ["table","line"] (Zd T.f_near_side):=scO
noncomputable def Vi:Scope:=csx [(".0",.local),("thing",.local),("table",.free)]
theorem Uv:CompScope Vi (Zd T.f_near_side):=⟨rfl,by decide +kernel,by decide +kernel,by decide +kernel⟩
theorem Ux:(["thing","table"]:List Str).Nodup:=by decide +kernel
theorem Uw:CompNames ["table","line","near","node"] Vi ["thing","table"] [none,some 0]:=.mk' (by decide +kernel)
noncomputable def Vh:Scope:=csx [(".0",.local),("thing",.local),("is_spot_of",.globalImplicit),("table",.free)]
theorem Us:CompScope Vh (Zd T.f_near_side):=⟨rfl,by decide +kernel,by decide +kernel,by decide +kernel⟩
theorem Uu:(["thing","table"]:List Str).Nodup:=by decide +kernel
theorem Ut:CompNames ["table","line","near","node"] Vh ["thing","table"] [none,some 0]:=.mk' (by decide +kernel)
theorem LH(B:∀x∈Blts,mg x=none)(hall:mg "all"=none)(Z:TCl K C)(CF:Can P w K mg base 1 "has_form" ["line"] Kd)(CG:CanM P w K mg base CX0 2 C "is_group" ["self","thing"] (GX C "group_by_name"))(CS:Can P w K mg base 4 "is_spot_of" ["table","thing"] (W6 K C))(D:Df K mg "near_side" T.f_near_side ["table","line"]):Can P w K mg base 5 "near_side" ["table","line"] (W8 P w K C):=by
 refine D.cn Ju λf cdv A outer s H vs Q E hr h=>?_;obtain⟨t,v,T,rfl,tel,ok,h⟩:=h;refine' ⟨_,(@Za _ _ _ _ _ ?h11 (@Za _ _ _ _ _ ?h12 (@Za _ _ _ _ _ ?h13 (@Za _ _ _ _ _ ?h14 (@Za _ _ _ _ _ ?h15 (@Ze _ _ _ ?h16)))))),?rd⟩;case' h16=>refine' (Zn (Qg (@Zq _ _ _ _ _ _ _ _ Xd (Zy WG rfl (bm B) aZ (@pa1 _ _ _ (pv 2) (by rfl))) (Zp ZG (Zy (r:=rLen K) ZU rfl (bm B) aZ (@pa1 _ _ _ ?h9 (by rfl))) (Zy (r:=rLen K) ZU rfl (bm B) aZ (@pa1 _ _ _ ?h10 (by rfl)))) (ZA _)) (pv 2) ZK))
 case' h15=>refine' (Yn aY rfl (ZV (Zp Z8 ?h6 ?h7)) (nmT 3 Ju.nd) (@Ze _ _ _ ?h8))
 case' h14=>refine' (@st _ _ _ _ 2 _ _ Ju.nd Dt (by rfl) (by exact aK rfl) (by rfl) (by exact .inl rfl))
 case' h13=>refine' (@ZF _ _ _ _ _ _ _ _ (Z9 (ZZ (Zy (M8 rfl) rfl hall eO (@pa1 _ _ _ (ZQ rfl Us Ut (ZV ?h4) (λC s H ex pn=>(nmT 0 Uu)) (λC s H ex pn=>Yt) (λC s H ex pn=>(cn CS hr (Zc (pv 1) (Zc (pv 0) Zk))))) (by rfl))))) (@Ze _ _ _ ?h5) Zr)
 case' h12=>refine' (@ZF _ _ _ _ _ _ _ _ (Z9 (ZZ (Zy (M8 rfl) rfl hall eO (@pa1 _ _ _ (ZQ rfl Uv Uw (ZV ?h2) (λC s H ex pn=>(nmT 0 Ux)) (λC s H ex pn=>Yt) (λC s H ex pn=>(YH CG Z.cl Ys hr.m (pv 1) (Zc (pv 0) Zk)))) (by rfl))))) (@Ze _ _ _ ?h3) Zr)
 case' h11=>refine' (@ZF _ _ _ _ _ _ _ _ (Z9 (ZZ (cn CF hr (@pa1 _ _ _ (pv 1) (by rfl))))) (@Ze _ _ _ ?h1) Zr)
 case' h10=>refine' (@it _ _ _ _ _ _ K (pv 1) Zb (by rfl) (by exact λ_ _=>rfl))
 case' h9=>refine' (@it _ _ _ _ _ _ K (pv 1) Zb (by rfl) (by exact λ_ _=>rfl))
 case' h8=>refine' (Ds (YX hr) (pv 2) (pv 3) YW rfl)
 case' h7=>refine' (@it _ _ _ _ _ _ K (pv 1) Zb (by rfl) (by exact λ_ _=>rfl))
 case' h6=>refine' (@it _ _ _ _ _ _ K (pv 1) Zb (by rfl) (by exact λ_ _=>rfl))
 case' h5=>refine' (Zn ZK)
 case' h4=>refine' (@it _ _ _ _ _ _ K (pv 1) Zb (by rfl) (by exact λ_ _=>rfl))
 case' h3=>refine' (Zn ZK)
 case' h2=>refine' (@it _ _ _ _ _ _ K (pv 1) Zb (by rfl) (by exact λ_ _=>rfl))
 case' h1=>refine' (Zn ZK)
 case' rd=>
 obtain⟨dx,fs,dP,dG,kP,kG,ta⟩:=JS tel;have h':(RU H v/\∀H',Same H H'->Q .non H')\/∃p a b xs ys,v=.ref p/\H p=some (.tup [.ref a,.ref b])/\H a=some (.lst xs)/\H b=some (.lst ys)/\xs.length<=450/\ys.length<=450 /\(((∀x∈xs,∃T,Th H x T)/\(∃x∈xs,isG T x=false)/\∀H',Same H H'->Q .non H')\/∃gs,xs=gs.map V.str/\(∀g∈gs,g∈T.t4.map nameOf)/\(((∀y∈ys,SpIt K H T y)/\(∃y∈ys,¬IsSp H T y)/\∀H',Same H H'->Q .non H')\/∃ss,bo (SpAt H) ys ss/\(∀s∈ss,XZ T s)/\((YJ gs ss).Nodup->∀H' d,Same H H'->Nr P w H' d gs ss->Q (.ref d) H')/\(¬(YJ gs ss).Nodup->∀H',Same H H'->Q .non H'))):=by
  rcases h with⟨nf|⟨p,a,b,xs,ys,e,h1,h2,h3,h4,h5,h6⟩,k⟩|⟨gs,ss,⟨p,a,b,ys,e,h1,h2,h3,h4,lk,n1,n2,l1,l2⟩,k⟩
  ·exact .inl ⟨nf,k⟩
  ·refine .inr ⟨p,a,b,xs,ys,e,h1,h2,h3,h4,h5,?_⟩;rcases h6 with⟨a1,a2⟩|⟨gs,a1,a2,⟨a3,a4⟩|⟨ss,a3,a4,a5⟩⟩
   ·exact .inl ⟨a1,a2,k⟩
   ·exact .inr ⟨gs,a1,a2,.inl ⟨a3,a4,k⟩⟩
   ·exact .inr ⟨gs,a1,a2,.inr ⟨ss,a3,a4,λz=>absurd z a5,λ_=>k⟩⟩
  ·exact .inr ⟨p,a,b,_,ys,e,h1,h2,h3,by rw[lm];omega,by rw[aL h4];omega,.inr ⟨gs,rfl,lk.g,.inr ⟨ss,h4,lk.s,λ_=>k,λz=>absurd (SO.mpr ⟨n1,n2⟩) z⟩⟩⟩
 clear h;rcases h' with⟨nf,k⟩|⟨p,a,b,xs,ys,rfl,hp,ha,hb,lx,ly,h⟩
 ·exact⟨_,rfl,v,rfl,.inl ⟨nf,_,rfl,iteT (k H (Same.refl _))⟩⟩
 refine tqr λD0 hk0 hr0=>?_;refine⟨_,rfl,.ref p,rfl,.inr ⟨p,a,b,xs,ys,rfl,hp,ha,hb,_,rfl,iteF (hk0 _ _ ?_)⟩⟩;have hth:∀x∈xs,∃T',Th H x T':=by
  rcases h with⟨h1,_⟩|⟨gs,rfl,hg,_⟩
  ·exact h1
  ·intro x hx;obtain⟨g,hg',rfl⟩:=af.mp hx;exact⟨_,(g_th ok (hg g hg')).1⟩
 refine tqr λD1 hk1 hr1=>?_;refine ixT 0 hp rfl ⟨a,rfl,⟨_,SqL.of ha⟩,?_⟩;refine Y8 (J:=Itl K a) xs (Zo (by omega)) (λx=>V.bl (isG T x)) (λτ=>∃v1,τ=[v1,some (.ref t)]) ⟨none,rfl⟩ (λi H' hi sm=>⟨_,xs[i],SqL.of (sm _ _ ha),gE hi⟩) (λH' sm=>⟨_,SqL.of (sm _ _ ha),Nat.le_refl _⟩) (λi x τ u H1 H2 hx st sm yl N1 h1=>?_) (λH1 sm l1 hl1=>?_)
 ·obtain⟨v1,rfl⟩:=st;obtain⟨rfl,hy⟩:=yl;have hu:=hy _ (SqL.of (sm _ _ ha));rw[hx]at hu;cases hu;obtain⟨T',th⟩:=hth x (au hx);have ta1:=ta.same sm;refine mthV ta1.ins (ta1.tab.only _ (by decide +kernel)) ⟨_,rfl,t,x,T',fs,dG,kG,rfl,ta1.tab,ta1.g,ta1.gd,th.same sm,?_⟩;rw[ta1.isG];exact h1 _ _ ⟨_,rfl⟩ sm
 have S1:Same H (upd H1 l1 (.lst (xs.map λx=>V.bl (isG T x)))):=sameNew sm hl1;have e1:upd H1 l1 (.lst (xs.map λx=>V.bl (isG T x))) l1=some (.lst ((xs.map (isG T)).map V.bl)):=by rw[Zf,bA];rfl
 refine⟨l1,xs.map (isG T),rfl,SqL.of e1,_,rfl,?_⟩;generalize upd H1 l1 (.lst (xs.map λx=>V.bl (isG T x)))=H2 at S1 e1 ⊢;clear sm hl1 e1;rcases h with⟨_,⟨x,hx,ex⟩,k⟩|⟨gs,rfl,hg,h⟩
 ·rw[show(xs.map (isG T)).all id=false from by rw[Bool.eq_false_iff];intro z;have:=ba.mp z _ (af.mpr ⟨x,hx,rfl⟩);rw[ex]at this;cases this];refine iteT ?_;exact hr1 _ _ (k _ S1)
 rw[show((gs.map V.str).map (isG T)).all id=true from by
  rw[ba];intro z hz;obtain⟨x,hx,rfl⟩:=af.mp hz;obtain⟨g,hg',rfl⟩:=af.mp hx;exact(g_th (H:=H) ok (hg g hg')).2];refine iteF (hk1 _ _ ?_);refine tqr λD2 hk2 hr2=>?_;have hp2:=S1 _ _ hp;have ha2:=S1 _ _ ha;have hb2:=S1 _ _ hb;refine ixT 1 hp2 rfl ⟨b,rfl,⟨_,SqL.of hb2⟩,?_⟩;have hsp:∀y∈ys,SpIt K H T y:=by
  rcases h with⟨h1,_⟩|⟨ss,ps,hs,_⟩
  ·exact h1
  ·intro y hy;obtain⟨m,hm⟩:=aU.mp hy;obtain⟨z,hz,a',rfl,ha'⟩:=Yz ps hm;obtain⟨hn,_⟩:=hs z (au hz);obtain⟨yy,hyy,en⟩:=af.mp hn;refine .inr ⟨a',_,rfl,ha',(by show 2<=1000;decide),λv hv=>?_⟩;simp only[ao,aF,or_false]at hv;rcases hv with rfl|rfl
   ·exact⟨_,.str _ (by rw[<-en];exact XG (YD ok (j:=1) (.inl rfl) hyy).2)⟩
   ·exact⟨_,.int _⟩
 have tel2:=tel.same S1;refine Y8 (J:=Itl K b) ys (Zo (by omega)) (λy=>V.bl (spB H T y)) (λτ=>∃v1,τ=[v1,some (.ref t)]) ⟨none,rfl⟩ (λi H' hi sm=>⟨_,ys[i],SqL.of (sm _ _ hb2),gE hi⟩) (λH' sm=>⟨_,SqL.of (sm _ _ hb2),Nat.le_refl _⟩) (λi x τ u H3 H4 hx st sm yl N1 h1=>?_) (λH3 sm l3 hl3=>?_)
 ·obtain⟨v1,rfl⟩:=st;obtain⟨rfl,hy⟩:=yl;have hu:=hy _ (SqL.of (sm _ _ hb2));rw[hx]at hu;cases hu;have S13:=S1.trans sm;refine⟨_,rfl,_,rfl,t,x,T,rfl,tel2.same sm,ok,?_⟩;rcases hsp x (au hx)with⟨T',th,nt⟩|⟨a',zs,rfl,ha',hl',hi'⟩
  ·refine .inl ⟨Ho (th.same S13) nt,?_⟩;have:=h1 ([some x,some (.ref t)]) _ ⟨_,rfl⟩ sm;rw[show spB H T x=false from Bool.eq_false_iff.mpr λz=>WR th nt (So.mp z)]at this;exact this
  ·refine .inr ⟨a',zs,rfl,S13 _ _ ha',hl',λv hv=>let ⟨T',th⟩:=hi' v hv;⟨T',th.same S13⟩,λc hc=>?_⟩;have e:c=spB H T (.ref a'):=by
    rw[Bool.eq_iff_iff,hc,So];constructor
    ·exact λz=>⟨a',zs,rfl,ha',z⟩
    ·rintro ⟨a2,z2,e,h2,q⟩;cases e;rw[ha']at h2;cases h2;exact q
   rw[e];exact h1 _ _ ⟨_,rfl⟩ sm
 have S3:Same H2 (upd H3 l3 (.lst (ys.map λy=>V.bl (spB H T y)))):=sameNew sm hl3;have e3:upd H3 l3 (.lst (ys.map λy=>V.bl (spB H T y))) l3=some (.lst ((ys.map (spB H T)).map V.bl)):=by rw[Zf,bA];rfl
 refine⟨l3,ys.map (spB H T),rfl,SqL.of e3,_,rfl,?_⟩;generalize upd H3 l3 (.lst (ys.map λy=>V.bl (spB H T y)))=H4 at S3 e3 ⊢;clear sm hl3 e3;have S14:=S1.trans S3;rcases h with⟨_,⟨y,hy,ny⟩,k⟩|⟨ss,ps,hs,kg,kb⟩
 ·rw[show(ys.map (spB H T)).all id=false from by rw[Bool.eq_false_iff];intro z;exact ny (So.mp (ba.mp z _ (af.mpr ⟨y,hy,rfl⟩)))];refine iteT ?_;exact hr2 _ _ (k _ S14)
 rw[show(ys.map (spB H T)).all id=true from by rw[ba];intro z hz;obtain⟨y,hy,rfl⟩:=af.mp hz;obtain⟨m,hm⟩:=aU.mp hy;obtain⟨z,hz2,a',rfl,ha'⟩:=Yz ps hm;exact So.mpr ⟨a',_,rfl,ha',W3 (a:=a') (hs z (au hz2))⟩];refine iteF (hk2 _ _ ?_);clear hsp hth hr1 hr2 hk1 hk2 tel2;have hp4:=S3 _ _ hp2;have ha4:=S3 _ _ ha2;have hb4:=S3 _ _ hb2;have ps4:=Paired.mapP ps λ_ _ q=>q.same S14;refine tq λD3 hk3=>?_;refine λd od hd dm=>hk3 _ _ ?_;have S5:Same H4 (upd H4 d od):=sameNew (Same.refl _) hd;dsimp only[Zt];rw[show(L2.start (["table","line","near","node"]:List Str) [V.ref t,V.ref p]).set 2 (some (.ref d))=[some (.ref t),some (.ref p),some (.ref d),none]from rfl];generalize upd H4 d od=H5 at S5 dm ⊢;have S15:=S14.trans S5;refine tq λD4 hk4=>?_;refine ixT 0 (S5 _ _ hp4) rfl (ixT 1 (S5 _ _ hp4) rfl ⟨a,b,_,_,rfl,rfl,S5 _ _ ha4,S5 _ _ hb4,Zo (by omega),λl6 h6=>?_⟩);have dm6:=dm.keeps (H':=upd H5 l6 (.lst (gs.map V.str++ys))) (Zj (by obtain⟨z,e,_⟩:=dm;exact Zi e h6)) (λc zs e=>by rw[Zj (Zi e h6)];exact e);have S6:Same H5 (upd H5 l6 (.lst (gs.map V.str++ys))):=sameNew (Same.refl _) h6;have e6:upd H5 l6 (.lst (gs.map V.str++ys)) l6=some (.lst (gs.map V.str++ys)):=Zf;have nd6:d≠l6:=by obtain⟨z,e,_⟩:=dm;exact Zi e h6
 generalize upd H5 l6 (.lst (gs.map V.str++ys))=H6 at dm6 S6 e6 ⊢;have hd1:H d=none:=by
  cases e:H d with
 |none=>rfl
 |some o=>rw[S14 _ _ e]at hd;cases hd
 have S16:=S15.trans S6;have ps6:=Paired.mapP ps λ_ _ q=>q.same S16;have lys:=aL ps;have hkl:(gs.map V.str++ys).length=(YJ gs ss).length:=by unfold YJ;rw[ah,ah,lm,lm,lm,lys]
 have tot:(YJ gs ss).length<=900:=by rw[<-hkl,ah];omega
 have hky:∀(i:Nat)x,(gs.map V.str++ys)[i]?=some x->∃k,(YJ gs ss)[i]?=some k/\∀H',(∀c zs,H c=some (.tup zs)->H' c=some (.tup zs))->KyM H' k x:=λi x hx=>by
  unfold YJ;rcases Nat.lt_or_ge i (gs.map V.str).length with hi|hi
  ·rw[a8 hi,aJ]at hx;obtain⟨g,hg',rfl⟩:=bY.mp hx;refine⟨nG g,?_,λ_ _=>rfl⟩;rw[a8 (by rw[lm]at hi ⊢;exact hi),aJ,hg'];rfl
  ·rw[a6 hi]at hx;obtain⟨z,hz,a',rfl,ha'⟩:=Yz ps hx;refine⟨nS z,?_,λH' hh=>⟨a',rfl,hh _ _ ha'⟩⟩;rw[lm]at hi hz;rw[a6 (by rw[lm];exact hi),bw,aJ,hz];rfl
 refine⟨l6,rfl,⟨_,SqL.of e6⟩,?_⟩;refine YU (J:=Itl K l6) (gs.map V.str++ys).length (λi σ H'=>(∀c o,H6 c=some o->c≠d->H' c=some o)/\DMw P w H' d (JE ((YJ gs ss).take i))/\∃o:Nat->Option V,σ=[some (.ref t),some (.ref p),some (.ref d),o 3]) ?_ (λi σ H' hi q=>⟨_,(gs.map V.str++ys)[i],SqL.of (q.1 _ _ e6 (bD nd6)),gE hi⟩) (λσ H' q=>⟨_,SqL.of (q.1 _ _ e6 (bD nd6)),Nat.le_refl _⟩) (λi σ H7 x H8 hi q yl=>?_) (λσ H7 q=>?_)
 ·exact⟨λc o e _=>e,dm6,shp rfl⟩
 ·obtain⟨kp,dm7,o,rfl⟩:=q;obtain⟨rfl,hy⟩:=yl;have hx:=hy _ (SqL.of (kp _ _ e6 (bD nd6)));obtain⟨k',hk',ky⟩:=hky i x hx;dsimp only[Zt,az];refine td λD' hdd=>?_;refine⟨_,rfl,_,rfl,d,_,k',rfl,dm7,ky _ (λc zs e=>kp _ _ (S16 _ _ e) (Zi e hd1)),?_,λo' dm8=>hdd _ _ ⟨λc u e hc=>?_,?_,shp rfl⟩⟩
  ·have:=(MM ((YJ gs ss).take i)).1;rw[aG]at this;exact Nat.lt_of_le_of_lt (by omega:_<=999) (by decide)
  ·rw[Zj hc];exact kp c u e hc
  ·rw[a9,hk'];unfold JE Qe at dm8 ⊢;rw[aI,gw];exact dm8
 ·obtain⟨kp,dm7,o,rfl⟩:=q;rw[hkl,aV]at dm7;have hd6:∀{c:Addr}{u:HO},H c=some u->H7 c=some u:=λe=>kp _ _ (S16 _ _ e) (Zi e hd1);refine hk4 _ _ ?_;refine⟨_,rfl,d,_,rfl,dm7.rd,ixT 0 (hd6 hp) rfl ⟨a,_,rfl,.inl (SqL.of (hd6 ha)),ixT 1 (hd6 hp) rfl ⟨b,_,rfl,.inl (SqL.of (hd6 hb)),_,_,rfl,rfl,rfl,_,rfl,?_⟩⟩⟩;have hll:((gs.map V.str).length:Int)+(ys.length:Int)=((YJ gs ss).length:Nat):=by rw[<-hkl,ah];push_cast;rfl
  dsimp only;refine ite2 (λe=>?_) (λe=>?_)
  ·have e':=of_decide_eq_true e;injection e' with e';exact⟨_,rfl,kg ((MM _).2.mp (by omega)) _ d (λc u e=>hd6 e) dm7.rd⟩
  ·refine kb (λz=>e (decide_eq_true ?_)) _ λc u e=>hd6 e;have:=(MM _).2.mpr z;exact congrArg V.int (by omega)
end
end SX
namespace L2
open PySem PySem.Spec PyProof.Rows
theorem SK{X:Cx}{P:Program}{w:World}(hP:X.prog=P)(hw:X.w=w)(hu:X.A.units+1<cLine):OpR X (bp .In) (rInM P w):=by subst hP hw;exact Ff hu
theorem XF{X:Cx}{P:Program}{w:World}(hP:X.prog=P)(hw:X.w=w)(hu:X.A.units+1<cLine):OpR X (bp .NotIn) (Sz P w):=by subst hP hw;exact TN hu
theorem DM.same{P:Program}{w:World}{H H':Hp}{a:Addr}{kvs:List (MK×V)}(s:Same H H')(d:DM P w H a kvs):DM P w H' a kvs:=by
 obtain⟨xs,r,km,z⟩:=d;refine⟨xs,?_,km.keeps λb ys e=>s _ _ e,z⟩;rcases r with r|⟨o,r⟩
 ·exact .inl (s _ _ r)
 ·exact .inr ⟨o,s _ _ r⟩
theorem KO{X:Cx}{e:Expr}{T:Nat->TE}(h:∀j,j<4->PE X e (T j)):PE X e (λσ H Q=>∃j,j<4/\T j σ H Q):=λpins s σ H Q I⟨j,hj,q⟩=>h j hj pins s σ H Q I q
end L2
namespace SX
open PySem L2 PySem.Spec PyProof.Rows TB WD
theorem Nr.same{P:Program}{w:World}{H H':Hp}{d:Addr}{gs:List Str}{ss:List Spt}(s:Same H H')(h:Nr P w H d gs ss):Nr P w H' d gs ss:=DM.same s h
theorem JD(gs:List Str)(ss:List Spt)(k:MK):(valV (JE (YJ gs ss)) k).isSome=inN gs ss k:=Lc _ _
theorem G6{α:Type}(c:Bool)(f:α->Bool):∀l:List α,l.any (λx=>c&&f x)=(c&&l.any f)
|[]=>by simp
|a::l=>by rw[b6,b6,G6 c f l];cases c<;>simp
def Eh(P:Program)(w:World)(C:Addr):Sp:=λvs H Q _=>∃(t d r:Addr)(T:Tb)(y:List V)(gs:List Str)(ss:List Spt),vs=[.ref t,.ref d,.ref r]/\Tel H C t T/\OkTb T/\Nr P w H d gs ss/\H r=some (.tup y)/\y∈T.t4/\∀H',Same H H'->Q (.bl ((ZL T y).any (crs gs ss))) H'
def El(K:aa)(C:Addr):Sp:=λvs H Q _=>∃(t:Addr)(v:V)(T:Tb),vs=[.ref t,v]/\Tel H C t T/\OkTb T /\((YT K H T v/\∀H',Same H H'->Q .non H')\/∃gs ss,Z3 H T v gs ss/\∀H',Same H H'->Q (optV (acr T gs ss)) H')
section
variable {P:Program}{w:World}{K:aa}{mg:Str->Option Value}{base:Heap}{C:Addr}{Cs:Nat->Addr}
theorem G7:FnScope ["self"] ["self"] (Zd T.m_Table_people):=scO
noncomputable def XY:Scope:=csx [(".0",.local),("row",.local)]
theorem Vm:CompScope XY (Zd T.m_Table_people):=⟨rfl,by decide +kernel,by decide +kernel,by decide +kernel⟩
theorem Vo:(["row"]:List Str).Nodup:=by decide +kernel
theorem Vn:CompNames ["self"] XY ["row"] [none]:=.mk' (by decide +kernel)
theorem DX(B:∀x∈Blts,mg x=none)(Z:TCl K C)(D:DfM K C "people" "Table.people" T.m_Table_people ["self"]):CanM P w K mg base CX0 1 C "people" ["self"] (Ei C):=by
 refine D.cn G7 λf cdv A outer s H vs Q E hr h=>?_;obtain⟨t,T,rfl,tel,ok,k⟩:=h;obtain⟨dx,fs,dP,dG,kP,kG,ta⟩:=JS tel;obtain⟨l,xs,f1,f2,f3,f4⟩:=ta.gr;refine⟨_,(Ze (Zn (Zy (Js rfl) rfl (bm B) cJ (Zc (ZQ rfl Vm Vn (MH (Z2 (pv 0) rfl)) (λC s H ex pn=>(nmT 0 Vo)) (λC s H ex pn=>Yt) (λC s H ex pn=>(it K (pv 0) Zb))) Zk)))),?_⟩;refine⟨_,rfl,t,C,dx,fs,_,rfl,ta.ins,Z.cl,Z.na _ (by simp[fields]),f1,l,rfl,⟨_,SqT.of f2⟩,?_⟩;refine Y8 (J:=Itt K l) T.t4 (Nat.le_trans (YC ok).2.2.2 (by decide)) (λy=>V.int (ZC y)) (λτ=>∃v1,τ=[v1]) ⟨none,rfl⟩ (λi H' hi sm=>⟨xs,xs[i]'(by omega),SqT.of (sm _ _ f2),gE _⟩) (λH' sm=>⟨xs,SqT.of (sm _ _ f2),by omega⟩) (λi y τ u H1 H2 hx st sm yl N1 h1=>?_) (λH1 sm l1 hl1=>?_)
 ·obtain⟨v1,rfl⟩:=st;obtain⟨rfl,hy⟩:=yl;have hu:=hy _ (SqT.of (sm _ _ f2));obtain⟨a,ea,ha⟩:=f4 i y hx;rw[ea]at hu;cases hu;obtain⟨a1,b1,c1,d1,rfl,_⟩:=YY ok (au hx);exact ixT 3 (sm _ _ ha) rfl (h1 _ _ ⟨_,rfl⟩ sm)
 ·exact⟨l1,T.t4.map ZC,rfl,SqL.of (by rw[Zf,bA];rfl),k _ (sameNew sm hl1)⟩
theorem VW:FnScope ["table","near","row"] ["table","near","row"] (Zd T.f_set_out_crosses):=scO
noncomputable def Xs:Scope:=csx [(".0",.local),("turn",.local),("near",.free),("row",.free)]
theorem Jl:CompScope Xs (Zd T.f_set_out_crosses):=⟨rfl,by decide +kernel,by decide +kernel,by decide +kernel⟩
theorem Jn:(["turn","near","row"]:List Str).Nodup:=by decide +kernel
theorem Jm:CompNames ["table","near","row"] Xs ["turn","near","row"] [none,some 1,some 2]:=.mk' (by decide +kernel)
theorem DW(B:∀x∈Blts,mg x=none)(hany:mg "any"=none)(Z:TCl K C)(D:Df K mg "set_out_crosses" T.f_set_out_crosses ["table","near","row"]):Can P w K mg base 1 "set_out_crosses" ["table","near","row"] (Eh P w C):=by
 refine D.cn VW λf cdv A outer s H vs Q E hr h=>?_;obtain⟨t,d,r,T,y,gs,ss,rfl,tel,ok,nr,hy,my,k⟩:=h;obtain⟨dx,fs,dP,dG,kP,kG,ta⟩:=JS tel;refine⟨_,(Za (ZF (Zq (XF (P:=P) (w:=w) rfl rfl (YX hr)) (it K (pv 2) Zb) (pv 1) (by with_unfolding_all rfl)) (Ze (Zn YW)) Zr) (Ze (Zn (Zy (M7 rfl) rfl hany eM (Zc (ZQ rfl Jl Jm (Xy rfl (bm B) (Zc (it K (pv 2) Zb) (Zc (Zp ZG (Z2 (pv 0) rfl) Zb) Zk))) (λC s H ex pn=>(nmT 0 Jn)) (λC s H ex pn=>Yt) (λC s H ex pn=>(Yp (XF (P:=P) (w:=w) rfl rfl (YX hr)) (Zw (Zc (it K (pv 2) Zb) (Zc (pv 0) Zk))) (pv 1) (by with_unfolding_all rfl)))) Zk))))),?_⟩;obtain⟨a1,b1,c1,d1,rfl,_,_,c0,c2,_⟩:=YY ok my;have n1:=ok.n1;have eo:(ZL T [.str a1,.str b1,.int c1,.int d1]).any (crs gs ss)=(inN gs ss (nG a1)&&(aT (T.n+1-c1).toNat).any λm=>!inN gs ss (nS (b1,c1+(m:Int)))):=by rw[<-G6,show ZL T [.str a1,.str b1,.int c1,.int d1]=(aT (T.n+1-c1).toNat).map λ(m:Nat)=>outS [.str a1,.str b1,.int c1,.int d1] (c1+m)from rfl,gu];rfl
 rw[eo]at k;refine ixT 0 hy rfl ⟨_,rfl,d,_,nG a1,rfl,nr,rfl,_,rfl,?_⟩;rw[JD];cases e:inN gs ss (nG a1)with
|false=>rw[e]at k;exact iteT (k _ (Same.refl _))
|true=>
  rw[e,Bool.true_and]at k;refine iteF ?_;refine ixT 2 hy rfl ⟨_,rfl,t,C,dx,fs,_,rfl,ta.ins,Z.cl,Z.na _ (by simp[fields]),ta.turns,_,_,rfl,rfl,c1,T.n+1,rfl,⟨by omega,by omega,by omega,by omega⟩,?_⟩;refine Y8 (J:=Itr c1 (T.n+1-c1).toNat) (aT (T.n+1-c1).toNat) (by rw[a_];exact Zo (by omega)) (λm=>V.bl (!inN gs ss (nS (b1,c1+(m:Int))))) (λτ=>∃v1,τ=[v1,some (.ref d),some (.ref r)]) ⟨none,rfl⟩ (λi H' hi sm=>by rw[a_]at hi;exact hi) (λH' sm=>by rw[a_];exact Nat.le_refl _) (λi m τ u H1 H2 hx st sm yl N1 h1=>?_) (λH1 sm l1 hl1=>?_)
  ·obtain⟨v1,rfl⟩:=st;obtain⟨rfl,rfl⟩:=yl;have hm:m=i:=by
    have hi:i<(T.n+1-c1).toNat:=by have:=(aj.mp hx).1;rwa [a_]at this
    rw[fP hi]at hx;exact(aB hx).symm
   subst hm;refine ixT 1 (sm _ _ hy) rfl ⟨_,rfl,Zo (by show 2<=1000;decide),λq hq=>?_⟩;have S2:Same H (upd H2 q (.tup [.str b1,.int (c1+m)])):=sameNew sm hq;refine⟨_,rfl,d,_,nS (b1,c1+m),rfl,nr.same S2,⟨q,rfl,Zf⟩,?_⟩;rw[JD];exact h1 _ _ ⟨_,rfl⟩ S2
  ·refine⟨l1,(aT (T.n+1-c1).toNat).map λ(m:Nat)=>!inN gs ss (nS (b1,c1+(m:Int))),rfl,SqL.of (by rw[Zf,bA];rfl),?_⟩;rw[gu];exact k _ (sameNew sm hl1)
theorem JM:FnScope ["table","line","near"] ["table","line"] (Zd T.f_rooms_across):=scO
noncomputable def XX:Scope:=csx [(".0",.local),("row",.local),("set_out_crosses",.globalImplicit),("near",.free),("table",.free)]
theorem Ve:CompScope XX (Zd T.f_rooms_across):=⟨rfl,by decide +kernel,by decide +kernel,by decide +kernel⟩
theorem Vg:(["row","near","table"]:List Str).Nodup:=by decide +kernel
theorem Vf:CompNames ["table","line","near"] XX ["row","near","table"] [none,some 2,some 0]:=.mk' (by decide +kernel)
noncomputable def XW:Scope:=csx [(".0",.local),("step",.local),("near",.free)]
theorem Vb:CompScope XW (Zd T.f_rooms_across):=⟨rfl,by decide +kernel,by decide +kernel,by decide +kernel⟩
theorem Vd:(["step","near"]:List Str).Nodup:=by decide +kernel
theorem Vc:CompNames ["table","line","near"] XW ["step","near"] [none,some 2]:=.mk' (by decide +kernel)
theorem Ea(B:∀x∈Blts,mg x=none)(hany:mg "any"=none)(Z:TCl K C)(ZS:∀j,j<4->SCl K (Cs j))(CN:Can P w K mg base 5 "near_side" ["table","line"] (W8 P w K C))(CO:Can P w K mg base 1 "set_out_crosses" ["table","near","row"] (Eh P w C))(CM:Can P w K mg base 5 "moves_of" ["table"] (Vr C Cs Yj))(M2:∀j,j<4->CanM P w K mg base CX0 1 (Cs j) "tail" ["self"] (Mw K "its_tail"))(M3:∀j,j<4->CanM P w K mg base CX0 1 (Cs j) "head" ["self"] (Mw K "its_head"))(M4:∀j,j<4->CanM P w K mg base CX0 1 (Cs j) "room" ["self"] (Mw K "its_room"))(D:Df K mg "rooms_across" T.f_rooms_across ["table","line"]):Can P w K mg base 6 "rooms_across" ["table","line"] (El K C):=by
 refine D.cn JM λf cdv A outer s H vs Q E hr h=>?_;obtain⟨t,v,T,rfl,tel,ok,h⟩:=h;refine' ⟨_,(@Za _ _ _ _ _ ?h2 (@Za _ _ _ _ _ ?h3 (@Ze _ _ _ ?h4))),?rd⟩;case' h4=>refine' (Zn (Zy (Js rfl) rfl (bm B) cJ (@pa1 _ _ _ (ZQ rfl Vb Vc (ZV (cn CM hr (@pa1 _ _ _ (pv 0) (by rfl)))) (λC s H ex pn=>(nmT 0 Vd)) (λC s H ex pn=>(YN (PW.pt (JY (Zq (SK (P:=P) (w:=w) rfl rfl (YX hr)) (KO λj hj=>Uh (M2 j hj) (ZS j hj).cl Ys hr.m (pv 0)) (pv 1) (by with_unfolding_all rfl)) (XR (Zq (XF (P:=P) (w:=w) rfl rfl (YX hr)) (KO λj hj=>Uh (M3 j hj) (ZS j hj).cl Ys hr.m (pv 0)) (pv 1) (by with_unfolding_all rfl))))))) (λC s H ex pn=>(KO λj hj=>Uh (M4 j hj) (ZS j hj).cl Ys hr.m (pv 0)))) (by rfl))))
 case' h3=>refine' (@ZF _ _ _ _ _ _ _ _ (PW.pt (JN (@Zq _ _ _ _ _ _ _ _ V0 (pv 2) ZK (ZA _)) (XC (ZZ (Zy (M7 rfl) rfl hany eM (@pa1 _ _ _ (ZQ rfl Ve Vf (MH (Z2 (pv 0) rfl)) (λC s H ex pn=>(nmT 0 Vg)) (λC s H ex pn=>Yt) (λC s H ex pn=>(cn CO hr (Zc (pv 2) (Zc (pv 1) (Zc (pv 0) Zk)))))) (by rfl))))))) (@Ze _ _ _ ?h1) Zr)
 case' h2=>refine' (@Yb _ _ 2 _ _ _ _ JM.nd (by rfl) (by exact b9 rfl) (cn CN hr (@pa2 _ _ _ _ _ (pv 0) (pv 1) (by rfl))) (by rfl) (by exact aK rfl))
 case' h1=>refine' (Zn ZK)
 case' rd=>
 rcases h with⟨bad,k⟩|⟨gs,ss,good,k⟩
 ·refine⟨_,rfl,_,rfl,t,v,T,rfl,tel,ok,.inl ⟨bad,λH1 S1=>?_⟩⟩;dsimp only[Zt,az];refine⟨_,rfl,rfl,_,rfl,?_⟩;refine iteT ?_;exact iteT (k _ S1)
 refine tqr λD0 hk0 hr0=>?_;refine⟨_,rfl,_,rfl,t,v,T,rfl,tel,ok,.inr ⟨gs,ss,good,λH1 d S1 nr=>hk0 _ _ ?_⟩⟩;dsimp only[Zt];rw[show(L2.start (["table","line","near"]:List Str) [V.ref t,v]).set 2 (some (.ref d))=[some (.ref t),some v,some (.ref d)]from rfl];clear hk0 hr0;obtain⟨dx,fs,dP,dG,kP,kG,ta⟩:=JS (tel.same S1);obtain⟨l,xs,f1,f2,f3,f4⟩:=ta.gr;refine tqr λD1 hk1 hr1=>?_;refine⟨_,rfl,rfl,_,rfl,?_⟩;refine iteF ?_;refine⟨_,rfl,t,C,dx,fs,_,rfl,ta.ins,Z.cl,Z.na _ (by simp[fields]),f1,l,rfl,⟨_,SqT.of f2⟩,?_⟩;refine Y8 (J:=Itt K l) T.t4 (Nat.le_trans (YC ok).2.2.2 (by decide)) (λy=>V.bl ((ZL T y).any (crs gs ss))) (λτ=>∃v1,τ=[v1,some (.ref d),some (.ref t)]) ⟨none,rfl⟩ (λi H' hi sm=>⟨xs,xs[i]'(by omega),SqT.of (sm _ _ f2),gE _⟩) (λH' sm=>⟨xs,SqT.of (sm _ _ f2),by omega⟩) (λi y τ u H2 H3 hx st sm yl N1 h1=>?_) (λH2 sm l1 hl1=>?_)
 ·obtain⟨v1,rfl⟩:=st;obtain⟨rfl,hy⟩:=yl;have hu:=hy _ (SqT.of (sm _ _ f2));obtain⟨a,ea,ha⟩:=f4 i y hx;rw[ea]at hu;cases hu;exact⟨_,rfl,_,rfl,_,rfl,t,d,a,T,y,gs,ss,rfl,(tel.same S1).same sm,ok,nr.same sm,sm _ _ ha,au hx,λH' s'=>h1 _ _ ⟨_,rfl⟩ (sm.trans s')⟩
 have S2:Same H1 (upd H2 l1 (.lst (T.t4.map λy=>V.bl ((ZL T y).any (crs gs ss))))):=sameNew sm hl1;have e2:upd H2 l1 (.lst (T.t4.map λy=>V.bl ((ZL T y).any (crs gs ss)))) l1=some (.lst ((T.t4.map λy=>(ZL T y).any (crs gs ss)).map V.bl)):=by rw[Zf,bA];rfl
 refine⟨l1,_,rfl,SqL.of e2,_,rfl,?_⟩;generalize upd H2 l1 (.lst (T.t4.map λy=>V.bl ((ZL T y).any (crs gs ss))))=H3 at S2 e2 ⊢;have S13:=S1.trans S2;have eo:(T.t4.map λy=>(ZL T y).any (crs gs ss)).any id=(T.t4.flatMap (ZL T)).any (crs gs ss):=by rw[gu,List.any_flatMap];rfl
 rw[eo];unfold acr at k;cases e:(T.t4.flatMap (ZL T)).any (crs gs ss)with
|true=>rw[e,if_pos rfl]at k;exact iteT (hr1 _ _ (k _ S13))
|false=>
  rw[e,if_neg Bool.false_ne_true]at k;refine iteF (hk1 _ _ ?_);have nr3:=nr.same S2;refine⟨_,rfl,t,T,rfl,tel.same S13,ok,λH4 p vs S4 hp ep sl=>?_⟩;replace sl:StL H4 Cs T vs (Yj T):=sl;have ll:=sl.len;have lm:(Yj T).length<=3000:=by have pl:=Vs ok;unfold Yj;rw[ah,ah];omega
  refine⟨p,rfl,⟨_,SqL.of ep⟩,?_⟩;refine V3 (J:=Itl K p) (te:=λσ H Q=>∃j,j<4/\Nm (Cs j) "room" (Mw K "its_room") [] E0 (tVar 0) tNil σ H Q) (Yj T) (Nat.le_trans lm (by decide)) (crs gs ss) (λS=>V.int (rmI S)) (λτ=>∃v1,τ=[v1,some (.ref d)]) ⟨none,rfl⟩ (λi H' hi sm=>⟨vs,vs[i]'(by omega),SqL.of (sm _ _ ep),gE _⟩) (λH' sm=>⟨vs,SqL.of (sm _ _ ep),by omega⟩) (λi S τ u H5 H6 hx st sm yl N1 N2 h1 h2=>?_) ?_
  ·obtain⟨v1,rfl⟩:=st;obtain⟨rfl,hy⟩:=yl;have hu:=hy _ (SqL.of (sm _ _ ep));obtain⟨x',ex,q,j,rfl,sa,is⟩:=Jx sl hx;rw[ex]at hu;cases hu;obtain⟨dy,ky,vt,vh,g1,g2,g3,g4⟩:=sa.same sm;have hj4:=is.key.2;obtain⟨nt,nh⟩:=SN is;have nr5:=nr3.same (S4.trans sm);refine⟨_,hj4,_,rfl,q,dy,_,rfl,g1,rfl,q,_,dy,_,vt,rfl,ZS _ hj4,g1,rfl,_,rfl,d,_,_,rfl,nr5,Md nt g3,_,rfl,?_⟩;rw[JD];have hcr:crs gs ss S=(inN gs ss (J7 S.tail)&&!inN gs ss (J7 S.head)):=rfl;cases e1:inN gs ss (J7 S.tail)with
  |false=>rw[e1,Bool.false_and]at hcr;exact iteF (iteF (h2 hcr _ _ ⟨_,rfl⟩ sm))
  |true=>rw[e1,Bool.true_and]at hcr;refine iteT ?_;refine⟨_,hj4,_,rfl,q,dy,_,rfl,g1,rfl,q,_,dy,_,vh,rfl,ZS _ hj4,g1,rfl,_,rfl,d,_,_,rfl,nr5,Md nh g4,_,rfl,?_⟩;rw[JD];refine Xh (λz=>?_) (λz=>h2 (hcr.trans z) _ _ ⟨_,rfl⟩ sm);refine⟨_,hj4,_,rfl,q,dy,_,rfl,g1,rfl,q,_,dy,_,S.room,rfl,ZS _ hj4,g1,rfl,?_⟩;rw[SQ ok (au hx)];exact h1 (hcr.trans z) _ _ ⟨_,rfl⟩ sm
  ·intro H5 sm l2 hl2;exact⟨l2,((Yj T).filter (crs gs ss)).map rmI,rfl,SqL.of (by rw[Zf,bA];rfl),k _ (S13.trans (S4.trans (sameNew sm hl2)))⟩
noncomputable def mOfG(T:Tb)(g:Str):Int:=match T.t4.find? λy=>decide (nameOf y=g)with|some y=>ZC y|none=>0
theorem SS{T:Tb}(o:OkTb T){y:List V}(hy:y∈T.t4):mOfG T (nameOf y)=ZC y:=by
 unfold mOfG;cases e:T.t4.find? λx=>decide (nameOf x=nameOf y)with
|none=>have:=List.find?_eq_none.mp e y hy;simp at this
|some z=>have h1:=List.mem_of_find?_eq_some e;have h2:=List.find?_some e;rw[NB (NA o (j:=4) (.inr (.inr (.inr rfl)))) h1 hy (of_decide_eq_true h2)]
def Ek(C:Addr):Sp:=λvs H Q _=>∃(t:Addr)(v:V)(T:Tb)(gs:List Str)(ss:List Spt),vs=[.ref t,v]/\Tel H C t T/\OkTb T/\Z3 H T v gs ss/\∀H',Same H H'->Q (.int (byd T gs)) H'
def Kb(K:aa)(C:Addr):Sp:=λvs H Q _=>∃(t:Addr)(i:Int)(v:V)(T:Tb),vs=[.ref t,.int i,v]/\Tel H C t T/\OkTb T/\0<=i/\i<=T.n /\((YT K H T v/\∀H',Same H H'->Q .non H')\/∃gs ss,Z3 H T v gs ss/\∀H',Same H H'->Q (optV (YI T i gs ss)) H')
def JU(K:aa)(C:Addr):Sp:=λvs H Q _=>∃(t:Addr)(tv v nv:V)(T:Tb)(T1 T2:String),vs=[.ref t,tv,v,nv]/\Tel H C t T/\OkTb T/\Th H tv T1/\Th H nv T2 /\((K1.Zx tv 0 T.n=false/\Q (.bl false) H)\/(K1.Zx tv 0 T.n=true/\K1.Mj nv=false/\Q (.bl false) H)\/∃i m:Int,tv=.int i/\nv=.int m/\0<=i/\i<=T.n/\((YT K H T v/\∀H',Same H H'->Q (.bl false) H')\/∃gs ss,Z3 H T v gs ss/\∀H',Same H H'->Q (.bl (decide (YI T i gs ss=some m))) H'))
theorem Fd(x:Option Int)(m:Int):decide (optV x=.int m)=decide (x=some m):=by
 cases x with
|none=>rw[decide_eq_false (λz=>by cases z),decide_eq_false (λz=>by cases z)]
|some i=>
  refine decide_eq_decide.mpr ⟨λe=>?_,λe=>?_⟩
  ·injection e with e;rw[e]
  ·cases e;rfl
theorem Ke(x:Option Int)(m:Int):scal (optV x) (.int m)=true:=by cases x<;>rfl
theorem UP:FnScope ["table","line"] ["table","line"] (Zd T.f_people_beyond):=scO
noncomputable def XJ:Scope:=csx [(".0",.local),("name",.local),("table",.free)]
theorem JP:CompScope XJ (Zd T.f_people_beyond):=⟨rfl,by decide +kernel,by decide +kernel,by decide +kernel⟩
theorem JR:(["name","table"]:List Str).Nodup:=by decide +kernel
theorem JQ:CompNames ["table","line"] XJ ["name","table"] [none,some 0]:=.mk' (by decide +kernel)
theorem DZ(B:∀x∈Blts,mg x=none)(Z:TCl K C)(CP:CanM P w K mg base CX0 1 C "people" ["self"] (Ei C))(CR:CanM P w K mg base CX0 3 C "group_row" ["self","name"] (Kc C))(D:Df K mg "people_beyond" T.f_people_beyond ["table","line"]):Can P w K mg base 4 "people_beyond" ["table","line"] (Ek C):=by
 refine D.cn UP λf cdv A outer s H vs Q E hr h=>?_;obtain⟨t,v,T,gs,ss,rfl,tel,ok,good,k⟩:=h;refine' ⟨_,(@Ze _ _ _ ?h2),?rd⟩;case' h2=>refine' (Zn (Zp XE (Uh CP Z.cl Ys hr.m (pv 0)) (Zy (Js rfl) rfl (bm B) cJ (@pa1 _ _ _ (ZQ rfl JP JQ (ZV ?h1) (λC s H ex pn=>(nmT 0 JR)) (λC s H ex pn=>Yt) (λC s H ex pn=>(it K (YH CR Z.cl Ys hr.m (pv 1) (Zc (pv 0) Zk)) Zb))) (by rfl)))))
 case' h1=>refine' (@it _ _ _ _ _ _ K (pv 1) Zb (by rfl) (by exact λ_ _=>rfl))
 case' rd=>
 obtain⟨dx,fs,dP,dG,kP,kG,ta⟩:=JS tel;obtain⟨p,a,b,ys,rfl,hp,ha,hb,ps,lk,nd1,nd2,l1,l2⟩:=good;refine mthV ta.ins (ta.tab.only _ (by decide +kernel)) ⟨t,T,rfl,tel,ok,λH1 S1=>?_⟩;refine ixT 0 (S1 _ _ hp) rfl ⟨a,rfl,⟨_,SqL.of (S1 _ _ ha)⟩,?_⟩;refine Y8 (J:=Itl K a) gs (Zo (by omega)) (λg=>V.int (mOfG T g)) (λτ=>∃v1,τ=[v1,some (.ref t)]) ⟨none,rfl⟩ (λi H' hi sm=>⟨_,V.str gs[i],SqL.of (sm _ _ (S1 _ _ ha)),by simp[hi]⟩) (λH' sm=>⟨_,SqL.of (sm _ _ (S1 _ _ ha)),by simp⟩) (λi g τ u H2 H3 hx st sm yl N1 h1=>?_) ?_
 ·obtain⟨v1,rfl⟩:=st;obtain⟨rfl,hy⟩:=yl;have hu:=hy _ (SqL.of (sm _ _ (S1 _ _ ha)));rw[aJ,hx]at hu;cases hu;have S2:=S1.trans sm;have ta2:=ta.same S2;obtain⟨y,hy',ey⟩:=af.mp (lk.g g (au hx));subst ey;refine mthV ta2.ins (ta2.tab.only _ (by decide +kernel)) ⟨_,rfl,t,T,y,rfl,tel.same S2,ok,hy',λa' ha'=>?_⟩;have hm:=SS ok hy';obtain⟨a1,b1,c1,d1,rfl,_⟩:=YY ok hy';refine⟨a',_,3,_,rfl,rfl,SqT.of ha',Zu (j:=3) rfl,?_⟩;have:=h1 ([some (.str (nameOf [.str a1,.str b1,.int c1,.int d1])),some (.ref t)]) _ ⟨_,rfl⟩ sm;rw[hm]at this;exact this
 ·intro H2 sm l3 hl3;refine⟨l3,gs.map (mOfG T),rfl,SqL.of (by rw[Zf,bA];rfl),_,_,rfl,rfl,?_⟩;dsimp only;rw[Hl ok nd1 lk.g (f:=mOfG T) λy hy=>SS ok hy];exact k _ (S1.trans (sameNew sm hl3))
theorem Su:FnScope ["table","turn","line","rooms"] ["table","turn","line"] (Zd T.f_lets):=scO
noncomputable def NK:Scope:=csx [(".0",.local),("spot",.local),("table",.free),("turn",.free)]
theorem Pz:CompScope NK (Zd T.f_lets):=⟨rfl,by decide +kernel,by decide +kernel,by decide +kernel⟩
theorem PD:(["spot","table","turn"]:List Str).Nodup:=by decide +kernel
theorem PB:CompNames ["table","turn","line","rooms"] NK ["spot","table","turn"] [none,some 0,some 1]:=.mk' (by decide +kernel)
theorem LL(B:∀x∈Blts,mg x=none)(hany:mg "any"=none)(Z:TCl K C)(CT:Can P w K mg base 4 "refuse_no_turn" ["table","thing"] (W7 C))(CA:Can P w K mg base 6 "rooms_across" ["table","line"] (El K C))(CH:CanM P w K mg base CX0 3 C "is_home" ["self","thing"] (Mv C))(CB:Can P w K mg base 4 "people_beyond" ["table","line"] (Ek C))(D:Df K mg "lets" T.f_lets ["table","turn","line"]):Can P w K mg base 7 "lets" ["table","turn","line"] (Kb K C):=by
 refine D.cn Su λf cdv A outer s H vs Q E hr h=>?_;obtain⟨t,i,v,T,rfl,tel,ok,i0,i1,h⟩:=h;refine' ⟨_,(@Za _ _ _ _ _ ?h3 (@Za _ _ _ _ _ ?h4 (@Za _ _ _ _ _ ?h5 (@Ze _ _ _ ?h6)))),?rd⟩;case' h6=>refine' (Zn (Zp ZG (pv 3) (cn CB hr (@pa2 _ _ _ _ _ (pv 0) (pv 2) (by rfl)))))
 case' h5=>refine' (@ZF _ _ _ _ _ _ _ _ (PW.pt (JN (@Zq _ _ _ _ _ _ _ _ V0 (pv 3) ZK (ZA _)) (XC (ZZ (Zy (M7 rfl) rfl hany eM (@pa1 _ _ _ (ZQ rfl Pz PB (ZV ?h1) (λC s H ex pn=>(nmT 0 PD)) (λC s H ex pn=>Yt) (λC s H ex pn=>(Xk (YH CH Z.cl Ys hr.m (pv 1) (Zc (it K (pv 0) Zb) Zk)) (YF (Yp Nz (it K (pv 0) Zb) (pv 2) (ZA _)))))) (by rfl))))))) (@Ze _ _ _ ?h2) Zr)
 case' h4=>refine' (@st _ _ _ _ 3 _ _ Su.nd (cn CA hr (@pa2 _ _ _ _ _ (pv 0) (pv 2) (by rfl))) (by rfl) (by exact aK rfl) (by rfl) (by exact .inl rfl))
 case' h3=>refine' (Yg (cn CT hr (@pa2 _ _ _ _ _ (pv 0) (pv 1) (by rfl))))
 case' h2=>refine' (Zn ZK)
 case' h1=>refine' (@it _ _ _ _ _ _ K (pv 2) Zb (by rfl) (by exact λ_ _=>rfl))
 case' rd=>
 have hw:K1.Zx (.int i) 0 T.n=true:=by show(decide (0<=i)&&decide (i<=T.n))=true;simp[i0,i1]
 refine tq λDz hkz=>?_;refine⟨_,rfl,_,rfl,t,.int i,T,"int",rfl,tel,.int i,hw,hkz _ _ ?_⟩;clear hkz;rcases h with⟨bad,k⟩|⟨gs,ss,good,k⟩
 ·refine⟨_,rfl,_,rfl,t,v,T,rfl,tel,ok,.inl ⟨bad,λH1 S1=>?_⟩⟩;dsimp only[Zt,az];refine⟨_,rfl,rfl,_,rfl,?_⟩;refine iteT ?_;exact iteT (k _ S1)
 refine tqr λD0 hk0 hr0=>?_;refine⟨_,rfl,_,rfl,t,v,T,rfl,tel,ok,.inr ⟨gs,ss,good,λH1 S1=>hk0 _ _ ?_⟩⟩;dsimp only[Zt];rw[show(L2.start (["table","turn","line","rooms"]:List Str) [V.ref t,.int i,v]).set 3 (some (optV (acr T gs ss)))=[some (.ref t),some (.int i),some v,some (optV (acr T gs ss))]from rfl];clear hk0 hr0;unfold YI at k;refine tqr λD1 hk1 hr1=>?_;refine⟨_,rfl,rfl,_,rfl,?_⟩;cases ea:acr T gs ss with
|none=>rw[ea]at k;refine iteT (iteT (hr1 _ _ ?_));have:=k _ S1;split at this<;>exact this
|some m=>
  rw[ea]at k;refine iteF ?_;have good1:=good.same S1;have tel1:=tel.same S1;obtain⟨dx,fs,dP,dG,kP,kG,ta⟩:=JS tel1;obtain⟨p,a,b,ys,rfl,hp,ha,hb,ps,lk,nd1,nd2,l1,l2⟩:=good1;have ly:=aL ps;refine ixT 1 hp rfl ⟨b,rfl,⟨_,SqL.of hb⟩,?_⟩;refine Y8 (J:=Itl K b) ss (Zo (by omega)) (λz=>V.bl (hmB T z.1&&decide (z.2<=i))) (λτ=>∃v1,τ=[v1,some (.ref t),some (.int i)]) ⟨none,rfl⟩ (λj H' hj sm=>⟨_,ys[j]'(by omega),SqL.of (sm _ _ hb),gE _⟩) (λH' sm=>⟨_,SqL.of (sm _ _ hb),by omega⟩) (λj z τ u H2 H3 hx st sm yl N1 h1=>?_) ?_
  ·obtain⟨v1,rfl⟩:=st;obtain⟨rfl,hy⟩:=yl;have hu:=hy _ (SqL.of (sm _ _ hb));obtain⟨x',ex,q,rfl,hq⟩:=Jx ps hx;rw[ex]at hu;cases hu;have ta2:=ta.same sm;have hq2:=sm _ _ hq;have hz:=(lk.s z (au hx)).1;have gz:GS z.1:=by obtain⟨yy,hyy,en⟩:=af.mp hz;rw[<-en];exact(YD ok (j:=1) (.inl rfl) hyy).2
   refine mthV ta2.ins (ta2.tab.only _ (by decide +kernel)) (ixT 0 hq2 rfl ⟨t,.str z.1,"str",fs,dP,kP,rfl,ta2.tab,ta2.p,ta2.pd,.str _ (XG gz),_,rfl,?_⟩);rw[ta2.home ok hz];cases e:hmB T z.1 with
  |false=>have:=h1 ([some (.ref q),some (.ref t),some (.int i)]) _ ⟨_,rfl⟩ sm;rw[e]at this;exact iteF this
  |true=>refine iteT ?_;have:=h1 ([some (.ref q),some (.ref t),some (.int i)]) _ ⟨_,rfl⟩ sm;rw[e,Bool.true_and]at this;exact ixT 1 hq2 rfl ⟨_,rfl,_,_,rfl,rfl,this⟩
  ·intro H2 sm l3 hl3;have S2:Same H1 (upd H2 l3 (.lst (ss.map λz=>V.bl (hmB T z.1&&decide (z.2<=i))))):=sameNew sm hl3;have e3:upd H2 l3 (.lst (ss.map λz=>V.bl (hmB T z.1&&decide (z.2<=i)))) l3=some (.lst ((ss.map λz=>hmB T z.1&&decide (z.2<=i)).map V.bl)):=by rw[Zf,bA];rfl
   refine⟨l3,_,rfl,SqL.of e3,_,rfl,?_⟩;generalize upd H2 l3 (.lst (ss.map λz=>V.bl (hmB T z.1&&decide (z.2<=i))))=H3 at S2 e3 ⊢;have S13:=S1.trans S2;have eo:(ss.map λz=>hmB T z.1&&decide (z.2<=i)).any id=Xe T ss i:=by rw[gu];rfl
   rw[eo];cases e:Xe T ss i with
  |true=>rw[e,if_pos rfl]at k;exact iteT (hr1 _ _ (k _ S13))
  |false=>rw[e,if_neg Bool.false_ne_true]at k;refine iteF (hk1 _ _ ?_);refine⟨_,rfl,_,rfl,_,rfl,t,_,T,gs,ss,rfl,tel1.same S2,ok,good.same S13,λH4 S4=>?_⟩;exact⟨_,_,rfl,rfl,k _ (S13.trans S4)⟩
theorem Q7:FnScope ["table","turn","line","number"] ["table","turn","line","number"] (Zd T.f_is_line):=scO
theorem RP(B:∀x∈Blts,mg x=none)(CT:Can P w K mg base 3 "is_turn" ["table","thing"] (Mu C))(CW:Can P w K mg base 1 "is_whole" ["thing"] K1.NZ)(CL:Can P w K mg base 7 "lets" ["table","turn","line"] (Kb K C))(D:Df K mg "is_line" T.f_is_line ["table","turn","line","number"]):Can P w K mg base 8 "is_line" ["table","turn","line","number"] (JU K C):=by
 refine D.cn Q7 λf cdv A outer s H vs Q E hr h=>?_;obtain⟨t,tv,v,nv,T,T1,T2,rfl,tel,ok,th1,th2,h⟩:=h;refine⟨_,(Ze (Zn (Xk (cn CT hr (Zc (pv 0) (Zc (pv 1) Zk))) (Xk (cn CW hr (Zc (pv 3) Zk)) (YF (Yp Xd (cn CL hr (Zc (pv 0) (Zc (pv 1) (Zc (pv 2) Zk)))) (pv 3) (ZA _))))))),?_⟩;refine⟨_,rfl,_,rfl,t,tv,T,T1,rfl,tel,th1,_,rfl,?_⟩;rcases h with⟨e,k⟩|⟨e,e2,k⟩|⟨i,m,rfl,rfl,i0,i1,h⟩
 ·rw[e];exact iteF k
 ·rw[e];refine iteT ?_;refine⟨_,rfl,nv,T2,rfl,th2,_,rfl,?_⟩;rw[e2];exact iteF k
 ·rw[show K1.Zx (.int i) 0 T.n=true from by show(decide (0<=i)&&decide (i<=T.n))=true;simp[i0,i1]];refine iteT ?_;refine⟨_,rfl,.int m,T2,rfl,th2,_,rfl,?_⟩;refine iteT ?_;refine⟨_,rfl,_,rfl,_,rfl,t,i,v,T,rfl,tel,ok,i0,i1,?_⟩;rcases h with⟨bad,k⟩|⟨gs,ss,good,k⟩
  ·exact .inl ⟨bad,λH' S'=>⟨_,rfl,rfl,k _ S'⟩⟩
  ·refine .inr ⟨gs,ss,good,λH' S'=>⟨_,rfl,Ke _ _,?_⟩⟩;rw[Fd];exact k _ S'
end
end SX
namespace L2
open PySem PySem.Spec PyProof.Rows
section
variable {X:Cx}
def Kn(H0:Hp)(t:TS):TS:=λD σ H=>t {D with nx:=λσ' H'=>∃a o u,H' a=some (.frz o u)/\(∀o' u',H0 a≠some (.frz o' u'))/\D.nx σ' (upd H' a u),rt:=λv H'=>∃a o u,H' a=some (.frz o u)/\(∀o' u',H0 a≠some (.frz o' u'))/\D.rt v (upd H' a u)} σ H
theorem KD{st:Stmt}{t:TS}(h:PS X st t):PS X st (Kn X.H₀ t):=by
 intro pins s σ H D I q;refine dC (h pins s σ H _ I q) (λr s1 hq=>?_) λ_ _ e=>e;cases r with
|next=>obtain⟨σ',H',I',a,o,u,e1,e0,q'⟩:=hq;exact⟨σ',_,I'.thaw e1 e0,q'⟩
|ret x=>obtain⟨v,σ',H',I',r,a,o,u,e1,e0,q'⟩:=hq;exact⟨v,σ',_,I'.thaw e1 e0,r,q'⟩
|_=>exact hq
theorem Uk{H H':Hp}(ht:∀b ys,H b=some (.tup ys)->H' b=some (.tup ys)):∀{k:MK}{y:V},KyM H k y->KyM H' k y
|.inl k,y,x=>x
|.inr ks,y,⟨b,e,hb⟩=>⟨b,e,ht _ _ hb⟩
end
end L2
namespace SX
open PySem L2 PySem.Spec PyProof.Rows TB WD
theorem WO:∀{kvs:List (List Key×V)},(kvs.map (·.1)).Nodup->∀{j:Nat}{kv:List Key×V},kvs[j]?=some kv->valV kvs kv.1=some kv.2
|[],_,j,kv,h=>by cases h
|p::r,nd,0,kv,h=>by cases h;exact Yv rfl
|p::r,nd,j+1,kv,h=>by rw[ar,bB]at nd;have hr:r[j]?=some kv:=h;rw[Yw (λz=>nd.1 (z▸af.mpr ⟨kv,au hr,rfl⟩))];exact WO nd.2 hr
theorem TM{H:Hp}{kvs:List (List Key×V)}{L:List Sx}(h:bo (λ(kv:List Key×V)(S:Sx)=>kv.1=S.key/\Is H kv.2 (JL S)) kvs L):kvs.map (·.1)=L.map (·.key):=by
 induction h with
|nil=>rfl
|cons r _ ih=>rw[ar,ar,r.1,ih]
theorem DR{T:Tb}(o:OkTb T):((allS T).map (·.key)).Nodup:=by
 have:=LY o;generalize allS T=L at this;induction this with
|nil=>simp
|cons h _ ih=>rw[ar,bB];refine⟨λz=>?_,ih⟩;obtain⟨S,hS,e⟩:=af.mp z;exact h S hS e.symm
theorem Hq{H:Hp}{v:V}{S:Sx}(h:Is H v (JL S)):∃a v0 v1 v2 v3,v=.ref a/\H a=some (.tup [v0,v1,v2,v3])/\Is H v0 S.tail/\Is H v1 S.head/\Is H v2 (dF S.room)/\v3=.int S.price:=by
 unfold JL at h;cases h with
|@tup a xs _ e r=>
  cases r with
 |cons h1 r=>
  cases r with
 |cons h2 r=>
  cases r with
 |cons h3 r=>
  cases r with
 |cons h4 r=>
  cases r;cases h4;exact⟨a,_,_,_,_,rfl,e,h1,h2,h3,rfl⟩
theorem DT{T:Tb}(o:OkTb T)(p:Str):(T.t1.any λr=>YV r [.str p,.non])=hmB T p:=by
 unfold hmB;rw[Bool.eq_iff_iff,bC,bC];constructor
 ·rintro ⟨y,hy,e⟩;obtain⟨⟨nm,rm⟩,rfl,_⟩:=Xo o hy;refine⟨_,hy,?_⟩;cases rm with
 |none=>
   have:nm=p:=by simp[YV,plRow,VF,eqV,bR]at e;exact e
   subst this;rw[Bool.and_eq_true];exact⟨decide_eq_true rfl,decide_eq_true rfl⟩
 |some i=>simp[YV,plRow,VF,eqV,bR]at e
 ·rintro ⟨y,hy,e⟩;obtain⟨⟨nm,rm⟩,rfl,_⟩:=Xo o hy;rw[Bool.and_eq_true,decide_eq_true_iff,decide_eq_true_iff]at e;obtain⟨e1,e2⟩:=e;have e1':nm=p:=e1;subst e1';cases rm with
 |none=>exact⟨_,hy,by simp[YV,plRow,VF,eqV,bR]⟩
 |some i=>cases e2
theorem R3{T:Tb}(o:OkTb T){y:List V}(hy:y∈T.t1):y.all Yy=true:=by obtain⟨⟨nm,rm⟩,rfl,_⟩:=Xo o hy;cases rm<;>rfl
theorem PN{T:Tb}(o:OkTb T){S:Sx}(h:S∈allS T):(S.room=.non/\S∈T.t4.flatMap (ZL T))\/(S.room=.int (rmI S)/\S∈Yj T):=by
 rw[<-GV]at h;rcases aw.mp h with h|h
 ·obtain⟨y,_,hy⟩:=bJ.mp h;obtain⟨i,rfl⟩:=Jz hy;exact .inl ⟨rfl,h⟩
 ·exact .inr ⟨SQ o h,h⟩
theorem PY(gs:List Str)(ss:List Spt)(L M:List Sx):sumR gs ss (L++M)=sumR gs ss L+sumR gs ss M:=by unfold sumR;rw[f7,aI,List.sum_append]
theorem WY(gs:List Str)(ss:List Spt)(S:Sx):sumR gs ss [S]=if crs gs ss S=true then rmI S else 0:=by unfold sumR;rw[List.filter_cons];split<;>simp
theorem L8{gs:List Str}{ss:List Spt}{L:List Sx}(h:L.any (crs gs ss)=false):sumR gs ss L=0:=by unfold sumR;rw[dz.mpr λS hS=>by rw[eT]at h;exact h S hS];rfl
theorem LU(T:Tb)(gs:List Str)(ss:List Spt):((T.t4.filter λy=>!inN gs ss (nG (nameOf y))).map ZC).sum=byd T gs:=by
 unfold byd;have:(λy:List V=>!inN gs ss (nG (nameOf y)))=λy=>!decide (nameOf y∈gs):=by funext y;congr 1;unfold inN;rw[Bool.eq_iff_iff,MN,Fj,decide_eq_true_iff]
 rw[this]
theorem DN{T:Tb}(o:OkTb T){gs:List Str}{ss:List Spt}{i:Int}(hh:Xe T ss i=false)(hn:(allS T).any (λS=>crs gs ss S&&decide (S.room=.non))=false):YI T i gs ss=some (byd T gs+sumR gs ss (allS T)):=by
 have ho:(T.t4.flatMap (ZL T)).any (crs gs ss)=false:=by
  rw[eT]at hn ⊢;intro S hS hc;have hm:S∈allS T:=by rw[<-GV];exact bq _ hS
  obtain⟨y,_,hy⟩:=bJ.mp hS;obtain⟨j,rfl⟩:=Jz hy;exact hn _ hm (by rw[hc];rfl)
 unfold YI acr;rw[hh,if_neg Bool.false_ne_true,ho,if_neg Bool.false_ne_true,<-GV,PY,L8 ho];show some (sumR gs ss (Yj T)+byd T gs)=_;congr 1;omega
theorem DO{T:Tb}(o:OkTb T){gs:List Str}{ss:List Spt}{i:Int}{S:Sx}(hS:S∈allS T)(hc:crs gs ss S=true)(hr:S.room=.non):YI T i gs ss=none:=by
 have ho:(T.t4.flatMap (ZL T)).any (crs gs ss)=true:=by
  rcases PN o hS with⟨_,h⟩|⟨e,_⟩
  ·exact bC.mpr ⟨S,h,hc⟩
  ·rw[hr]at e;cases e
 unfold YI acr;rw[ho,if_pos rfl];split<;>rfl
theorem Lb{H:Hp}{gs:List Str}{ys:List V}{ss:List Spt}(ps:bo (SpAt H) ys ss)(i:Nat)(x:V)(hx:(gs.map V.str++ys)[i]?=some x):∃k,(YJ gs ss)[i]?=some k/\∀H',(∀c zs,H c=some (.tup zs)->H' c=some (.tup zs))->KyM H' k x:=by
 unfold YJ;rcases Nat.lt_or_ge i (gs.map V.str).length with hi|hi
 ·rw[a8 hi,aJ]at hx;obtain⟨g,hg',rfl⟩:=bY.mp hx;refine⟨nG g,?_,λ_ _=>rfl⟩;rw[a8 (by rw[lm]at hi ⊢;exact hi),aJ,hg'];rfl
 ·rw[a6 hi]at hx;obtain⟨z,hz,a',rfl,ha'⟩:=Yz ps hx;refine⟨nS z,?_,λH' hh=>⟨a',rfl,hh _ _ ha'⟩⟩;rw[lm]at hi hz;rw[a6 (by rw[lm];exact hi),bw,aJ,hz];rfl
def spLL(P:Program)(w:World):Sp:=λvs H Q _=>∃(pw l1 l2 l3 l4 d:Addr)(i:Int)(v:V)(T:Tb)(gs:List Str)(ss:List Spt),vs=[.ref pw,.ref d,.int i,v]/\WAt H pw T l1 l2 l3 l4/\OkTb T/\Dc H d (allS T)/\Z3 H T v gs ss/\∀H',Same H H'->Q (optV (YI T i gs ss)) H'
section
variable {P:Program}{w:World}{K:aa}{mg:Str->Option Value}{base:Heap}{C:Addr}
theorem ZW:FnScope [q_w,"_law_steps_here","_law_turn","_law_line_here","_law_groups","_law_spots","_law_near_here","_law_total","_law_place","_law_at","_law_key","_law_tail","_law_head","_law_room","_law_price"] [q_w,"_law_steps_here","_law_turn","_law_line_here"] (Zd T.f__law_lets):=scO
noncomputable def VU:Scope:=csx [(".0",.local),("_law_node",.local)]
theorem GO:CompScope VU (Zd T.f__law_lets):=⟨rfl,by decide +kernel,by decide +kernel,by decide +kernel⟩
theorem GQ:(["_law_node"]:List Str).Nodup:=by decide +kernel
theorem GP:CompNames [q_w,"_law_steps_here","_law_turn","_law_line_here","_law_groups","_law_spots","_law_near_here","_law_total","_law_place","_law_at","_law_key","_law_tail","_law_head","_law_room","_law_price"] VU ["_law_node"] [none]:=.mk' (by decide +kernel)
noncomputable def VT:Scope:=csx [(".0",.local),("_law_row",.local),("_law_near_here",.free)]
theorem GK:CompScope VT (Zd T.f__law_lets):=⟨rfl,by decide +kernel,by decide +kernel,by decide +kernel⟩
theorem GN:(["_law_row","_law_near_here"]:List Str).Nodup:=by decide +kernel
theorem GL:CompNames [q_w,"_law_steps_here","_law_turn","_law_line_here","_law_groups","_law_spots","_law_near_here","_law_total","_law_place","_law_at","_law_key","_law_tail","_law_head","_law_room","_law_price"] VT ["_law_row","_law_near_here"] [none,some 6]:=.mk' (by decide +kernel)
theorem WC(B:∀x∈Blts,mg x=none)(hdict:mg "dict"=none)(D:Df K mg "_law_lets" T.f__law_lets [q_w,"_law_steps_here","_law_turn","_law_line_here"]):Can P w K mg base 1 "_law_lets" [q_w,"_law_steps_here","_law_turn","_law_line_here"] (spLL P w):=by
 refine D.cn ZW λf cdv A outer s H vs Q E hr h=>?_;obtain⟨pw,l1,l2,l3,l4,d,i,v,T,gs,ss,rfl,wt,ok,dc,good,k⟩:=h;refine' ⟨_,(@Za _ _ _ _ _ ?h11 (@Za _ _ _ _ _ ?h12 (@Za _ _ _ _ _ ?h13 (@Za _ _ _ _ _ ?h14 (@Za _ _ _ _ _ ?h15 (@Ze _ _ _ ?h16)))))),?rd⟩;case' h16=>refine' (Zn (pv 7))
 case' h15=>refine' (KD (Yn aY rfl (KH (pv 1)) (nmT 10 ZW.nd) (@Za _ _ _ _ _ ?h9 (@Ze _ _ _ ?h10))))
 case' h14=>refine' (Yn aY rfl (ZV (pv 5)) (YE rfl (Zl (nmT 8 ZW.nd) (Zl (nmT 9 ZW.nd) Z0))) (@Ze _ _ _ ?h5))
 case' h13=>refine' (@st _ _ _ _ 7 _ _ ZW.nd (Zy (Js rfl) rfl (bm B) cJ (@pa1 _ _ _ (ZQ rfl GK GL (ZV ?h1) (λC s H ex pn=>(nmT 0 GN)) (λC s H ex pn=>(YN (Zq (XF (P:=P) (w:=w) rfl rfl (YX hr)) (it K (pv 0) Zb) (pv 1) (by with_unfolding_all rfl)))) (λC s H ex pn=>(it K (pv 0) Zb))) (by rfl))) (by rfl) (by exact aK rfl) (by rfl) (by exact .inl rfl))
 case' h12=>refine' (@Yb _ _ 6 _ _ _ _ ZW.nd (by rfl) (by exact b9 rfl) (Yi (RS hr.units rfl) rfl hdict Eb (@pa1 _ _ _ (ZQ rfl GO GP (ZV (Zp Z8 (pv 4) (pv 5))) (λC s H ex pn=>(nmT 0 GQ)) (λC s H ex pn=>Yt) (λC s H ex pn=>(Zw (Zc (pv 0) (Zc YW Zk))))) (by rfl))) (by rfl) (by exact aK rfl))
 case' h11=>refine' (X0 (pv 3) (YE rfl (Zl (nmT 4 ZW.nd) (Zl (nmT 5 ZW.nd) Z0))))
 case' h10=>refine' (@ZF _ _ _ _ _ _ _ _ (PW.pt (JY (Zq (SK (P:=P) (w:=w) rfl rfl (YX hr)) (pv 11) (pv 6) (by with_unfolding_all rfl)) (XR (Zq (XF (P:=P) (w:=w) rfl rfl (YX hr)) (pv 12) (pv 6) (by with_unfolding_all rfl))))) (@Za _ _ _ _ _ ?h7 (@Ze _ _ _ ?h8)) Zr)
 case' h9=>refine' (X0 (Pk (YX hr) (pv 1) (pv 10) (λ_ _=>rfl)) (YE rfl (Zl (nmT 11 ZW.nd) (Zl (nmT 12 ZW.nd) (Zl (nmT 13 ZW.nd) (Zl (nmT 14 ZW.nd) Z0))))))
 case' h8=>refine' (@st _ _ _ _ 7 _ _ ZW.nd (Zp ZG (pv 7) (pv 13)) (by rfl) (by exact aK rfl) (by rfl) (by exact .inl rfl))
 case' h7=>refine' (@ZF _ _ _ _ _ _ _ _ (@Zq _ _ _ _ _ _ _ _ V0 (pv 13) ZK (ZA _)) (@Ze _ _ _ ?h6) Zr)
 case' h6=>refine' (Zn ZK)
 case' h5=>refine' (@ZF _ _ _ _ _ _ _ _ (PW.pt (JY (@Zq _ _ _ _ _ _ _ _ Nz (pv 9) (pv 2) (ZA _)) (XR (Zq (Ri hr.units) ?h2 ?h3 (by with_unfolding_all rfl))))) (@Ze _ _ _ ?h4) Zr)
 case' h4=>refine' (Zn ZK)
 case' h3=>refine' (@it _ _ _ _ _ _ K (pv 0) Zb (by rfl) (by exact λ_ _=>rfl))
 case' h2=>refine' (@Zw _ _ _ _ _ (@pa2 _ _ _ _ _ (pv 8) ZK (by rfl)))
 case' h1=>refine' (@it _ _ _ _ _ _ K (pv 0) Zb (by rfl) (by exact λ_ _=>rfl))
 case' rd=>
 obtain⟨p,a,b,ys,rfl,hp,ha,hb,ps,lk,nd1,nd2,lg,lsp⟩:=good;obtain⟨kvs0,ed,pr⟩:=dc.ord (LY ok);have lys:=aL ps;rw[show L2.start ([q_w,"_law_steps_here","_law_turn","_law_line_here","_law_groups","_law_spots","_law_near_here","_law_total","_law_place","_law_at","_law_key","_law_tail","_law_head","_law_room","_law_price"]:List Str) [V.ref pw,.ref d,.int i,.ref p]=[some (.ref pw),some (.ref d),some (.int i),some (.ref p),none,none,none,none,none,none,none,none,none,none,none]from rfl];refine tq λD0 hk0=>?_;refine⟨_,rfl,p,_,rfl,SqT.of hp,rfl,_,_,rfl,_,_,rfl,rfl,?_⟩;refine hk0 _ _ (tq λD1 hk1=>?_);clear hk0;dsimp only[Zt,az];refine⟨_,rfl,_,rfl,a,b,_,_,rfl,rfl,ha,hb,Zo (by rw[lm];omega),λl6 h6=>?_⟩;have S6:Same H (upd H l6 (.lst (gs.map V.str++ys))):=sameNew (Same.refl _) h6;have e6:upd H l6 (.lst (gs.map V.str++ys)) l6=some (.lst (gs.map V.str++ys)):=Zf;generalize upd H l6 (.lst (gs.map V.str++ys))=H6 at S6 e6 ⊢;have hkl:(gs.map V.str++ys).length=(YJ gs ss).length:=by unfold YJ;rw[ah,ah,lm,lm,lm,lys]
 have tot:(gs.map V.str++ys).length<=800:=by rw[ah,lm];omega
 refine⟨l6,rfl,⟨_,SqL.of e6⟩,?_⟩;refine Xg (J:=Itl K l6) (gs.map V.str++ys).length (Zo (by omega)) (λj zs τ H'=>Same H6 H'/\bo (λv(q:MK×V)=>∃(a:Addr)(y:V),v=.ref a/\H' a=some (.tup [y,q.2])/\KyM H' q.1 y) zs (((YJ gs ss).take j).map λk=>(k,V.bl true))/\∃v,τ=[v]) ⟨Same.refl _,.nil,none,rfl⟩ (λj zs τ H' q=>by rw[aL q.2.1,lm,aG];omega) (λj zs τ H' hj q=>⟨_,(gs.map V.str++ys)[j],SqL.of (q.1 _ _ e6),gE hj⟩) (λzs τ H' q=>⟨_,SqL.of (q.1 _ _ e6),Nat.le_refl _⟩) (λj zs τ H' x H7 hj q yl=>?_) (λzs τ H' q l7 h7=>?_)
 ·obtain⟨s1,pz,v1,rfl⟩:=q;obtain⟨rfl,hy⟩:=yl;have hx:=hy _ (SqL.of (s1 _ _ e6));obtain⟨k',hk',ky⟩:=Lb ps j x hx;refine⟨_,rfl,Zo (by show 2<=1000;decide),λq hq=>?_⟩;have S7:Same H7 (upd H7 q (.tup [x,.bl true])):=sameNew (Same.refl _) hq;refine⟨s1.trans S7,?_,_,rfl⟩;rw[a9,hk',aI];refine dH (Paired.mapP pz λv q'⟨a',y',e1,e2,e3⟩=>⟨a',y',e1,S7 _ _ e2,Uk (λc zs e=>S7 _ _ e) e3⟩) ⟨q,x,rfl,Zf,ky _ λc zs e=>S7 _ _ (s1 _ _ (S6 _ _ e))⟩
 obtain⟨s6,pz,v1,rfl⟩:=q;rw[hkl,aV]at pz;have S7:Same H' (upd H' l7 (.lst zs)):=sameNew (Same.refl _) h7;refine⟨l7,zs,_,rfl,SqL.of Zf,Paired.mapP pz λv q'⟨a',y',e1,e2,e3⟩=>⟨a',y',e1,S7 _ _ e2,Uk (λc zs e=>S7 _ _ e) e3⟩,by rw[aL pz,lm];omega,λdn od hdn dm=>?_⟩;have S8:Same H (upd (upd H' l7 (.lst zs)) dn od):=(S6.trans s6).trans (S7.trans (sameNew (Same.refl _) hdn));have nr:Nr P w (upd (upd H' l7 (.lst zs)) dn od) dn gs ss:=dm.rd;generalize upd (upd H' l7 (.lst zs)) dn od=H8 at S8 nr ⊢;clear pz s6 S7 h7 dm hdn tot e6 S6 h6;refine hk1 _ _ (tq λD2 hk2=>?_);clear hk1;dsimp only[Zt,az];have w8:=wt.same S8;refine ixT 4 w8.at_ rfl ⟨l4,rfl,⟨_,SqL.of w8.r4.choose_spec.1⟩,?_⟩;refine V3 (J:=Itl K l4) T.t4 (Nat.le_trans (YC ok).2.2.2 (by decide)) (λy=>!inN gs ss (nG (nameOf y))) (λy=>V.int (ZC y)) (λτ=>∃v1,τ=[v1,some (.ref dn)]) ⟨none,rfl⟩ (λj H' hj sm=>(w8.r4.same sm).go hj) (λH' sm=>(w8.r4.same sm).stop) (λj y τ u H9 H10 hx st sm yl N1 N2 h1 h2=>?_) ?_
 ·obtain⟨v1,rfl⟩:=st;obtain⟨rfl,a',rfl,ha'⟩:=(w8.r4.same sm).item hx yl;obtain⟨a1,b1,c1,d1,rfl,_⟩:=YY ok (au hx);refine ixT 0 ha' rfl ⟨_,rfl,dn,_,nG a1,rfl,nr.same sm,rfl,_,rfl,?_⟩;rw[JD];exact Xh (λe=>ixT 3 ha' rfl (h1 e _ _ ⟨_,rfl⟩ sm)) (λe=>h2 e _ _ ⟨_,rfl⟩ sm)
 intro H9 sm l9 h9;refine⟨l9,(T.t4.filter λy=>!inN gs ss (nG (nameOf y))).map ZC,rfl,SqL.of (by rw[Zf,bA];rfl),?_⟩;rw[LU];have S10:Same H8 (upd H9 l9 (.lst ((T.t4.filter λy=>!inN gs ss (nG (nameOf y))).map λy=>V.int (ZC y)))):=sameNew sm h9;generalize upd H9 l9 (.lst ((T.t4.filter λy=>!inN gs ss (nG (nameOf y))).map λy=>V.int (ZC y)))=H10 at S10 ⊢;refine hk2 _ _ (tqr λD3 hk3 hr3=>?_);clear hk2 sm h9;dsimp only[Zt,az];have w10:=w8.same S10;have nr10:=nr.same S10;have S010:=S8.trans S10;have hb10:=S010 _ _ hb;have ps10:=Paired.mapP ps λ_ _ q=>q.same S010;clear nr w8 S8 S10;refine⟨_,rfl,b,rfl,⟨_,SqL.of hb10⟩,?_⟩;refine YU (J:=Itl K b) ss.length (λj σ H'=>Same H10 H'/\Xe T (ss.take j) i=false/\∃o:Nat->Option V,σ=[some (.ref pw),some (.ref d),some (.int i),some (.ref p),some (.ref a),some (.ref b),some (.ref dn),some (.int (byd T gs)),o 8,o 9,o 10,o 11,o 12,o 13,o 14]) ?_ (λj σ H' hj q=>⟨_,ys[j]'(by omega),SqL.of (q.1 _ _ hb10),gE _⟩) (λσ H' q=>⟨_,SqL.of (q.1 _ _ hb10),by omega⟩) (λj σ H11 x H12 hj q yl=>?_) (λσ H11 q=>?_)
 ·exact⟨Same.refl _,rfl,shp rfl⟩
 ·obtain⟨s1,hh,o,rfl⟩:=q;obtain⟨rfl,hy⟩:=yl;have hx:=hy _ (SqL.of (s1 _ _ hb10));obtain⟨z,hz,q,rfl,hq⟩:=Yz ps10 hx;have hq':=s1 _ _ hq;try dsimp only[Zt,az]
  refine⟨q,_,rfl,SqT.of hq',rfl,_,_,rfl,_,_,rfl,rfl,?_⟩;try dsimp only[Zt,az]
  have hnext:Xe T (ss.take (j+1)) i=(hmB T z.1&&decide (z.2<=i)):=by
   have:Xe T (ss.take (j+1)) i=(Xe T (ss.take j) i||(hmB T z.1&&decide (z.2<=i))):=by unfold Xe;rw[a9,hz,List.any_append];simp
   rw[this,hh,Bool.false_or]
  refine⟨_,rfl,_,rfl,_,_,rfl,rfl,_,rfl,?_⟩;refine ite2 (λe=>?_) (λe=>?_)
  ·refine⟨_,rfl,Zo (by show 2<=1000;decide),λq2 hq2=>?_⟩;have S2:Same H12 (upd H12 q2 (.tup [.str z.1,.non])):=sameNew (Same.refl _) hq2;have w12:=(w10.same s1).same S2;obtain⟨as,e1,e2,e3⟩:=w12.r1;refine ixT 1 w12.at_ rfl ⟨q2,l1,_,as,T.t1,rfl,rfl,Zf,rfl,e1,e2,λm c r h1 h2=>⟨e3 m c r h1 h2,R3 ok (au h2)⟩,_,rfl,?_⟩;rw[DT ok];refine Xh (λe'=>?_) (λe'=>⟨s1.trans S2,?_,shp rfl⟩)
   ·refine hr3 _ _ ?_;have hl:YI T i gs ss=none:=by unfold YI;rw[if_pos];unfold Xe;exact bC.mpr ⟨z,au hz,by rw[e'];exact e⟩
    have:=k _ (S010.trans (s1.trans S2));rw[hl]at this;exact this
   ·rw[hnext,e'];rfl
  ·refine⟨s1,?_,shp rfl⟩;rw[hnext,decide_eq_false (λz=>e (decide_eq_true z)),Bool.and_false]
 ·obtain⟨s1,hh,o,rfl⟩:=q;rw[aV]at hh;refine hk3 _ _ ?_;clear hk3 hr3;have S011:=S010.trans s1;have ed11:=S011 _ _ ed;have nr11:=nr10.same s1;have lk0:=aL pr;clear nr10 hb10 ps10 w10 s1 S010;have nd:dn≠d:=λe=>by
   obtain⟨xs,r,_⟩:=nr11;rw[e]at r;rcases r with r|⟨o',r⟩
   ·rw[ed11]at r;have:HO.dT kvs0=.ext _:=aB r;cases this
   ·rw[ed11]at r;have:HO.dT kvs0=.frz _ _:=aB r;cases this
  refine tqr λD4 hk4 hr4=>?_;dsimp only[Kn];refine⟨_,rfl,d,kvs0,rfl,ed11,λob=>?_⟩;have ef:upd H11 d (.frz ob (.dT kvs0)) d=some (.frz ob (.dT kvs0)):=Zf;have tf:∀c xs,H11 c=some (.tup xs)->upd H11 d (.frz ob (.dT kvs0)) c=some (.tup xs):=λc xs e=>by rw[Zj (ne_of e ed11 (λz=>nomatch z))];exact e
  have nrf:Nr P w (upd H11 d (.frz ob (.dT kvs0))) dn gs ss:=by obtain⟨xs,r,km,z⟩:=nr11;refine⟨xs,?_,km.keeps tf,z⟩;unfold L2.Rd;rw[Zj nd];exact r
  have back:Same H (upd (upd H11 d (.frz ob (.dT kvs0))) d (.dT kvs0)):=λc u e=>by
   by_cases h:c=d
   ·subst h;rw[ed]at e;cases e;exact Zf
   ·rw[Zj h,Zj h];exact S011 c u e
  have tH:∀c xs,H c=some (.tup xs)->upd H11 d (.frz ob (.dT kvs0)) c=some (.tup xs):=λc xs e=>tf _ _ (S011 _ _ e);have h0:∀o' u',H d≠some (.frz o' u'):=λo' u' e=>by rw[ed]at e;cases e
  generalize upd H11 d (.frz ob (.dT kvs0))=Hf at ef tf nrf back tH ⊢;refine YU (J:=Itk d ob kvs0) kvs0.length (λj σ H'=>H'=Hf/\((allS T).take j).any (λS=>crs gs ss S&&decide (S.room=.non))=false/\∃o:Nat->Option V,σ=[some (.ref pw),some (.ref d),some (.int i),some (.ref p),some (.ref a),some (.ref b),some (.ref dn),some (.int (byd T gs+sumR gs ss ((allS T).take j))),o 8,o 9,o 10,o 11,o 12,o 13,o 14]) ?_ (λj σ H' hj q=>⟨hj,by rw[q.1];exact ef⟩) (λσ H' q=>⟨rfl,by rw[q.1];exact ef⟩) (λj σ H' x H13 hj q yl=>?_) (λσ H' q=>?_)
  ·refine⟨rfl,rfl,?_⟩;rw[show byd T gs+sumR gs ss ((allS T).take 0)=byd T gs from by show byd T gs+0=_;omega];exact shp rfl
  ·obtain⟨rfl,hn,o,rfl⟩:=q;obtain⟨rfl,kb,kv,hkv,hkb,rfl⟩:=yl;have hj':j<(allS T).length:=by omega
   have e0:(allS T)[j]?=some (allS T)[j]:=gE hj';have hmem:(allS T)[j]∈allS T:=aD hj';obtain⟨ek,iv⟩:=XD pr hkv e0;have hany:((allS T).take (j+1)).any (λS=>crs gs ss S&&decide (S.room=.non))=(crs gs ss (allS T)[j]&&decide ((allS T)[j].room=.non)):=by rw[a9,e0,List.any_append,hn];simp
   have hsum:sumR gs ss ((allS T).take (j+1))=sumR gs ss ((allS T).take j)+(if crs gs ss (allS T)[j]=true then rmI (allS T)[j]else 0):=by rw[a9,e0,PY];show _+sumR gs ss [_]=_;rw[WY]
   rw[hany,hsum];generalize (allS T)[j]=S at hmem iv ek;clear hany hsum;obtain⟨js,is⟩:=LX ok hmem;obtain⟨nt,nh⟩:=SN is;obtain⟨ta,v0,v1,v2,v3,ev,hta,i0,i1,i2,e3⟩:=Hq iv;have hvv:=WO (by rw[TM pr];exact DR ok) hkv;have dg:DGet H13 d (.ref kb) (some kv.2):=.inr ⟨kvs0,kv.1,kb,.inr ⟨ob,ef⟩,rfl,hkb,hvv.symm⟩;rw[ev]at dg;have hrm:v2=S.room:=by
    rcases PN ok hmem with⟨e,_⟩|⟨e,_⟩
    ·rw[e]at i2 ⊢;cases i2;rfl
    ·rw[e]at i2 ⊢;cases i2;rfl
   subst hrm;dsimp only[Zt,az];refine⟨_,rfl,_,rfl,d,_,rfl,dg,ta,_,rfl,SqT.of (tH _ _ hta),rfl,_,_,rfl,_,_,rfl,_,_,rfl,_,_,rfl,rfl,?_⟩;try dsimp only[Zt,az]
   refine⟨_,rfl,_,rfl,dn,_,_,rfl,nrf,Uk tH (Md nt i0),_,rfl,?_⟩;rw[JD];have hcr:crs gs ss S=(inN gs ss (J7 S.tail)&&!inN gs ss (J7 S.head)):=rfl;refine Xh (λe1=>?_) (λe1=>?_)
   ·rw[e1,Bool.true_and]at hcr;refine⟨_,rfl,_,rfl,dn,_,_,rfl,nrf,Uk tH (Md nh i1),_,rfl,?_⟩;rw[JD];refine Xh (λe2=>?_) (λe2=>?_)
    ·have hc:crs gs ss S=true:=hcr.trans e2;rw[hc,Bool.true_and,if_pos rfl];refine⟨_,rfl,rfl,_,rfl,?_⟩;rcases PN ok hmem with⟨er,_⟩|⟨er,_⟩
     ·rw[er];refine iteT ⟨d,ob,_,ef,h0,hr4 _ _ ?_⟩;have:=k _ back;rw[DO ok hmem hc er]at this;exact this
     ·rw[er];refine iteF ?_;refine⟨_,rfl,_,rfl,_,_,rfl,rfl,rfl,rfl,?_⟩;rw[show byd T gs+(sumR gs ss ((allS T).take j)+rmI S)=byd T gs+sumR gs ss ((allS T).take j)+rmI S by omega];exact shp rfl
    ·have hc:crs gs ss S=false:=hcr.trans e2;rw[hc,Bool.false_and,if_neg Bool.false_ne_true];refine⟨rfl,rfl,?_⟩;first|rw[Int.add_zero]|rw[show(if(false:Bool)=true then rmI S else 0)=(0:Int)from rfl,Int.add_zero]
     exact shp rfl
   ·rw[e1,Bool.false_and]at hcr;rw[hcr,Bool.false_and,if_neg Bool.false_ne_true];refine⟨rfl,rfl,?_⟩;first|rw[Int.add_zero]|rw[show(if(false:Bool)=true then rmI S else 0)=(0:Int)from rfl,Int.add_zero]
    exact shp rfl
  ·obtain⟨rfl,hn,o,rfl⟩:=q;rw[lk0,aV]at hn ⊢;refine⟨d,ob,_,ef,h0,hk4 _ _ ⟨_,rfl,?_⟩⟩;have:=k _ back;rw[DN ok hh hn]at this;exact this
end
end SX
namespace L2
open PySem PySem.Spec PyProof.Rows
def Rc:R2:=λx y H Q=>∃(a l:Addr)(xs:List V)(as:List Addr)(rows:List (List V)),x=.ref a/\y=.ref l/\H a=some (.tup xs)/\xs.all Yy=true/\H l=some (.lst (as.map V.ref))/\as.length=rows.length /\(∀(i:Nat)c r,as[i]?=some c->rows[i]?=some r->H c=some (.tup r)/\r.all Yy=true)/\Q (.bl (!(rows.any λr=>YV r xs))) H
section
variable {X:Cx}
theorem VG(hu:X.A.units+64<cLine):OpR X (bp .NotIn) Rc:=by
 intro pins s σ H x y v u Q I rx ry h;obtain⟨a,l,xs,as,rows,rfl,rfl,ha,fx,hl,len,hr,q⟩:=h;cases rx;cases ry;obtain⟨its,rv,p,hz⟩:=I.list (SqL.of hl);have eu:=Pf rv;subst eu;obtain⟨ia,ra,pa,za⟩:=I.tuple (SqT.of ha);have key:∀c r,H c=some (.tup r)->r.all Yy=true->SeqAt.EqAt X.A.in1 s (.ref c) (.ref a) (YV r xs):=λc r hc fr=>by
  by_cases e:c=a
  ·subst e;rw[ha]at hc;cases hc;rw[MF fx];exact fY _
  ·obtain⟨ic,rc,pc,zc⟩:=I.tuple (SqT.of hc);have z:=SeqAt.RcAt.tuples (A:=X.A.in1) (s:=s) (e:=λj=>eqV (r.getD j .non) (xs.getD j .non)) pc pa (by show X.A.units+1<cLine;omega) (λj h1 h2=>by
    have h1':j<r.length:=by rw[rc.length];simpa using h1
    have h2':j<xs.length:=by rw[ra.length];simpa using h2
    obtain⟨u1,e1,r1⟩:=rc.get (gE h1');obtain⟨u2,e2,r2⟩:=ra.get (gE h2');have f1:Yy r[j]=true:=ba.mp fr _ (aD h1');have f2:Yy xs[j]=true:=ba.mp fx _ (aD h2');have g1:r.getD j .non=r[j]:=by rw[ax,gE h1'];rfl
    have g2:xs.getD j .non=xs[j]:=by rw[ax,gE h2'];rfl
    have w1:ic.toArray[j]=u1:=by have:ic[j]?=some u1:=e1;rw[aj]at this;simpa using this.2
    have w2:ia.toArray[j]=u2:=by have:ia[j]?=some u2:=e2;rw[aj]at this;simpa using this.2
    rw[g1,g2,w1,w2];exact Rx r1 r2 f1 f2);rw[aq,aq,<-rc.length,<-ra.length]at z;exact SeqAt.EqAt.of_refs e z
 refine SeqAt.notIn_listAt (λu=>YV (rowAt H u) xs) p.isList (λw hw=>?_) ⟨.bl _,H,I,rfl,?_⟩
 ·have hw':w∈as.map Value.ref:=by simpa using hw
  obtain⟨c,hc,rfl⟩:=af.mp hw';obtain⟨i,hi⟩:=aU.mp hc;have hi':i<rows.length:=by rw[<-len];exact(aj.mp hi).1
  obtain⟨h1,h2⟩:=hr i c _ hi (gE hi');have e:rowAt H (.ref c)=rows[i]:=by unfold rowAt;dsimp only;rw[h1]
  rw[e];exact key c _ h1 h2
 ·have:(as.map Value.ref).toArray.any (λu=>YV (rowAt H u) xs)=rows.any λr=>YV r xs:=by rw[<-ME len hr];simp
  rw[this];exact q
end
end L2
namespace SX
open PySem L2 PySem.Spec PyProof.Rows TB WD
noncomputable def sRow(s:Spt):List V:=[.str s.1,.int s.2]
theorem Dg{H:Hp}{ys:List V}{ss:List Spt}(h:bo (SpAt H) ys ss):∃as:List Addr,ys=as.map V.ref/\as.length=(ss.map sRow).length/\∀(i:Nat)c r,as[i]?=some c->(ss.map sRow)[i]?=some r->H c=some (.tup r)/\r.all Yy=true:=by
 induction h with
|nil=>exact⟨[],rfl,rfl,λi c r h=>by cases h⟩
|cons h0 _ ih=>
  obtain⟨a,e,ha⟩:=h0;obtain⟨as,e1,e2,e3⟩:=ih;refine⟨a::as,by rw[e,e1];rfl,by simp[e2],λi c r h1 h2=>?_⟩;rcases i with _|i
  ·cases h1;cases h2;exact⟨ha,rfl⟩
  ·exact e3 i c r (by simpa using h1) (by simpa using h2)
theorem De(ss:List Spt)(p:Str)(k:Int):((ss.map sRow).any λr=>YV r [.str p,.int k])=decide ((p,k)∈ss):=by
 rw[Bool.eq_iff_iff,bC,decide_eq_true_iff];have he:∀s:Spt,YV (sRow s) [.str p,.int k]=true↔s=(p,k):=λs=>by obtain⟨a,b⟩:=s;simp[YV,sRow,eqV,bR]
 constructor
 ·rintro ⟨r,hr,e⟩;obtain⟨s,hs,rfl⟩:=af.mp hr;rw[he]at e;exact e▸hs
 ·exact λh=>⟨_,af.mpr ⟨_,h,rfl⟩,(he _).mpr rfl⟩
theorem Y4{α β:Type}{R:α->β->Prop}{a b:List α}{c d:List β}(h:bo R a c)(h2:bo R b d):bo R (a++b) (c++d):=by
 induction h with
|nil=>exact h2
|cons r _ ih=>exact .cons r ih
theorem Qy{T:Tb}(o:OkTb T){y:List V}(h:y∈T.t4):sA y 1∈T.t1.map nameOf:=by obtain⟨k1,hk⟩:=Mc o;have r:=VY o (j:=4) (.inr (.inr (.inr rfl))) h;have hw:=r.why k1 (λ_=>hk.has);obtain⟨a,b,c,d,rfl⟩:=len4 r.len;obtain⟨h1,h2,i,rfl,i0,i1⟩:=J9 (hw (300-ZC [a,b,c,d]) (λ_=>by omega):Xm k1 T.n _ b c d=.non);obtain⟨x,v,rfl,hv⟩:=Yx h1;show x∈_;refine gI λhn=>?_;rw[hk.no x hn]at hv;cases hv
section
variable {H H':Hp}{b:Addr}{T:Tb}{v:V}{gs:List Str}{ss:List Spt}
theorem Y1{a:Addr}(bx:ZD H b)(ha:H a=some (.lst (gs.map V.str))):a≠b:=λe=>by
 obtain⟨x,y,z,eb⟩:=bx;rw[e,eb]at ha;injection ha with ha;unfold boxV at ha;injection ha with ha;cases gs with
|nil=>cases ha
|cons g gs=>injection ha with h1 _;cases h1
theorem Yk{a:Addr}{ys:List V}(bx:ZD H b)(ha:H a=some (.lst ys))(ps:bo (SpAt H) ys ss):a≠b:=λe=>by
 obtain⟨x,y,z,eb⟩:=bx;rw[e,eb]at ha;injection ha with ha;unfold boxV at ha;injection ha with ha;subst ha;cases ps with
|cons h _=>obtain⟨a',e',_⟩:=h;cases e'
theorem JJ{a:Addr}{ys:List V}(bx:ZD H b)(ha:H a=some (.tup ys)):a≠b:=λe=>by obtain⟨x,y,z,eb⟩:=bx;rw[e,eb]at ha;cases ha
theorem SpAt.sameB(bx:ZD H b)(s:Zg b H H'){x:Spt}(h:SpAt H v x):SpAt H' v x:=by obtain⟨a,e,h⟩:=h;exact⟨a,e,s _ _ h (JJ bx h)⟩
theorem Z3.sameB(bx:ZD H b)(s:Zg b H H')(h:Z3 H T v gs ss):Z3 H' T v gs ss:=by obtain⟨p,a,c,ys,e,h1,h2,h3,h4,r⟩:=h;exact⟨p,a,c,ys,e,s _ _ h1 (JJ bx h1),s _ _ h2 (Y1 bx h2),s _ _ h3 (Yk bx h3 h4),Paired.mapP h4 λ_ _ q=>q.sameB bx s,r⟩
end
structure Bx(H0 H:Hp)(b:Addr):Prop where
 fr:H0 b=none
 sm:Same H0 H
 bx:ZD H b
theorem Bx.to{H0 H H':Hp}{b:Addr}(h:Bx H0 H b)(s:Zg b H H')(bx:ZD H' b):Bx H0 H' b:=⟨h.fr,Ye h.fr h.sm s,bx⟩
def Ej:Sp:=λvs H Q _=>∃(pw l1 l2 l3 l4:Addr)(p:Str)(at_ tu:Int)(T:Tb),vs=[.ref pw,.str p,.int at_,.int tu]/\WAt H pw T l1 l2 l3 l4/\OkTb T/\∀c H',Same H H'->Q (.bl c) H'
def Ka:Sp:=λvs H Q _=>∃(b pw l1 l2 l3 l4:Addr)(T:Tb)(H0:Hp),vs=[.ref b,.ref pw]/\Bx H0 H b/\WAt H0 pw T l1 l2 l3 l4/\OkTb T/\Wd T /\∀H' p a c ys gs ss(i:Int),ZD H' b->Zg b H H'->H' p=some (.tup [.ref a,.ref c,.int i])->H' a=some (.lst (gs.map V.str))->H' c=some (.lst ys)->bo (SpAt H') ys ss->LnOk T gs ss->gs.Nodup->ss.Nodup->gs.length<=8->ss.length<=300->0<=i->i<=T.n->Q (.ref p) H'
theorem WZ{T:Tb}(o:OkTb T){gs:List Str}(h:gs.Sublist (T.t4.map nameOf)):(∀g∈gs,g∈T.t4.map nameOf)/\gs.Nodup/\gs.length<=T.t4.length:=⟨λg hg=>h.subset hg,(NA o (j:=4) (.inr (.inr (.inr rfl)))).sublist h,by have:=h.length_le;rwa [bw]at this⟩
section
variable {P:Program}{w:World}{K:aa}{mg:Str->Option Value}{base:Heap}{C:Addr}
theorem Q4:FnScope [q_w,"_law_place","_law_at","_law_turn"] [q_w,"_law_place","_law_at","_law_turn"] (Zd T.f__law_may):=scO
theorem LK(D:Df K mg "_law_may" T.f__law_may [q_w,"_law_place","_law_at","_law_turn"]):Can P w K mg base 1 "_law_may" [q_w,"_law_place","_law_at","_law_turn"] Ej:=by
 refine D.cn Q4 λf cdv A outer s H vs Q E hr h=>?_;obtain⟨pw,l1,l2,l3,l4,p,at_,tu,T,rfl,wt,ok,k⟩:=h;refine⟨_,(Ze (Zn (HJ (Yp (VG hr.units) (Zw (Zc (pv 1) (Zc ZK Zk))) (it K (pv 0) Zb) (by with_unfolding_all rfl)) (YF (Yp ML (pv 2) (pv 3) (ZA _)))))),?_⟩;refine⟨_,rfl,Zo (by show 2<=1000;decide),λq hq=>?_⟩;have S2:Same H (upd H q (.tup [.str p,.non])):=sameNew (Same.refl _) hq;have w12:=wt.same S2;obtain⟨as,e1,e2,e3⟩:=w12.r1;refine ixT 1 w12.at_ rfl ⟨q,l1,_,as,T.t1,rfl,rfl,Zf,rfl,e1,e2,λm c r h1 h2=>⟨e3 m c r h1 h2,R3 ok (au h2)⟩,_,rfl,?_⟩;refine Xh (λe=>?_) (λe=>?_)
 ·exact k _ _ S2
 ·exact⟨_,rfl,_,rfl,_,_,rfl,rfl,k _ _ S2⟩
theorem ZP:FnScope [q_b,q_w,"_law_groups","_law_turn","_law_spots","_law_place","_law_room","_law_at","_law_name","_law_many"] [q_b,q_w] (Zd T.f__law_line):=scO
noncomputable def VS:Scope:=csx [(".0",.local),("_law_row",.local),("_law_take",.globalImplicit),(q_b,.free)]
theorem GH:CompScope VS (Zd T.f__law_line):=⟨rfl,by decide +kernel,by decide +kernel,by decide +kernel⟩
theorem GJ:(["_law_row",q_b]:List Str).Nodup:=by decide +kernel
theorem GI:CompNames [q_b,q_w,"_law_groups","_law_turn","_law_spots","_law_place","_law_room","_law_at","_law_name","_law_many"] VS ["_law_row",q_b] [none,some 0]:=.mk' (by decide +kernel)
noncomputable def VR:Scope:=csx [(".0",.local),("_law_k",.local),("_law_take",.globalImplicit),("_law_at",.free),(q_b,.free),("_law_place",.free)]
theorem GC:CompScope VR (Zd T.f__law_line):=⟨rfl,by decide +kernel,by decide +kernel,by decide +kernel⟩
theorem GG:(["_law_k","_law_at",q_b,"_law_place"]:List Str).Nodup:=by decide +kernel
theorem GF:CompNames [q_b,q_w,"_law_groups","_law_turn","_law_spots","_law_place","_law_room","_law_at","_law_name","_law_many"] VR ["_law_k","_law_at",q_b,"_law_place"] [none,some 7,some 0,some 5]:=.mk' (by decide +kernel)
noncomputable def VQ:Scope:=csx [(".0",.local),("_law_name",.local),("_law_place",.local),("_law_at",.local),("_law_many",.local),("_law_may",.globalImplicit),("_law_groups",.free),("_law_turn",.free),(q_w,.free)]
theorem GA:CompScope VQ (Zd T.f__law_line):=⟨rfl,by decide +kernel,by decide +kernel,by decide +kernel⟩
theorem YO:(["_law_name","_law_place","_law_at","_law_many","_law_groups","_law_turn",q_w]:List Str).Nodup:=by decide +kernel
theorem GB:CompNames [q_b,q_w,"_law_groups","_law_turn","_law_spots","_law_place","_law_room","_law_at","_law_name","_law_many"] VQ ["_law_name","_law_place","_law_at","_law_many","_law_groups","_law_turn",q_w] [none,none,none,none,some 2,some 3,some 1]:=.mk' (by decide +kernel)
noncomputable def VP:Scope:=csx [(".0",.local),("_law_k",.local),("_law_place",.free),("_law_spots",.free)]
theorem Gw:CompScope VP (Zd T.f__law_line):=⟨rfl,by decide +kernel,by decide +kernel,by decide +kernel⟩
theorem Gz:(["_law_k","_law_place","_law_spots"]:List Str).Nodup:=by decide +kernel
theorem Gy:CompNames [q_b,q_w,"_law_groups","_law_turn","_law_spots","_law_place","_law_room","_law_at","_law_name","_law_many"] VP ["_law_k","_law_place","_law_spots"] [none,some 5,some 4]:=.mk' (by decide +kernel)
theorem WB(B:∀x∈Blts,mg x=none)(CT:Can P w K mg base 1 "_law_take" [q_b,"_law_many"] Y2)(CM:Can P w K mg base 1 "_law_may" [q_w,"_law_place","_law_at","_law_turn"] Ej)(D:Df K mg "_law_line" T.f__law_line [q_b,q_w]):Can P w K mg base 2 "_law_line" [q_b,q_w] Ka:=by
 refine D.cn ZP λf cdv A outer s H vs Q E hr h=>?_;obtain⟨b,pw,l1,l2,l3,l4,T,H0,rfl,bx0,wt,ok,wd,k⟩:=h;refine' ⟨_,(@Za _ _ _ _ _ ?h18 (@Za _ _ _ _ _ ?h19 (@Za _ _ _ _ _ ?h20 (@Za _ _ _ _ _ ?h21 (@Za _ _ _ _ _ ?h22 (@Ze _ _ _ ?h23)))))),?rd⟩;case' h23=>refine' (Zn ?h17)
 case' h22=>refine' (@ZF _ _ _ _ _ _ _ _ (@Zq _ _ _ _ _ _ _ _ ML (cn CT hr (@pa2 _ _ _ _ _ (pv 0) Zb (by rfl))) Zb (ZA _)) (@Za _ _ _ _ _ ?h15 (@Ze _ _ _ ?h16)) Zr)
 case' h21=>refine' (Yn aY rfl (ZV ?h4) (YE rfl (Zl (XU (i:=5) ZP.nd rfl (b9 rfl)) (Zl (nmT 6 ZP.nd) Z0))) (@Za _ _ _ _ _ ?h8 (@Ze _ _ _ ?h9)))
 case' h20=>refine' (@Yb _ _ 4 _ _ _ _ ZP.nd (by rfl) (by exact b9 rfl) ?h3 (by rfl) (by exact aK rfl))
 case' h19=>refine' (@Yb _ _ 3 _ _ _ _ ZP.nd (by rfl) (by exact b9 rfl) (cn CT hr (@pa2 _ _ _ _ _ (pv 0) (Zp ZG ?h2 Zb) (by rfl))) (by rfl) (by exact aK rfl))
 case' h18=>refine' (@Yb _ _ 2 _ _ _ _ ZP.nd (by rfl) (by exact b9 rfl) (ZQ rfl GH GI (ZV ?h1) (λC s H ex pn=>(nmT 0 GJ)) (λC s H ex pn=>(YN (Zq ML (cn CT hr (Zc (pv 1) (Zc Zb Zk))) Zb (ZA _)))) (λC s H ex pn=>(it K (pv 0) Zb))) (by rfl) (by exact aK rfl))
 case' h17=>refine' (@Zw _ _ _ _ _ (@pa3 _ _ _ _ _ _ _ (pv 2) (pv 4) (pv 3) (by rfl)))
 case' h16=>refine' (Yn aY rfl (ZV ?h11) (YE rfl (Zl (nmT 8 ZP.nd) (Zl (XU (i:=5) ZP.nd rfl (b9 rfl)) (Zl (XU (i:=7) ZP.nd rfl (b9 rfl)) (Zl (nmT 9 ZP.nd) Z0))))) (@Ze _ _ _ ?h14))
 case' h15=>refine' (@Yb _ _ 2 _ _ _ _ ZP.nd (by rfl) (by exact b9 rfl) (ZQ rfl GA GB (ZV ?h10) (λC s H ex pn=>(Ue (K:=K) (n:=4) rfl rfl (Zl (nmT 0 YO) (Zl (nmT 1 YO) (Zl (nmT 2 YO) (Zl (nmT 3 YO) Z0)))))) (λC s H ex pn=>(YN (PW.pt (JY (Zq (K0 (K:=K) rfl) (pv 0) (pv 4) (by with_unfolding_all rfl)) (XR (ZZ (cn CM hr (Zc (pv 6) (Zc (pv 1) (Zc (pv 2) (Zc (pv 5) Zk))))))))))) (λC s H ex pn=>(pv 0))) (by rfl) (by exact aK rfl))
 case' h14=>refine' (@ZF _ _ _ _ _ _ _ _ (Zq (K0 (K:=K) rfl) (pv 8) (pv 2) (by with_unfolding_all rfl)) (@Ze _ _ _ ?h13) Zr)
 case' h13=>refine' (@Yb _ _ 4 _ _ _ _ ZP.nd (by rfl) (by exact b9 rfl) (Zp Z8 (pv 4) (ZQ rfl Gw Gy (Xy rfl (bm B) (@pa2 _ _ _ _ _ (pv 7) (Zp ZG ?h12 Zb) (by rfl))) (λC s H ex pn=>(nmT 0 Gz)) (λC s H ex pn=>(YN (Zq (VG hr.units) (Zw (Zc (pv 1) (Zc (pv 0) Zk))) (pv 2) (by with_unfolding_all rfl)))) (λC s H ex pn=>(Zw (Zc (pv 1) (Zc (pv 0) Zk)))))) (by rfl) (by exact aK rfl))
 case' h12=>refine' (@it _ _ _ _ _ _ K (pv 1) Zb (by rfl) (by exact λ_ _=>rfl))
 case' h11=>refine' (@it _ _ _ _ _ _ K (pv 1) Zb (by rfl) (by exact λ_ _=>rfl))
 case' h10=>refine' (@it _ _ _ _ _ _ K (pv 1) Zb (by rfl) (by exact λ_ _=>rfl))
 case' h9=>refine' (@Yb _ _ 4 _ _ _ _ ZP.nd (by rfl) (by exact b9 rfl) (Zp Z8 (pv 4) (ZQ rfl GC GF (Y3 rfl (bm B) (@pa1 _ _ _ (Zp XE (Zp ZG ?h7 Zb) (pv 7)) (by rfl))) (λC s H ex pn=>(nmT 0 GG)) (λC s H ex pn=>(YN (Zq Xd (cn CT hr (Zc (pv 2) (Zc Zb Zk))) Zb (ZA _)))) (λC s H ex pn=>(Zw (Zc (pv 3) (Zc (Zp ZG (pv 1) (pv 0)) Zk)))))) (by rfl) (by exact aK rfl))
 case' h8=>refine' (@Yb _ _ 7 _ _ _ _ ZP.nd (by rfl) (by exact b9 rfl) ?h6 (by rfl) (by exact aK rfl))
 case' h7=>refine' (@it _ _ _ _ _ _ K (pv 1) Zb (by rfl) (by exact λ_ _=>rfl))
 case' h6=>refine' (@il _ _ _ _ _ _ K ?h5 (Yi GU rfl (bm B) PK (@pa1 _ _ _ (@Yp _ _ _ _ _ _ _ _ V0 (pv 6) ZK (ZA _)) (by rfl))) (by rfl) (by exact λ_ _=>rfl))
 case' h5=>refine' (@Zz _ _ _ _ (@pa2 _ _ _ _ _ Zb (Zp ZG (pv 3) Zb) (by rfl)))
 case' h4=>refine' (@it _ _ _ _ _ _ K (pv 1) Zb (by rfl) (by exact λ_ _=>rfl))
 case' h3=>refine' (@Zz _ _ _ _ Zk)
 case' h2=>refine' (@it _ _ _ _ _ _ K (pv 1) Zb (by rfl) (by exact λ_ _=>rfl))
 case' h1=>refine' (@it _ _ _ _ _ _ K (pv 1) Zb (by rfl) (by exact λ_ _=>rfl))
 case' rd=>
 have n0:=ok.n0;have n12:=wd.n12;have hbb:=bx0.bx;have tw:∀{H':Hp},Zg b H H'->WAt H' pw T l1 l2 l3 l4:=λs=>wt.same (Ye bx0.fr bx0.sm s);have l4len:T.t4.length<=sizeLine:=Nat.le_trans (YC ok).2.2.2 (by decide);rw[show L2.start ([q_b,q_w,"_law_groups","_law_turn","_law_spots","_law_place","_law_room","_law_at","_law_name","_law_many"]:List Str) [V.ref b,V.ref pw]=[some (.ref b),some (.ref pw),none,none,none,none,none,none,none,none]from rfl];have w0:=tw (Zg.refl b H);refine tq λD1 hk1=>?_;refine ixT 4 w0.at_ rfl ⟨l4,rfl,⟨_,SqL.of w0.r4.choose_spec.1⟩,?_⟩;refine JG (J:=Itl K l4) T.t4.length l4len (λj zs τ H'=>ZD H' b/\Zg b H H'/\(∃gs:List Str,zs=gs.map V.str/\gs.Sublist ((T.t4.take j).map nameOf))/\∃v,τ=[v,some (.ref b)]) ⟨hbb,Zg.refl b H,⟨[],rfl,.slnil⟩,none,rfl⟩ (λj zs τ H' q=>?_) (λj zs τ H' hj q=>(tw q.2.1).r4.go hj) (λzs τ H' q=>(tw q.2.1).r4.stop) (λj zs τ H' x H2 hj q yl=>?_) (λzs τ H' q lG hG=>?_)
 ·obtain⟨_,_,⟨gs,rfl,sub⟩,_⟩:=q;have:=sub.length_le;rw[lm,aG]at this;rw[lm];omega
 ·obtain⟨bx,sm,⟨gs,rfl,sub⟩,v1,rfl⟩:=q;have e0:T.t4[j]?=some T.t4[j]:=gE hj;obtain⟨rfl,a',rfl,ha'⟩:=(tw sm).r4.item e0 yl;rw[a9,e0,aI];have hm:=aD hj;generalize T.t4[j]=y at ha' hm;obtain⟨a1,b1,c1,d1,rfl,_⟩:=YY ok hm;refine tkC bx (λr H3 r0 r1 B3 S3=>?_);refine⟨_,_,rfl,rfl,_,rfl,?_⟩;refine ite2 (λ_=>?_) (λ_=>?_)
  ·exact ixT 0 (S3 _ _ ha' (JJ bx ha')) rfl ⟨B3,sm.trans S3,⟨gs++[a1],by rw[aI];rfl,sub.append (dS _)⟩,_,rfl⟩
  ·exact⟨B3,sm.trans S3,⟨gs,rfl,sub.trans (dq _ _)⟩,_,rfl⟩
 obtain⟨bx,sm,⟨gs,rfl,sub⟩,v1,rfl⟩:=q;rw[aV]at sub;refine al2 bx hG λH1 B1 S1 eG nG'=>?_;have S01:=sm.trans S1;refine hk1 _ _ (tq λD2 hk2=>?_);clear hk1 sm S1 bx hG;dsimp only[Zt,az];refine⟨_,rfl,ixT 0 ((tw S01).at_) rfl ⟨_,_,rfl,rfl,b,_,rfl,B1,by omega,ZT (by omega) (by omega),λtu H2 t0 t1 B2 S2=>?_⟩⟩;have S02:=S01.trans S2;have eG2:=S2 _ _ eG nG';refine hk2 _ _ (tq λD3 hk3=>?_);clear hk2 eG S01 S2 B1;dsimp only[Zt,az];refine⟨Nat.zero_le _,λlS hS=>?_⟩;dsimp only[Zt,az];refine al B2 hS λH3 B3 S3 eS nS'=>?_;have S03:=S02.trans S3;have eG3:=S3 _ _ eG2 nG';refine hk3 _ _ (tq λD4 hk4=>?_);clear hk3 eG2 S02 S3 B2 hS;refine ixT 1 ((tw S03).at_) rfl ⟨l1,rfl,⟨_,SqL.of (tw S03).r1.choose_spec.1⟩,?_⟩;refine YU (J:=Itl K l1) T.t1.length (λj σ H'=>ZD H' b/\Zg b H H'/\H' lG=some (.lst (gs.map V.str))/\∃c ys ss,H' c=some (.lst ys)/\bo (SpAt H') ys ss/\(∀s∈ss,XZ T s)/\ss.Nodup/\(∀s∈ss,s.1∈(T.t1.take j).map nameOf)/\ss.length<=13*j/\∃o:Nat->Option V,σ=[some (.ref b),some (.ref pw),some (.ref lG),some (.int tu),some (.ref c),o 5,o 6,o 7,o 8,o 9]) ?_ (λj σ H' hj q=>(tw q.2.1).r1.go hj) (λσ H' q=>(tw q.2.1).r1.stop) (λj σ H' x H4 hj q yl=>?_) (λσ H' q=>?_)
 ·exact⟨B3,S03,eG3,lS,[],[],eS,.nil,by simp,cD,by simp,Nat.zero_le _,shp rfl⟩
 ·obtain⟨bx,sm,eg,c,ys,ss,ec,ps,hs,nd,hpl,hln,o,rfl⟩:=q;have e0:T.t1[j]?=some T.t1[j]:=gE hj;obtain⟨rfl,a',rfl,ha'⟩:=(tw sm).r1.item e0 yl;have hm:=aD hj;have hnew:nameOf T.t1[j]∉(T.t1.take j).map nameOf:=λhz=>by
   obtain⟨z,hz1,hz2⟩:=af.mp hz;obtain⟨m,hm'⟩:=aU.mp hz1;have hmj:m<j:=by have:=(aj.mp hm').1;rw[aG]at this;omega
   rw[eV hmj]at hm';obtain⟨hm1,hm2⟩:=aj.mp hm';have:=eQ.mp (NA ok (j:=1) (.inl rfl)) m j (by rw[lm];exact hm1) (by rw[lm];exact hj) hmj;rw[ff,ff]at this;exact this (by show nameOf (T.t1[m])=nameOf T.t1[j];rw[hm2,hz2])
  have etk:(T.t1.take (j+1)).map nameOf=(T.t1.take j).map nameOf++[nameOf T.t1[j]]:=by rw[a9,e0,aI];rfl
  have hin:nameOf T.t1[j]∈T.t1.map nameOf:=af.mpr ⟨_,hm,rfl⟩;rw[etk];clear etk;generalize T.t1[j]=y at ha' hm hnew hin e0;obtain⟨⟨nm,rm⟩,rfl,gnm',_⟩:=Xo ok hm;refine⟨a',_,rfl,SqT.of ha',rfl,_,_,rfl,_,_,rfl,rfl,?_⟩;try dsimp only[Zt,az]
  refine td λD' hdd=>?_;refine tq λD5 hk5=>?_;refine⟨_,rfl,_,_,rfl,rfl,Zo (by show 2<=1000;decide),λl5 h5=>?_⟩;dsimp only;refine al2 bx h5 λH5 B5 S5 e5 n5=>?_;refine⟨_,rfl,rfl,.inr ⟨_,rfl,l5,_,_,_,rfl,rfl,SqL.of e5,Tv,?_⟩⟩;obtain⟨at_,hat⟩:∃at_:Int,at_=(if decide (VF rm=.non)=true then tu+1 else 0):=⟨_,rfl⟩;rw[<-hat];have at0:0<=at_/\at_<=T.n+1:=by rw[hat];split<;>omega
  refine hk5 _ _ ?_;clear hk5;dsimp only[Zt,az];have sm5:=sm.trans S5;have ec5:=S5 _ _ ec (Yk bx ec ps);have ps5:=Paired.mapP ps λ_ _ q=>q.sameB bx S5;have eg5:=S5 _ _ eg nG';refine⟨_,rfl,ixT 0 ((tw sm5).at_) rfl ⟨_,_,rfl,rfl,_,rfl,_,_,rfl,rfl,_,rfl,by omega,by omega,?_⟩⟩;refine JG (J:=Itr 0 (T.n+1-at_).toNat) (T.n+1-at_).toNat (Zo (by omega)) (λm zs τ H'=>ZD H' b/\Zg b H5 H'/\(∃ks:List Nat,bo (SpAt H') zs (ks.map λ(k:Nat)=>((nm,at_+(0+(k:Int))):Spt))/\ks.Sublist (aT m))/\∃v,τ=[v,some (.int at_),some (.ref b),some (.str nm)]) ⟨B5,Zg.refl b H5,⟨[],.nil,.slnil⟩,none,rfl⟩ (λm zs τ H' q=>?_) (λm zs τ H' hm' q=>hm') (λzs τ H' q=>Nat.le_refl _) (λm zs τ H' x H6 hm' q yl=>?_) (λzs τ H6 q lZ hZ=>?_)
  ·obtain⟨_,_,⟨ks,pz,sub'⟩,_⟩:=q;have:=sub'.length_le;rw[a_]at this;rw[aL pz,lm];exact this
  ·obtain⟨bx',sm',⟨ks,pz,sub'⟩,v1,rfl⟩:=q;obtain⟨rfl,rfl⟩:=yl;refine tkC bx' (λr H7 r0 r1 B7 S7=>?_);refine⟨rfl,_,rfl,?_⟩;have pz7:=Paired.mapP pz λ_ _ q=>q.sameB bx' S7;rw[bR];refine ite2 (λ_=>?_) (λ_=>?_)
   ·refine⟨_,rfl,_,rfl,_,rfl,_,_,rfl,rfl,Zo (by show 2<=1000;decide),λq hq=>?_⟩;refine⟨B7.new hq,(sm'.trans S7).new' hq,⟨ks++[m],?_,sub'.append (dS _)⟩,_,rfl⟩;rw[aI];exact dH (Paired.mapP pz7 λ_ _ q'=>q'.same (sameNew (Same.refl _) hq)) ⟨q,rfl,Zf⟩
   ·exact⟨B7,sm'.trans S7,⟨ks,pz7,sub'.trans (dq _ _)⟩,_,rfl⟩
  ·obtain⟨bx',sm',⟨ks,pz,sub'⟩,v1,rfl⟩:=q;refine al2 bx' hZ λH7 B7 S7 eZ nZ=>?_;have S57:=sm'.trans S7;have ec7:=S57 _ _ ec5 (Yk B5 ec5 ps5);have ps7:=Paired.mapP ps5 λ_ _ q=>q.sameB B5 S57;have pz7:=Paired.mapP pz λ_ _ q=>q.sameB bx' S7;have lks:ks.length<=13:=by have:=sub'.length_le;rw[a_]at this;omega
   have ly:=aL ps;have lz:=aL pz;rw[lm]at lz;have hj9:j<9:=by have:=wd.p9;omega
   refine⟨c,lZ,ys,zs,rfl,rfl,ec7,eZ,Zo (by omega),λl8 h8=>?_⟩;refine hdd _ _ ⟨B7.new h8,(sm5.trans S57).new' h8,?_,l8,ys++zs,ss++ks.map (λ(k:Nat)=>((nm,at_+(0+(k:Int))):Spt)),Zf,?_,?_,?_,?_,?_,shp rfl⟩
   ·rw[Zj (Zi (S57 _ _ eg5 nG') h8)];exact S57 _ _ eg5 nG'
   ·exact Paired.mapP (Y4 ps7 pz7) λ_ _ q'=>q'.same (sameNew (Same.refl _) h8)
   ·intro s' hs';rcases aw.mp hs' with hs'|hs'
    ·exact hs s' hs'
    ·obtain⟨k',hk',rfl⟩:=af.mp hs';have:=bj.mp (sub'.subset hk');exact⟨hin,by show 0<=at_+(0+(k':Int));omega,by show at_+(0+(k':Int))<=T.n;omega⟩
   ·rw[cw];refine⟨nd,nodup_map_on (fe.sublist sub') λx _ y _ e=>?_,λu hu u' hu' e=>?_⟩
    ·injection e with _ e;omega
    ·obtain⟨k',hk',rfl⟩:=af.mp hu';subst e;exact hnew (hpl _ hu)
   ·intro s' hs';rcases aw.mp hs' with hs'|hs'
    ·exact bq _ (hpl s' hs')
    ·obtain⟨k',hk',rfl⟩:=af.mp hs';exact aR _ (ay.mpr rfl)
   ·rw[ah,lm];omega
 ·obtain⟨bx,sm,eg,c,ys,ss,ec,ps,hs,nd,_,hln,o,rfl⟩:=q;have hln':ss.length<=117:=by have:=wd.p9;omega
  refine hk4 _ _ (tq λD5 hk5=>?_);clear hk4;have fin:∀(H':Hp)(a c:Addr)(gs':List Str)(ys:List V)(ss:List Spt)(o:Nat->Option V),ZD H' b->Zg b H H'->H' a=some (.lst (gs'.map V.str))->H' c=some (.lst ys)->bo (SpAt H') ys ss->gs'.Sublist (T.t4.map nameOf)->(∀s∈ss,XZ T s)->ss.Nodup->ss.length<=300 ->D5.nx [some (.ref b),some (.ref pw),some (.ref a),some (.int tu),some (.ref c),o 5,o 6,o 7,o 8,o 9] H':=λH' a c gs' ys ss o bx' sm' ea ec ps sb hs nd hl=>by refine hk5 _ _ ⟨_,rfl,_,rfl,_,rfl,Zo (by show 3<=1000;decide),λp hp=>?_⟩;obtain⟨s1,s2,s3⟩:=WZ ok sb;have S':Zg b H' (upd H' p (.tup [.ref a,.ref c,.int tu])):=(Zg.refl b H').new' hp;have g8:=wd.g8;exact k _ p a c ys gs' ss tu (bx'.new hp) (sm'.new' hp) Zf (S' _ _ ea (Y1 bx' ea)) (S' _ _ ec (Yk bx' ec ps)) (Paired.mapP ps λ_ _ q=>q.sameB bx' S') ⟨s1,hs⟩ s2 nd (by omega) hl t0 (by omega)
  refine tkC bx (λr H6 r0 r1 B6 S6=>?_);have sm6:=sm.trans S6;have eg6:=S6 _ _ eg nG';have ec6:=S6 _ _ ec (Yk bx ec ps);have ps6:=Paired.mapP ps λ_ _ q=>q.sameB bx S6;refine⟨_,_,rfl,rfl,_,rfl,?_⟩;refine ite2 (λ_=>?_) (λ_=>fin H6 lG c gs ys ss o B6 sm6 eg6 ec6 ps6 sub hs nd (by omega));refine tq λD6 hk6=>?_;refine ixT 4 ((tw sm6).at_) rfl ⟨l4,rfl,⟨_,SqL.of (tw sm6).r4.choose_spec.1⟩,?_⟩;refine JG (J:=Itl K l4) T.t4.length l4len (λj zs τ H'=>Same H6 H'/\(∃gs:List Str,zs=gs.map V.str/\gs.Sublist ((T.t4.take j).map nameOf))/\∃v1 v2 v3 v4,τ=[v1,v2,v3,v4,some (.ref lG),some (.int tu),some (.ref pw)]) ⟨Same.refl _,⟨[],rfl,.slnil⟩,none,none,none,none,rfl⟩ (λj zs τ H' q=>?_) (λj zs τ H' hj q=>((tw sm6).r4.same q.1).go hj) (λzs τ H' q=>((tw sm6).r4.same q.1).stop) (λj zs τ H' x H7 hj q yl=>?_) (λzs τ H' q lg hg=>?_)
  ·obtain⟨_,⟨gs,rfl,sub⟩,_⟩:=q;have:=sub.length_le;rw[lm,aG]at this;rw[lm];omega
  ·obtain⟨s7,⟨gs2,rfl,sub2⟩,v1,v2,v3,v4,rfl⟩:=q;have e0:T.t4[j]?=some T.t4[j]:=gE hj;obtain⟨rfl,a',rfl,ha'⟩:=((tw sm6).r4.same s7).item e0 yl;rw[a9,e0,aI];have hm:=aD hj;generalize T.t4[j]=y at ha' hm;obtain⟨a1,b1,c1,d1,rfl,_⟩:=YY ok hm;refine⟨a',_,rfl,SqT.of ha',rfl,_,_,rfl,_,_,rfl,_,_,rfl,_,_,rfl,rfl,?_⟩;try dsimp only[Zt,az]
   refine⟨_,rfl,_,rfl,lG,_,rfl,.inl (SqL.of (s7 _ _ eg6)),rfl,by simp[Yy],_,rfl,?_⟩;refine Xh (λ_=>?_) (λ_=>?_)
   ·refine⟨_,rfl,_,rfl,_,rfl,_,rfl,pw,l1,l2,l3,l4,b1,c1,tu,T,rfl,(tw sm6).same s7,ok,λch H8 S8=>⟨ch,rfl,?_⟩⟩;cases ch
    ·exact iteF ⟨s7.trans S8,⟨gs2,rfl,sub2.trans (dq _ _)⟩,_,_,_,_,rfl⟩
    ·exact iteT ⟨_,rfl,s7.trans S8,⟨gs2++[a1],by rw[aI];rfl,sub2.append (dS _)⟩,_,_,_,_,rfl⟩
   ·exact iteF ⟨s7,⟨gs2,rfl,sub2.trans (dq _ _)⟩,_,_,_,_,rfl⟩
  obtain⟨s7,⟨gs2,rfl,sub2⟩,v1,v2,v3,v4,rfl⟩:=q;rw[aV]at sub2;have S7:Same H6 (upd H' lg (.lst (gs2.map V.str))):=sameNew s7 hg;have e7:upd H' lg (.lst (gs2.map V.str)) lg=some (.lst (gs2.map V.str)):=Zf;generalize upd H' lg (.lst (gs2.map V.str))=H7 at S7 e7 ⊢;refine hk6 _ _ ?_;clear hk6 hg s7 eg6;dsimp only[Zt,az];have sm7:=sm6.trans (Zg.of S7 (b:=b));have B7:=B6.same S7;refine ixT 4 ((tw sm7).at_) rfl ⟨l4,rfl,⟨_,SqL.of (tw sm7).r4.choose_spec.1⟩,?_⟩;refine YU (J:=Itl K l4) T.t4.length (λj σ H'=>Same H7 H'/\∃c ys ss,H' c=some (.lst ys)/\bo (SpAt H') ys ss/\(∀s∈ss,XZ T s)/\ss.Nodup/\ss.length<=117+13*j/\∃o:Nat->Option V,σ=[some (.ref b),some (.ref pw),some (.ref lg),some (.int tu),some (.ref c),o 5,o 6,o 7,o 8,o 9]) ?_ (λj σ H' hj q=>((tw sm7).r4.same q.1).go hj) (λσ H' q=>((tw sm7).r4.same q.1).stop) (λj σ H' x H8 hj q yl=>?_) (λσ H' q=>?_)
  ·exact⟨Same.refl _,c,ys,ss,S7 _ _ ec6,Paired.mapP ps6 λ_ _ q=>q.same S7,hs,nd,by omega,shp rfl⟩
  ·obtain⟨s8,c,ys,ss,ec,ps,hs,nd,hln,o,rfl⟩:=q;have e0:T.t4[j]?=some T.t4[j]:=gE hj;obtain⟨rfl,a',rfl,ha'⟩:=((tw sm7).r4.same s8).item e0 yl;have hm:=aD hj;generalize T.t4[j]=y at ha' hm;have hpl:sA y 1∈T.t1.map nameOf:=Qy ok hm;obtain⟨a1,b1,c1,d1,rfl,_,_,c0,c2,_⟩:=YY ok hm;replace hpl:b1∈T.t1.map nameOf:=hpl;have hj8:j<8:=by have:=wd.g8;omega
   refine⟨a',_,rfl,SqT.of ha',rfl,_,_,rfl,_,_,rfl,_,_,rfl,_,_,rfl,rfl,?_⟩;try dsimp only[Zt,az]
   refine td λD' hdd=>?_;refine⟨_,rfl,_,rfl,lg,_,rfl,.inl (SqL.of (s8 _ _ e7)),rfl,by simp[Yy],_,rfl,?_⟩;refine Xh (λ_=>?_) (λ_=>hdd _ _ ⟨s8,c,ys,ss,ec,ps,hs,nd,by omega,shp rfl⟩);have w8:=(tw sm7).same s8;refine⟨_,rfl,_,rfl,ixT 0 w8.at_ rfl ⟨_,_,rfl,rfl,c1,T.n+1,rfl,⟨by omega,by omega,by omega,by omega⟩,?_⟩⟩;refine JG (J:=Itr c1 (T.n+1-c1).toNat) (T.n+1-c1).toNat (Zo (by omega)) (λm zs τ H'=>Same H8 H'/\bo (SpAt H') zs (((aT m).filter λ(k:Nat)=>!decide (((b1,c1+(k:Int)):Spt)∈ss)).map λ(k:Nat)=>((b1,c1+(k:Int)):Spt))/\∃v,τ=[v,some (.str b1),some (.ref c)]) ⟨Same.refl _,.nil,none,rfl⟩ (λm zs τ H' q=>?_) (λm zs τ H' hm' q=>hm') (λzs τ H' q=>Nat.le_refl _) (λm zs τ H' x H9 hm' q yl=>?_) (λzs τ H9 q lZ hZ=>?_)
   ·rw[aL q.2.1,lm];exact Nat.le_trans (bg _ _) (by rw[a_];exact Nat.le_refl _)
   ·obtain⟨s9,pz,v1,rfl⟩:=q;obtain⟨rfl,rfl⟩:=yl;refine⟨_,rfl,_,rfl,Zo (by show 2<=1000;decide),λq hq=>?_⟩;have S9:Same H9 (upd H9 q (.tup [.str b1,.int (c1+m)])):=sameNew (Same.refl _) hq;have s10:=s9.trans S9;obtain⟨as,ey,elen,erow⟩:=Dg (Paired.mapP ps λ_ _ q=>q.same s10);refine⟨_,rfl,q,c,_,as,ss.map sRow,rfl,rfl,Zf,rfl,by rw[<-ey];exact s10 _ _ ec,elen,erow,_,rfl,?_⟩;rw[De];have pz9:=Paired.mapP pz λ_ _ q'=>q'.same S9;rw[bR,f7];refine Xh (λe=>?_) (λe=>?_)
    ·refine⟨_,rfl,_,rfl,Zo (by show 2<=1000;decide),λq2 hq2=>?_⟩;have S10:Same (upd H9 q (.tup [.str b1,.int (c1+m)])) (upd (upd H9 q (.tup [.str b1,.int (c1+m)])) q2 (.tup [.str b1,.int (c1+m)])):=sameNew (Same.refl _) hq2;refine⟨s10.trans S10,?_,_,rfl⟩;rw[cL (p:=λ(k:Nat)=>!decide (((b1,c1+(k:Int)):Spt)∈ss)) e,List.filter_nil,aI];exact dH (Paired.mapP pz9 λ_ _ q'=>q'.same S10) ⟨q2,rfl,Zf⟩
    ·refine⟨s10,?_,_,rfl⟩;rw[cM (p:=λ(k:Nat)=>!decide (((b1,c1+(k:Int)):Spt)∈ss)) (by show ¬_=true;rw[e];exact Bool.false_ne_true),List.filter_nil,br];exact pz9
   ·obtain⟨s9,pz,v1,rfl⟩:=q;have S9:Same H8 (upd H9 lZ (.lst zs)):=sameNew s9 hZ;have eZ:upd H9 lZ (.lst zs) lZ=some (.lst zs):=Zf;have pz9:=Paired.mapP pz λ_ _ q'=>q'.same (sameNew (o:=.lst zs) (Same.refl H9) hZ);generalize upd H9 lZ (.lst zs)=H10 at S9 eZ pz9 ⊢;have lz:=aL pz;rw[lm]at lz;have lf:((aT (T.n+1-c1).toNat).filter λ(k:Nat)=>!decide (((b1,c1+(k:Int)):Spt)∈ss)).length<=13:=Nat.le_trans (bg _ _) (by rw[a_];omega);have ly:=aL ps;refine⟨c,lZ,ys,zs,rfl,rfl,S9 _ _ ec,eZ,Zo (by omega),λl11 h11=>?_⟩;have S11:Same H10 (upd H10 l11 (.lst (ys++zs))):=sameNew (Same.refl _) h11;refine hdd _ _ ⟨s8.trans (S9.trans S11),l11,ys++zs,_,Zf,Paired.mapP (Y4 (Paired.mapP ps λ_ _ q=>q.same S9) pz9) λ_ _ q'=>q'.same S11,λs' hs'=>?_,?_,?_,shp rfl⟩
    ·rcases aw.mp hs' with hs'|hs'
     ·exact hs s' hs'
     ·obtain⟨k',hk',rfl⟩:=af.mp hs';have:=bj.mp (a7.mp hk').1;exact⟨hpl,by show 0<=c1+(k':Int);omega,by show c1+(k':Int)<=T.n;omega⟩
    ·rw[cw];refine⟨nd,nodup_map_on (fe.sublist dX) λx _ y _ e=>?_,λu hu u' hu' e=>?_⟩
     ·injection e with _ e;omega
     ·obtain⟨k',hk',rfl⟩:=af.mp hu';subst e;have:=(a7.mp hk').2;rw[decide_eq_true hu]at this;cases this
    ·rw[ah,lm];omega
  ·obtain⟨s8,c,ys,ss,ec,ps,hs,nd,hln,o,rfl⟩:=q;have g8:=wd.g8;exact fin H' lg c gs2 ys ss o (B7.same s8) (sm7.trans (Zg.of s8)) (s8 _ _ e7) ec ps sub2 hs nd (by omega)
theorem Fi{d e:PyData}(n:NL d)(m:NL e):PyData.eqv d e=decide (J7 d=J7 e):=by rcases n with⟨a,rfl⟩|⟨a,i,rfl⟩<;>rcases m with⟨b,rfl⟩|⟨b,j,rfl⟩<;>simp[PyData.eqv,PyData.eqvAll,J7,Bool.beq_eq_decide_eq]
theorem Dd{z:Str}(h:GS z):(PyData.str z).canLay0=true:=(Atm.str h).lay
theorem Me{z:Str}{i:Int}(h:GS z):gj (.tuple [.str z,.int i])=true:=by
 unfold gj;have e:(PyData.tuple [.str z,.int i]).canLay0=true:=Tc (ds:=[.str z,.int i]) λd hd=>by
  simp only[ao,aF,or_false]at hd;rcases hd with rfl|rfl
  ·exact Dd h
  ·rfl
 rw[e];rfl
noncomputable def sD(s:Spt):PyData:=.tuple [.str s.1,.int s.2]
theorem Mq{H:Hp}{v:V}{s:Spt}(h:SpAt H v s):Is H v (sD s):=by obtain⟨a,rfl,ha⟩:=h;exact .tup ha (.cons (.str _) (.cons (.int _) .nil))
theorem W4(s z:Spt):PyData.eqv (sD s) (sD z)=decide (s=z):=by rw[Fi (d:=sD s) (e:=sD z) (.inr ⟨_,_,rfl⟩) (.inr ⟨_,_,rfl⟩)];refine decide_eq_decide.mpr ⟨λe=>?_,λe=>by rw[e]⟩;exact Ld e
theorem UO{T:Tb}(o:OkTb T){s:Spt}(h:XZ T s):GS s.1:=by obtain⟨y,hy,e⟩:=af.mp h.1;rw[<-e];exact(YD o (j:=1) (.inl rfl) hy).2
theorem PU{α β:Type}{R:α->β->Prop}(p:β->Bool){ys:List α}{ss:List β}(h:bo R ys ss):bo R (((ys.zip ss).filter λq=>p q.2).map (·.1)) (ss.filter p):=by
 induction h with
|nil=>exact .nil
|@cons y s ys ss r _ ih=>
  rw[fZ];cases e:p s
  ·rw[cM (by simp[e]),cM (by simp[e])];exact ih
  ·rw[cL (by simp[e]),cL (by simp[e]),ar];exact .cons r ih
theorem GZ{α β:Type}{R:α->β->Prop}{a:List α}{c:List β}(h:bo R a c):∀n,bo R (a.take n) (c.take n):=by
 induction h with
|nil=>intro n;rw[List.take_nil,List.take_nil];exact .nil
|cons r _ ih=>
  intro n;cases n with
 |zero=>exact .nil
 |succ n=>exact .cons r (ih n)
theorem J5{α β:Type}{R:α->β->Prop}{a:List α}{c:List β}(h:bo R a c):∀n,bo R (a.drop n) (c.drop n):=by
 induction h with
|nil=>intro n;rw[List.drop_nil,List.drop_nil];exact .nil
|cons r t ih=>
  intro n;cases n with
 |zero=>exact .cons r t
 |succ n=>exact ih n
theorem DU{α:Type}(l:List α)(n:Nat):(l.take n++l.drop (n+1)).Sublist l:=by
 have h1:(l.drop (n+1)).Sublist (l.drop n):=by rw[<-List.drop_drop];exact List.drop_sublist _ _
 have:=(dS (l.take n)).append h1;rwa [cg]at this
def spNL:Sp:=λvs H Q _=>∃(b pw l1 l2 l3 l4:Addr)(v:V)(i:Int)(T:Tb)(H0:Hp)(gs:List Str)(ss:List Spt),vs=[.ref b,v,.ref pw,.int i]/\Bx H0 H b/\WAt H0 pw T l1 l2 l3 l4/\OkTb T/\Wd T/\Z3 H T v gs ss/\gs.length<=8/\ss.length<=310/\0<=i/\i<=T.n /\∀H' v' gs' ss',ZD H' b->Zg b H H'->Z3 H' T v' gs' ss'->gs'.length<=8->ss'.length<=ss.length+1->Q v' H'
theorem YL:FnScope [q_b,"_law_line_here",q_w,"_law_turn","_law_groups","_law_spots","_law_homes","_law_way_here","_law_spot","_law_at"] [q_b,"_law_line_here",q_w,"_law_turn"] (Zd T.f__law_near):=scO
noncomputable def X5:Scope:=csx [(".0",.local),("_law_place",.local),("_law_room",.local)]
theorem Gu:CompScope X5 (Zd T.f__law_near):=⟨rfl,by decide +kernel,by decide +kernel,by decide +kernel⟩
theorem Jr:(["_law_place","_law_room"]:List Str).Nodup:=by decide +kernel
theorem Gv:CompNames [q_b,"_law_line_here",q_w,"_law_turn","_law_groups","_law_spots","_law_homes","_law_way_here","_law_spot","_law_at"] X5 ["_law_place","_law_room"] [none,none]:=.mk' (by decide +kernel)
noncomputable def VO:Scope:=csx [(".0",.local),("_law_one",.local),("_law_spot",.free)]
theorem Gp:CompScope VO (Zd T.f__law_near):=⟨rfl,by decide +kernel,by decide +kernel,by decide +kernel⟩
theorem Gs:(["_law_one","_law_spot"]:List Str).Nodup:=by decide +kernel
theorem Gq:CompNames [q_b,"_law_line_here",q_w,"_law_turn","_law_groups","_law_spots","_law_homes","_law_way_here","_law_spot","_law_at"] VO ["_law_one","_law_spot"] [none,some 8]:=.mk' (by decide +kernel)
noncomputable def VN:Scope:=csx [(".0",.local),("_law_row",.local),("_law_groups",.free)]
theorem Gk:CompScope VN (Zd T.f__law_near):=⟨rfl,by decide +kernel,by decide +kernel,by decide +kernel⟩
theorem Gn:(["_law_row","_law_groups"]:List Str).Nodup:=by decide +kernel
theorem Gm:CompNames [q_b,"_law_line_here",q_w,"_law_turn","_law_groups","_law_spots","_law_homes","_law_way_here","_law_spot","_law_at"] VN ["_law_row","_law_groups"] [none,some 4]:=.mk' (by decide +kernel)
theorem Wz(B:∀x∈Blts,mg x=none)(CT:Can P w K mg base 1 "_law_take" [q_b,"_law_many"] Y2)(D:Df K mg "_law_near" T.f__law_near [q_b,"_law_line_here",q_w,"_law_turn"]):Can P w K mg base 2 "_law_near" [q_b,"_law_line_here",q_w,"_law_turn"] spNL:=by
 refine D.cn YL λf cdv A outer s H vs Q E hr h=>?_;obtain⟨b,pw,l1,l2,l3,l4,v,i,T,H0,gs,ss,rfl,bx0,wt,ok,wd,good,lg8,ls,i0,i1,k⟩:=h;refine' ⟨_,(@Za _ _ _ _ _ ?h15 (@Za _ _ _ _ _ ?h16 (@Za _ _ _ _ _ ?h17 (@Za _ _ _ _ _ ?h18 (@Za _ _ _ _ _ ?h19 (@Ze _ _ _ ?h20)))))),?rd⟩;case' h20=>refine' (Zn ?h14)
 case' h19=>refine' (@ZF _ _ _ _ _ _ _ _ (PW.pt (JY (@Zq _ _ _ _ _ _ _ _ Xd (pv 7) Zb (ZA _)) (XR (@Zq _ _ _ _ _ _ _ _ (J6 hr.units) (pv 5) ?h9 (ZA _))))) (@Za _ _ _ _ _ ?h11 (@Ze _ _ _ ?h12)) Zr)
 case' h18=>refine' (@ZF _ _ _ _ _ _ _ _ (PW.pt (JY (@Zq _ _ _ _ _ _ _ _ Xd (pv 7) Zb (ZA _)) (XR (@Zq _ _ _ _ _ _ _ _ (J6 hr.units) (pv 6) ?h2 (ZA _))))) (@Za _ _ _ _ _ ?h7 (@Ze _ _ _ ?h8)) Zr)
 case' h17=>refine' (@st _ _ _ _ 7 _ _ YL.nd (cn CT hr (@pa2 _ _ _ _ _ (pv 0) Zb (by rfl))) (by rfl) (by exact aK rfl) (by rfl) (by exact .inl rfl))
 case' h16=>refine' (Pg (i:=6) YL.nd rfl (aK rfl) (scope:=X5) (N:=["_law_place","_law_room"]) (cp:=[none,none]) rfl Gu Gv (ZV ?h1) (λC s H ex pn=>(Ue (K:=K) (n:=2) rfl rfl (Zl (nmT 0 Jr) (Zl (nmT 1 Jr) Z0)))) (λC s H ex pn=>(YN (Zq V0 (pv 1) ZK (ZA _)))) (λC s H ex pn=>(pv 0)))
 case' h15=>refine' (X0 (pv 1) (YE rfl (Zl (XU (i:=4) YL.nd rfl (b9 rfl)) (Zl (nmT 5 YL.nd) Z0))))
 case' h14=>refine' (@Zw _ _ _ _ _ (@pa2 _ _ _ _ _ (ZQ rfl Gk Gm (ZV ?h13) (λC s H ex pn=>(nmT 0 Gn)) (λC s H ex pn=>(YN (Zq (Ny (K:=K) rfl) (it K (pv 0) Zb) (pv 1) (by with_unfolding_all rfl)))) (λC s H ex pn=>(it K (pv 0) Zb))) (pv 5) (by rfl)))
 case' h13=>refine' (@it _ _ _ _ _ _ K (pv 2) Zb (by rfl) (by exact λ_ _=>rfl))
 case' h12=>refine' (Zn ?h10)
 case' h11=>refine' (@st _ _ _ _ 9 _ _ YL.nd (cn CT hr (@pa2 _ _ _ _ _ (pv 0) (Zy (r:=rLen K) ZU rfl (bm B) aZ (@pa1 _ _ _ (pv 5) (by rfl))) (by rfl))) (by rfl) (by exact aK rfl) (by rfl) (by exact .inl rfl))
 case' h10=>refine' (@Zw _ _ _ _ _ (@pa2 _ _ _ _ _ (pv 4) (Zp Z8 (YB (r:=rSlL K) Xw (pv 5) Y0 (YZ (pv 9))) (YB (r:=rSlL K) Xw (pv 5) (YZ (Zp ZG (pv 9) Zb)) Y0)) (by rfl)))
 case' h9=>refine' (@Zz _ _ _ _ Zk)
 case' h8=>refine' (Zn ?h6)
 case' h7=>refine' (@Yb _ _ 8 _ _ _ _ YL.nd (by rfl) (by exact b9 rfl) ?h4 (by rfl) (by exact aK rfl))
 case' h6=>refine' (@Zw _ _ _ _ _ (@pa2 _ _ _ _ _ (pv 4) (Zp Z8 (ZQ rfl Gp Gq (ZV (pv 5)) (λC s H ex pn=>(nmT 0 Gs)) (λC s H ex pn=>(YN (Zq (KY hr.units) (pv 0) (pv 1) (ZA _)))) (λC s H ex pn=>(pv 0))) ?h5) (by rfl)))
 case' h5=>refine' (@Zz _ _ _ _ (@pa1 _ _ _ (pv 8) (by rfl)))
 case' h4=>refine' (@Zw _ _ _ _ _ (@pa2 _ _ _ _ _ ?h3 (cn CT hr (@pa2 _ _ _ _ _ (pv 0) (Zp ZG (pv 3) Zb) (by rfl))) (by rfl)))
 case' h3=>refine' (@il _ _ _ _ _ _ K (pv 6) (cn CT hr (@pa2 _ _ _ _ _ (pv 0) (Zy (r:=rLen K) ZU rfl (bm B) aZ (@pa1 _ _ _ (pv 6) (by rfl))) (by rfl))) (by rfl) (by exact λ_ _=>rfl))
 case' h2=>refine' (@Zz _ _ _ _ Zk)
 case' h1=>refine' (@it _ _ _ _ _ _ K (pv 2) Zb (by rfl) (by exact λ_ _=>rfl))
 case' rd=>
 have n0:=ok.n0;have n12:=wd.n12;have hbb:=bx0.bx;have tw:∀{H':Hp},Zg b H H'->WAt H' pw T l1 l2 l3 l4:=λs=>wt.same (Ye bx0.fr bx0.sm s);obtain⟨p,a,c,ys,rfl,hp,ha,hc,ps,lk,nd1,nd2,lg,lsp⟩:=good;have ly:=aL ps;rw[show L2.start ([q_b,"_law_line_here",q_w,"_law_turn","_law_groups","_law_spots","_law_homes","_law_way_here","_law_spot","_law_at"]:List Str) [V.ref b,V.ref p,V.ref pw,V.int i]=[some (.ref b),some (.ref p),some (.ref pw),some (.int i),none,none,none,none,none,none]from rfl];refine tq λD0 hk0=>?_;refine⟨_,rfl,p,_,rfl,SqT.of hp,rfl,_,_,rfl,_,_,rfl,rfl,?_⟩;refine hk0 _ _ (tq λD1 hk1=>?_);clear hk0;dsimp only[Zt,az];have w0:=tw (Zg.refl b H);refine ixT 1 w0.at_ rfl ⟨l1,rfl,⟨_,SqL.of w0.r1.choose_spec.1⟩,?_⟩;refine Xz (J:=Itl K l1) T.t1 (Nat.le_trans (YC ok).1 (by decide)) (λy=>decide (at_ y 1=.non)) (λy=>V.str (nameOf y)) (λτ=>∃v1 v2,τ=[v1,v2]) ⟨none,none,rfl⟩ (λj hj=>w0.r1.go hj) w0.r1.stop (λj y τ u H' hx st yl N1 N2 h1 h2=>?_) λlH hlH=>?_
 ·obtain⟨v1,v2,rfl⟩:=st;obtain⟨rfl,a',rfl,ha'⟩:=w0.r1.item hx yl;obtain⟨⟨nm,rm⟩,rfl,_⟩:=Xo ok (au hx);refine⟨a',_,rfl,SqT.of ha',rfl,_,_,rfl,_,_,rfl,rfl,_,rfl,rfl,_,rfl,?_⟩;exact Xh (λe=>⟨_,rfl,h1 e _ ⟨_,_,rfl⟩⟩) (λe=>h2 e _ ⟨_,_,rfl⟩)
 obtain⟨hs,ehs⟩:∃hs,hs=(T.t1.filter λy=>decide (at_ y 1=.non)).map nameOf:=⟨_,rfl⟩;rw[show(T.t1.filter λy=>decide (at_ y 1=.non)).map (λy=>V.str (nameOf y))=hs.map V.str from by rw[ehs,bA];rfl];have hsm:∀t∈hs,t∈T.t1.map nameOf:=λt ht=>by rw[ehs]at ht;obtain⟨y,hy,rfl⟩:=af.mp ht;exact af.mpr ⟨y,(a7.mp hy).1,rfl⟩
 have hsl:hs.length<=14:=by rw[ehs,lm];exact Nat.le_trans (bg _ _) (YC ok).1
 clear ehs;dsimp only[Zt,az];refine al hbb hlH λH1 B1 S1 eH nH=>?_;refine hk1 _ _ (tq λD2 hk2=>?_);clear hk1 hlH;refine tkC B1 (λway H2 w0' w1' B2 S2=>?_);have S02:=S1.trans S2;have eH2:=S2 _ _ eH nH;refine hk2 _ _ ?_;clear hk2 eH S1 S2 B1;dsimp only[Zt,az];have hp2:=S02 _ _ hp (JJ hbb hp);have ha2:=S02 _ _ ha (Y1 hbb ha);have hc2:=S02 _ _ hc (Yk hbb hc ps);have ps2:=Paired.mapP ps λ_ _ q=>q.sameB hbb S02;have third:∀(H':Hp)(σ:L2.St),ZD H' b->Zg b H2 H'->σ=[some (.ref b),some (.ref p),some (.ref pw),some (.int i),some (.ref a),some (.ref c),some (.ref lH),some (.int way),none,none] ->tRet (tTup (Yl (R1 [none,some 4] (Ey K (tOp (rIxT K) (tVar 2) (tC (V.int 4)))) (Zt 0) (PX (tOp (rIn K true) (tOp (rIxT K) (tVar 0) (tC (V.int 0))) (tVar 1))) (tOp (rIxT K) (tVar 0) (tC (V.int 0)))) (Yl (tVar 5) tNil))) {nx:=λx H'=>Q V.non H',rt:=Q} σ H':=λH3 σ B3 S3 eσ=>by
  subst eσ;have S03:=S02.trans S3;have w3:=tw S03;have ha3:=S3 _ _ ha2 (Y1 B2 ha2);have hc3:=S3 _ _ hc2 (Yk B2 hc2 ps2);have ps3:=Paired.mapP ps2 λ_ _ q=>q.sameB B2 S3;refine ixT 4 w3.at_ rfl ⟨l4,rfl,⟨_,SqL.of w3.r4.choose_spec.1⟩,?_⟩;refine Xz (J:=Itl K l4) T.t4 (Nat.le_trans (YC ok).2.2.2 (by decide)) (λy=>!inV (.str (nameOf y)) (gs.map V.str)) (λy=>V.str (nameOf y)) (λτ=>∃v1,τ=[v1,some (.ref a)]) ⟨none,rfl⟩ (λj hj=>w3.r4.go hj) w3.r4.stop (λj y τ u H' hx st yl N1 N2 h1 h2=>?_) λlN hN=>?_
  ·obtain⟨v1,rfl⟩:=st;obtain⟨rfl,a',rfl,ha'⟩:=w3.r4.item hx yl;obtain⟨a1,b1,c1,d1,rfl,_⟩:=YY ok (au hx);refine ixT 0 ha' rfl ⟨_,rfl,a,_,rfl,.inl (SqL.of ha3),rfl,by simp[Yy],_,rfl,?_⟩;exact Xh (λe=>ixT 0 ha' rfl (h1 e _ ⟨_,rfl⟩)) (λe=>h2 e _ ⟨_,rfl⟩)
  obtain⟨gs',egs⟩:∃gs',gs'=(T.t4.filter λy=>!inV (.str (nameOf y)) (gs.map V.str)).map nameOf:=⟨_,rfl⟩;rw[show(T.t4.filter λy=>!inV (.str (nameOf y)) (gs.map V.str)).map (λy=>V.str (nameOf y))=gs'.map V.str from by rw[egs,bA];rfl];have sb:gs'.Sublist (T.t4.map nameOf):=by rw[egs];exact dX.map nameOf
  obtain⟨s1,s2,s3⟩:=WZ ok sb;have g8:=wd.g8;refine al2 B3 hN λH4 B4 S4 eN nN=>?_;refine⟨_,rfl,Zo (by show 2<=1000;decide),λq hq=>?_⟩;have S5:Zg b H4 (upd H4 q (.tup [.ref lN,.ref c])):=(Zg.refl b H4).new' hq;have S35:=S4.trans S5;exact k _ _ gs' ss (B4.new hq) (S03.trans S35) ⟨q,lN,c,ys,rfl,Zf,S5 _ _ eN nN,S35 _ _ hc3 (Yk B3 hc3 ps3),Paired.mapP ps3 λ_ _ q'=>q'.sameB B3 S35,⟨s1,lk.s⟩,s2,nd2,by omega,lsp⟩ (by omega) (by omega)
 have second:∀(H':Hp)(σ:L2.St),ZD H' b->Zg b H2 H'->σ=[some (.ref b),some (.ref p),some (.ref pw),some (.int i),some (.ref a),some (.ref c),some (.ref lH),some (.int way),none,none]->∀D':L2.Ends,(∀v H',Q v H'->D'.rt v H')->(∀H'',ZD H'' b->Zg b H2 H''->D'.nx σ H'') ->tIfS (tAnd (PX (tOp rEq (tVar 7) (tC (V.int 1)))) (PX (tOp (rNil true K) (tVar 5) (tLst tNil)))) (tSeq (tAsg (Mp Y2 [] E0 (Yl (tVar 0) (Yl (tCB (rLen K) (Yl (tVar 5) tNil)) tNil))) (Zt 9)) (tRet (tTup (Yl (tVar 4) (Yl (tOp rCat (tSl (rSlL K) (tVar 5) NW (WS (tVar 9))) (tSl (rSlL K) (tVar 5) (WS (tOp (rI0 λi j=>V.int (i+j)) (tVar 9) (tC (V.int 1)))) NW)) tNil))))) Ef D' σ H':=λH3 σ B3 S3 eσ D' hrt hnx=>by
  subst eσ;have S03:=S02.trans S3;have ha3:=S3 _ _ ha2 (Y1 B2 ha2);have hc3:=S3 _ _ hc2 (Yk B2 hc2 ps2);have ps3:=Paired.mapP ps2 λ_ _ q=>q.sameB B2 S3;refine⟨_,rfl,rfl,_,rfl,?_⟩;refine ite2 (λ_=>?_) (λ_=>hnx _ B3 S3);refine⟨_,rfl,Nat.zero_le _,λle he=>?_⟩;have nec:c≠le:=Zi hc3 he;refine⟨_,_,_,rfl,rfl,SqL.of ((Zj nec).trans hc3),Zf,_,rfl,?_⟩;have S4:Zg b H3 (upd H3 le (.lst [])):=(Zg.refl b H3).new' he;have B4:ZD (upd H3 le (.lst [])) b:=B3.new he;dsimp only;generalize upd H3 le (.lst [])=H4 at S4 B4 ⊢;have S34:=S3.trans S4;refine ite2 (λen=>?_) (λ_=>hnx _ B4 S34);have hy0:0<ys.length:=by
   cases ys with
  |nil=>simp at en
  |cons x l=>simp
  have hc4:=S4 _ _ hc3 (Yk B3 hc3 ps3);have ps4:=Paired.mapP ps3 λ_ _ q=>q.sameB B3 S4;refine⟨_,rfl,_,rfl,c,_,rfl,.inl (SqL.of hc4),b,_,rfl,B4,by omega,ZT (by omega) (by omega),λat_ H5 a0 a1 B5 S5=>?_⟩;dsimp only[Zt,az];have hc5:=S5 _ _ hc4 (Yk B4 hc4 ps4);have ps5:=Paired.mapP ps4 λ_ _ q=>q.sameB B4 S5;have ha5:=(S4.trans S5) _ _ ha3 (Y1 B3 ha3);refine⟨_,rfl,_,rfl,_,rfl,_,rfl,c,ys,rfl,SqL.of hc5,λl6 h6=>?_⟩;dsimp only;refine al2E (congrArg HO.lst (Py ys a0)) B5 h6 λH6 B6 S6 e6 n6=>?_;refine⟨_,rfl,_,rfl,_,_,rfl,rfl,_,rfl,c,ys,rfl,SqL.of (S6 _ _ hc5 (Yk B5 hc5 ps5)),λl7 h7=>?_⟩;dsimp only;refine al2E (congrArg HO.lst (Ur ys (i:=at_+1) (by omega))) B6 h7 λH7 B7 S7 e7 n7=>?_;refine⟨l6,l7,_,_,rfl,rfl,S7 _ _ e6 n6,e7,Zo (by rw[aG,bf];omega),λl8 h8=>?_⟩;dsimp only;refine al2 B7 h8 λH8 B8 S8 e8 n8=>?_;refine⟨Zo (by show 2<=1000;decide),λq hq=>hrt _ _ ?_⟩;have S9:Zg b H8 (upd H8 q (.tup [.ref a,.ref l8])):=(Zg.refl b H8).new' hq;have S59:=((S6.trans S7).trans S8).trans S9;have et:(at_+1).toNat=at_.toNat+1:=by omega
  rw[et]at e8;have sbs:=DU ss at_.toNat
  have slen:=sbs.length_le;refine k _ _ gs (ss.take at_.toNat++ss.drop (at_.toNat+1)) (B8.new hq) (((S03.trans S4).trans S5).trans S59) ⟨q,a,l8,_,rfl,Zf,S59 _ _ ha5 (Y1 B5 ha5),S9 _ _ e8 n8,?_,⟨lk.g,λz hz=>lk.s z (sbs.subset hz)⟩,nd1,nd2.sublist sbs,lg,by omega⟩ lg8 (by omega);exact Paired.mapP (Y4 (GZ ps5 at_.toNat) (J5 ps5 (at_.toNat+1))) λ_ _ q'=>q'.sameB B5 S59
 refine tqr λD3 hk3 hr3=>?_;have go2:∀H',ZD H' b->Zg b H2 H'->D3.nx [some (.ref b),some (.ref p),some (.ref pw),some (.int i),some (.ref a),some (.ref c),some (.ref lH),some (.int way),none,none] H':=λH' B' S'=>
  hk3 _ _ (tqr λD4 hk4 hr4=>second H' _ B' S' rfl D4 (λv H'' q=>hr4 v H'' q) λH'' B'' S''=>hk4 _ _ (third H'' _ B'' S'' rfl));refine⟨_,rfl,rfl,_,rfl,?_⟩;refine ite2 (λ_=>?_) (λ_=>go2 _ B2 (Zg.refl b H2));refine⟨_,rfl,Nat.zero_le _,λle he=>?_⟩;refine⟨_,_,_,rfl,rfl,SqL.of ((Zj (Zi eH2 he)).trans eH2),Zf,_,rfl,?_⟩;have S4:Zg b H2 (upd H2 le (.lst [])):=(Zg.refl b H2).new' he;have B4:ZD (upd H2 le (.lst [])) b:=B2.new he;dsimp only;generalize upd H2 le (.lst [])=H4 at S4 B4 ⊢;refine ite2 (λen=>?_) (λ_=>go2 _ B4 S4);have hs0:0<hs.length:=by
  cases hs with
 |nil=>simp at en
 |cons x l=>simp
 have eH4:=S4 _ _ eH2 nH;refine tq λD5 hk5=>?_;refine⟨_,rfl,_,rfl,_,rfl,lH,_,rfl,.inl (SqL.of eH4),b,_,rfl,B4,by rw[lm];omega,ZT (by rw[lm];omega) (by rw[lm];omega),λr H5 r0 r1 B5 S5=>?_⟩;obtain⟨v5,at5,m5⟩:=at_of (xs:=hs.map V.str) r0 r1;obtain⟨hm,hhm,rfl⟩:=af.mp m5;refine⟨lH,_,_,_,rfl,rfl,SqL.of (S5 _ _ eH4 nH),at5,?_⟩;refine⟨_,rfl,_,rfl,_,_,rfl,rfl,b,_,rfl,B5,by omega,ZT (by omega) (by omega),λkk H6 k0 k1 B6 S6=>?_⟩;refine⟨Zo (by show 2<=1000;decide),λq hq=>hk5 _ _ ?_⟩;clear hk5 at5 m5 r0 r1;dsimp only[Zt,az];refine al B6 hq λH7 B7 S7 eq nq=>?_;have S27:=((S4.trans S5).trans S6).trans S7;have S07:=S02.trans S27;have ha7:=S27 _ _ ha2 (Y1 B2 ha2);have hc7:=S27 _ _ hc2 (Yk B2 hc2 ps2);have ps7:=Paired.mapP ps2 λ_ _ q=>q.sameB B2 S27;have hz:XZ T (hm,kk):=⟨hsm hm hhm,k0,by show kk<=T.n;omega⟩;refine⟨_,rfl,_,rfl,c,rfl,⟨_,SqL.of hc7⟩,?_⟩;have lzip:(ys.zip ss).length=ys.length:=by rw[List.length_zip];omega
 refine Xz (J:=Itl K c) (ys.zip ss) (Zo (by omega)) (λq=>decide (q.2≠(hm,kk))) (λq=>q.1) (λτ=>∃v1,τ=[v1,some (.ref q)]) ⟨none,rfl⟩ (λj hj=>⟨_,ys[j]'(by omega),SqL.of hc7,gE _⟩) ⟨_,SqL.of hc7,by omega⟩ (λj x τ u H' hx st yl N1 N2 h1 h2=>?_) λlZ hZ=>?_
 ·obtain⟨v1,rfl⟩:=st;obtain⟨rfl,hy⟩:=yl;have hu:=hy _ (SqL.of hc7);obtain⟨e1,e2⟩:=List.getElem?_zip_eq_some.mp hx;rw[e1]at hu;cases hu;have sp:=XD ps7 e1 e2;refine⟨_,rfl,_,rfl,_,_,Mq sp,Mq (s:=(hm,kk)) ⟨q,rfl,eq⟩,Me (UO ok (lk.s _ (au e2))),Me (UO ok hz),_,rfl,?_⟩;rw[W4,<-decide_not];exact Xh (λe=>⟨_,rfl,h1 e _ ⟨_,rfl⟩⟩) (λe=>h2 e _ ⟨_,rfl⟩)
 have pz:=PU (λz:Spt=>decide (z≠(hm,kk))) ps7;dsimp only;refine al2 B7 hZ λH8 B8 S8 eZ nZ=>?_;refine⟨_,rfl,Zo (by show 1<=1000;decide),λl9 h9=>?_⟩;dsimp only;refine al2 B8 h9 λH9 B9 S9 e9 n9=>?_;have lflt:(ss.filter λz=>decide (z≠(hm,kk))).length<=ss.length:=bg _ _;have lz:=aL pz;refine⟨lZ,l9,_,_,rfl,rfl,S9 _ _ eZ nZ,e9,Zo (Nat.le_trans (Nat.add_le_add_right (Nat.le_trans (Nat.le_of_eq lz) lflt) 1) (by omega)),λl10 h10=>?_⟩;dsimp only;refine al2 B9 h10 λH10 B10 S10 e10 n10=>?_;refine⟨Zo (by show 2<=1000;decide),λq2 hq2=>hr3 _ _ ?_⟩;have S11:Zg b H10 (upd H10 q2 (.tup [.ref a,.ref l10])):=(Zg.refl b H10).new' hq2;have S711:=((S8.trans S9).trans S10).trans S11;refine k _ _ gs ((ss.filter λz=>decide (z≠(hm,kk)))++[(hm,kk)]) (B10.new hq2) (S07.trans S711) ⟨q2,a,l10,_,rfl,Zf,S711 _ _ ha7 (Y1 B7 ha7),S11 _ _ e10 n10,?_,⟨lk.g,λz hz'=>?_⟩,nd1,?_,lg,by rw[ah];show _+1<=400;omega⟩ lg8 (by rw[ah];show _+1<=_;omega)
 ·exact Y4 (Paired.mapP pz λ_ _ q'=>q'.sameB B7 S711) (.cons ⟨q,rfl,S711 _ _ eq nq⟩ .nil)
 ·rcases aw.mp hz' with hz'|hz'
  ·exact lk.s z (a7.mp hz').1
  ·rw[ay]at hz';subst hz';exact hz
 ·rw[cw];refine⟨nd2.sublist dX,by simp,λu hu u' hu' e=>?_⟩;rw[ay]at hu';subst hu' e;exact absurd rfl (of_decide_eq_true (a7.mp hu).2)
end
theorem SmAll.lst{ds:List PyData}{k m n:Nat}(h:SmAll ds k m)(hl:ds.length<=n):Sm (.list ds) (k+1) (n*(m+1)):=by
 refine⟨?_,?_,?_,?_⟩
 ·simp only[PyData.showable,h.sh]
 ·simp only[PyData.leavesShort,h.lv]
 ·simp only[PyData.depth];have:=h.dp;omega
 ·simp only[PyData.weight];exact Nat.le_trans h.wt (Nat.mul_le_mul_right _ hl)
theorem Em(b:Bool):Sm (.bool b) 0 12:=by cases b<;>exact⟨rfl,by decide +kernel,Nat.zero_le _,by decide +kernel⟩
theorem Vv{H:Hp}{xs ys:List V}{ds es:List PyData}(h:IsAll H xs ds)(h2:IsAll H ys es):IsAll H (xs++ys) (ds++es):=by
 induction xs generalizing ds with
|nil=>cases h;exact h2
|cons x xs ih=>cases h with
 |cons a t=>exact .cons a (ih t)
theorem Xl{H:Hp}:∀gs:List Str,IsAll H (gs.map V.str) (gs.map PyData.str)
|[]=>.nil
|g::gs=>.cons (.str g) (Xl gs)
theorem Jj{H:Hp}{ys:List V}{ss:List Spt}(h:bo (SpAt H) ys ss):IsAll H ys (ss.map sD):=by
 induction h with
|nil=>exact .nil
|cons h _ ih=>exact .cons (Mq h) ih
theorem Vu{H:Hp}{xs:List V}{ds:List PyData}(h:IsAll H xs ds):xs.length=ds.length:=by
 induction xs generalizing ds with
|nil=>cases h;rfl
|cons x xs ih=>cases h with
 |cons a t=>rw[aW,aW,ih t]
def Prt2(H:Hp)(x:V):Prop:=∃d,Is H x d/\Sm d 2 33180
def Sh(H:Hp)(v:V):Prop:=∃d,IsX H v d/\Shw d
theorem Prt2.lst{H:Hp}{a:Addr}{xs:List V}{ds:List PyData}(h:H a=some (.lst xs))(i:IsAll H xs ds)(s:∀d∈ds,Sm d 1 78)(l:xs.length<=420):Prt2 H (.ref a):=⟨_,.lst h i,(SmAll.lst (SmAll.of s) (n:=420) (by rw[<-Vu i];exact l)).mono (Nat.le_refl _) (by decide)⟩
theorem Prt2.tup{H:Hp}{a:Addr}{xs:List V}{ds:List PyData}(h:H a=some (.tup xs))(i:IsAll H xs ds)(s:∀d∈ds,Sm d 1 78)(l:xs.length<=420):Prt2 H (.ref a):=⟨_,.tup h i,(SmAll.tup (SmAll.of s) (n:=420) (by rw[<-Vu i];exact l)).mono (Nat.le_refl _) (by decide)⟩
theorem Pj{H:Hp}:∀{xs:List V},(∀x∈xs,Prt2 H x)->∃ds,IsAll H xs ds/\∀d∈ds,Sm d 2 33180
|[],_=>⟨[],.nil,by simp⟩
|x::xs,h=>by obtain⟨d,i,s⟩:=h x aE;obtain⟨ds,is,ss⟩:=Pj λy hy=>h y (av _ hy);exact⟨d::ds,.cons i is,λe he=>by rcases ao.mp he with rfl|he;exact s;exact ss e he⟩
theorem Sh.tup{H:Hp}{a:Addr}{xs:List V}(h:H a=some (.tup xs))(hx:∀x∈xs,Prt2 H x)(l:xs.length<=4):Sh H (.ref a):=by obtain⟨ds,i,s⟩:=Pj hx;exact⟨_,.of (.tup h i),(SmAll.tup (SmAll.of s) (n:=4) (by rw[<-Vu i];exact l)).shw (by decide) (by decide)⟩
theorem Sh.lst{H:Hp}{a:Addr}{xs:List V}(h:H a=some (.lst xs))(hx:∀x∈xs,Prt2 H x)(l:xs.length<=4):Sh H (.ref a):=by obtain⟨ds,i,s⟩:=Pj hx;exact⟨_,.of (.lst h i),(SmAll.lst (SmAll.of s) (n:=4) (by rw[<-Vu i];exact l)).shw (by decide) (by decide)⟩
theorem W0{g:Str}(h:GS g):Sm (.str g) 1 78:=(Atm.sm (.str h)).mono (by decide) (by decide)
theorem Lm{i:Int}(h:i.natAbs<=1000):Sm (.int i) 1 78:=(Atm.sm (.int h)).mono (by decide) (by decide)
theorem Kp{s:Spt}(h:GS s.1)(h2:s.2.natAbs<=1000):Sm (sD s) 1 78:=(SmAll.tup (SmAll.of (ds:=[.str s.1,.int s.2]) (k:=0) (m:=12) λd hd=>by
 simp only[ao,aF,or_false]at hd;rcases hd with rfl|rfl
 ·exact Atm.sm (.str h)
 ·exact Atm.sm (.int h2)) (n:=2) (by show 2<=2;decide)).mono (by decide) (by decide)
section
variable {K:aa}{H H':Hp}{T:Tb}{v:V}{gs:List Str}{ss:List Spt}{a c:Addr}{ys:List V}
theorem g_gs(o:OkTb T)(hg:∀g∈gs,g∈T.t4.map nameOf):∀g∈gs,GS g:=λg h=>by obtain⟨y,hy,e⟩:=af.mp (hg g h);rw[<-e];exact(YD o (j:=4) (.inr (.inr (.inr rfl))) hy).2
theorem NG(o:OkTb T)(hg:∀g∈gs,g∈T.t4.map nameOf):∀d∈gs.map PyData.str,Sm d 1 78:=λd hd=>by obtain⟨g,h,rfl⟩:=af.mp hd;exact W0 (g_gs o hg g h)
theorem Nt(o:OkTb T)(n:T.n<=12)(hs:∀s∈ss,XZ T s):∀d∈ss.map sD,Sm d 1 78:=λd hd=>by obtain⟨s,h,rfl⟩:=af.mp hd;obtain⟨h1,h2,h3⟩:=hs s h;exact Kp (UO o (hs s h)) (by omega)
theorem Z3.sh(o:OkTb T)(n:T.n<=12)(h:Z3 H T v gs ss):Sh H v:=by
 obtain⟨p,a,c,ys,rfl,hp,ha,hc,ps,lk,_,_,l1,l2⟩:=h;refine Sh.tup hp (λx hx=>?_) (by show 2<=4;decide);simp only[ao,aF,or_false]at hx;rcases hx with rfl|rfl
 ·exact Prt2.lst ha (Xl gs) (NG o lk.g) (by rw[lm];omega)
 ·exact Prt2.lst hc (Jj ps) (Nt o n lk.s) (by rw[aL ps];omega)
end
theorem EL{H:Hp}:Sh H .non:=⟨.none,.of .non,(Sm.mono (k:=0) (m:=12) (Atm.sm .non) (Nat.le_refl _) (Nat.le_refl _)).shw (by decide) (by decide)⟩
theorem Dh{H:Hp}{a:Addr}(h:H a=some (.dK [])):Sh H (.ref a):=⟨.dict [],.dk h,(⟨rfl,by decide +kernel,by decide +kernel,by decide +kernel⟩:Sm (.dict []) 64 200000).shw (by decide) (by decide)⟩
section
variable {K:aa}{H:Hp}{T:Tb}{q x z:Addr}{xs zs:List V}{gs:List Str}{ss:List Spt}
theorem Mm(hq:H q=some (.tup [.ref x,.ref z]))(P1:Prt2 H (.ref x))(P2:Prt2 H (.ref z)):Sh H (.ref q):=Sh.tup hq (λy hy=>by
 simp only[ao,aF,or_false]at hy;rcases hy with rfl|rfl
 ·exact P1
 ·exact P2) (by show 2<=4;decide)
theorem K7(hq:H q=some (.tup [.ref x,.ref z]))(hx:H x=some (.lst xs))(hz:H z=some (.lst zs))(lx:xs.length<=400)(lz:zs.length<=400)(th:∀e∈xs,∃T,Th H e T)(bad:∃e∈xs,isG T e=false)(P1:Prt2 H (.ref x))(P2:Prt2 H (.ref z)):YT K H T (.ref q)/\Sh H (.ref q):=⟨.inr ⟨q,x,z,xs,zs,rfl,hq,hx,hz,by omega,by omega,.inl ⟨th,bad⟩⟩,Mm hq P1 P2⟩
theorem HK(hq:H q=some (.tup [.ref x,.ref z]))(hx:H x=some (.lst (gs.map V.str)))(hz:H z=some (.lst zs))(lx:gs.length<=400)(lz:zs.length<=400)(hg:∀g∈gs,g∈T.t4.map nameOf)(it:∀y∈zs,SpIt K H T y)(bad:∃y∈zs,¬IsSp H T y)(P1:Prt2 H (.ref x))(P2:Prt2 H (.ref z)):YT K H T (.ref q)/\Sh H (.ref q):=⟨.inr ⟨q,x,z,_,zs,rfl,hq,hx,hz,by rw[lm];omega,by omega,.inr ⟨gs,rfl,hg,.inl ⟨it,bad⟩⟩⟩,Mm hq P1 P2⟩
theorem HL(hq:H q=some (.tup [.ref x,.ref z]))(hx:H x=some (.lst (gs.map V.str)))(hz:H z=some (.lst zs))(lx:gs.length<=400)(lz:zs.length<=400)(hg:∀g∈gs,g∈T.t4.map nameOf)(ps:bo (SpAt H) zs ss)(hs:∀s∈ss,XZ T s)(bad:¬(gs.Nodup/\ss.Nodup))(P1:Prt2 H (.ref x))(P2:Prt2 H (.ref z)):YT K H T (.ref q)/\Sh H (.ref q):=⟨.inr ⟨q,x,z,_,zs,rfl,hq,hx,hz,by rw[lm];omega,by omega,.inr ⟨gs,rfl,hg,.inr ⟨ss,ps,hs,λh=>bad (SO.mp h)⟩⟩⟩,Mm hq P1 P2⟩
theorem NY(o:OkTb T){v:V}{s:Spt}(h:SpAt H v s)(g:s.1.length<=1000):SpIt K H T v:=by
 obtain⟨a,rfl,ha⟩:=h;refine .inr ⟨a,_,rfl,ha,by show 2<=1000;decide,λv hv=>?_⟩;simp only[ao,aF,or_false]at hv;rcases hv with rfl|rfl
 ·exact⟨_,.str _ g⟩
 ·exact⟨_,.int _⟩
end
theorem LA(xs:List V)(h:xs≠[]):cutV xs (some (-1)) none=xs.drop (xs.length-1):=by
 have hl:0<xs.length:=List.length_pos_iff.mpr h;show(xs.drop (HT.sIx xs.length 0 (some (-1)))).take (xs.length-HT.sIx xs.length 0 (some (-1)))=_;have e:HT.sIx xs.length 0 (some (-1))=xs.length-1:=by unfold HT.sIx;simp;omega
 rw[e,aX (by rw[bf];exact Nat.le_refl _)]
def Odd(K:aa)(b:Addr)(T:Tb)(H:Hp)(v:V):Prop:=∀H',Zg b H H'->YT K H' T v/\Sh H' v
theorem Odd.later{K:aa}{b:Addr}{T:Tb}{H H2:Hp}{v:V}(s:Zg b H H2)(h:Odd K b T H v):Odd K b T H2 v:=λH' s'=>h H' (s.trans s')
def R9(K:aa):Sp:=λvs H Q _=>∃(b pw l1 l2 l3 l4:Addr)(v:V)(T:Tb)(H0:Hp)(gs:List Str)(ss:List Spt),vs=[.ref b,v,.ref pw]/\Bx H0 H b/\WAt H0 pw T l1 l2 l3 l4/\OkTb T/\Wd T/\Z3 H T v gs ss/\gs.length<=8/\ss.length<=320 /\∀H' v',ZD H' b->Zg b H H'->YT K H' T v'->Sh H' v'->Q v' H'
section
variable {P:Program}{w:World}{K:aa}{mg:Str->Option Value}{base:Heap}{C:Addr}
theorem Z5:FnScope [q_b,"_law_line_here",q_w,"_law_groups","_law_spots","_law_place","_law_at","_law_some"] [q_b,"_law_line_here",q_w] (Zd T.f__law_other):=scO
noncomputable def Vj:Scope:=csx [(".0",.local),("_law_spot",.local),("_law_place",.free)]
theorem Uy:CompScope Vj (Zd T.f__law_other):=⟨rfl,by decide +kernel,by decide +kernel,by decide +kernel⟩
theorem UA:(["_law_spot","_law_place"]:List Str).Nodup:=by decide +kernel
theorem Uz:CompNames [q_b,"_law_line_here",q_w,"_law_groups","_law_spots","_law_place","_law_at","_law_some"] Vj ["_law_spot","_law_place"] [none,some 5]:=.mk' (by decide +kernel)
theorem RM(B:∀x∈Blts,mg x=none)(CT:Can P w K mg base 1 "_law_take" [q_b,"_law_many"] Y2)(D:Df K mg "_law_other" T.f__law_other [q_b,"_law_line_here",q_w]):Can P w K mg base 2 "_law_other" [q_b,"_law_line_here",q_w] (R9 K):=by
 refine D.cn Z5 λf cdv A outer s H vs Q E hr h=>?_;obtain⟨b,pw,l1,l2,l3,l4,v,T,H0,gs,ss,rfl,bx0,wt,ok,wd,good,lg8,ls,k⟩:=h;refine' ⟨_,(@Za _ _ _ _ _ ?h47 (@Za _ _ _ _ _ ?h48 (@Za _ _ _ _ _ ?h49 (@Za _ _ _ _ _ ?h50 (@Za _ _ _ _ _ ?h51 (@Za _ _ _ _ _ ?h52 (@Za _ _ _ _ _ ?h53 (@Za _ _ _ _ _ ?h54 (@Za _ _ _ _ _ ?h55 (@Za _ _ _ _ _ ?h56 (@Ze _ _ _ ?h57))))))))))),?rd⟩;case' h57=>refine' (Zn ?h46)
 case' h56=>refine' (@ZF _ _ _ _ _ _ _ _ (@Zq _ _ _ _ _ _ _ _ (J6 hr.units) (pv 4) ?h43 (ZA _)) (@Ze _ _ _ ?h45) Zr)
 case' h55=>refine' (@ZF _ _ _ _ _ _ _ _ (@Zq _ _ _ _ _ _ _ _ (J6 hr.units) (pv 3) ?h40 (ZA _)) (@Ze _ _ _ ?h42) Zr)
 case' h54=>refine' (@st _ _ _ _ 7 _ _ Z5.nd (Zp Z8 (pv 7) ?h39) (by rfl) (by exact aK rfl) (by rfl) (by exact .inl rfl))
 case' h53=>refine' (@st _ _ _ _ 7 _ _ Z5.nd (Zp Z8 (pv 7) ?h30) (by rfl) (by exact aK rfl) (by rfl) (by exact .inl rfl))
 case' h52=>refine' (@st _ _ _ _ 7 _ _ Z5.nd (Zp Z8 (pv 7) ?h24) (by rfl) (by exact aK rfl) (by rfl) (by exact .inl rfl))
 case' h51=>refine' (@st _ _ _ _ 7 _ _ Z5.nd (Zp Z8 (pv 7) ?h17) (by rfl) (by exact aK rfl) (by rfl) (by exact .inl rfl))
 case' h50=>refine' (@st _ _ _ _ 7 _ _ Z5.nd ?h11 (by rfl) (by exact aK rfl) (by rfl) (by exact .inl rfl))
 case' h49=>refine' (@st _ _ _ _ 6 _ _ Z5.nd (cn CT hr (@pa2 _ _ _ _ _ (pv 0) (Zp ZG ?h5 Zb) (by rfl))) (by rfl) (by exact aK rfl) (by rfl) (by exact .inl rfl))
 case' h48=>refine' (@Yb _ _ 5 _ _ _ _ Z5.nd (by rfl) (by exact b9 rfl) ?h4 (by rfl) (by exact aK rfl))
 case' h47=>refine' (X0 (pv 1) (YE rfl (Zl (nmT 3 Z5.nd) (Zl (nmT 4 Z5.nd) Z0))))
 case' h46=>refine' (@il _ _ _ _ _ _ K (pv 7) (cn CT hr (@pa2 _ _ _ _ _ (pv 0) (Zy (r:=rLen K) ZU rfl (bm B) aZ (@pa1 _ _ _ (pv 7) (by rfl))) (by rfl))) (by rfl) (by exact λ_ _=>rfl))
 case' h45=>refine' (Yg (GY bN cv cu Jh (pv 7) (@pa1 _ _ _ ?h44 (by rfl))))
 case' h44=>refine' (@Zw _ _ _ _ _ (@pa2 _ _ _ _ _ (pv 3) (Zp Z8 (pv 4) (YB (r:=rSlL K) Xw (pv 4) (YZ (SF NU Zb)) Y0)) (by rfl)))
 case' h43=>refine' (@Zz _ _ _ _ Zk)
 case' h42=>refine' (Yg (GY bN cv cu Jh (pv 7) (@pa1 _ _ _ ?h41 (by rfl))))
 case' h41=>refine' (@Zw _ _ _ _ _ (@pa2 _ _ _ _ _ (Zp Z8 (pv 3) (YB (r:=rSlL K) Xw (pv 3) Y0 (YZ Zb))) (pv 4) (by rfl)))
 case' h40=>refine' (@Zz _ _ _ _ Zk)
 case' h39=>refine' (@Zz _ _ _ _ (@pa3 _ _ _ _ _ _ _ ?h38 ?h35 ?h32 (by rfl)))
 case' h38=>refine' (@Zw _ _ _ _ _ (@pa2 _ _ _ _ _ (pv 3) (Zp Z8 (pv 4) ?h37) (by rfl)))
 case' h37=>refine' (@Zz _ _ _ _ (@pa1 _ _ _ ?h36 (by rfl)))
 case' h36=>refine' (@Zz _ _ _ _ (@pa2 _ _ _ _ _ (pv 5) (pv 6) (by rfl)))
 case' h35=>refine' (@Zw _ _ _ _ _ (@pa2 _ _ _ _ _ (Zp Z8 (pv 3) ?h34) (pv 4) (by rfl)))
 case' h34=>refine' (@Zz _ _ _ _ (@pa1 _ _ _ ?h33 (by rfl)))
 case' h33=>refine' (@Zz _ _ _ _ (@pa1 _ _ _ ZH (by rfl)))
 case' h32=>refine' (@Zw _ _ _ _ _ (@pa2 _ _ _ _ _ (Zp Z8 (pv 3) ?h31) (pv 4) (by rfl)))
 case' h31=>refine' (@Zz _ _ _ _ (@pa1 _ _ _ YW (by rfl)))
 case' h30=>refine' (@Zz _ _ _ _ (@pa2 _ _ _ _ _ ?h29 ?h26 (by rfl)))
 case' h29=>refine' (@Zw _ _ _ _ _ (@pa2 _ _ _ _ _ (pv 3) (Zp Z8 (ZQ rfl Uy Uz (ZV (pv 4)) (λC s H ex pn=>(nmT 0 UA)) (λC s H ex pn=>(YN (Zq (KY hr.units) (pv 0) (Zw (Zc (pv 1) (Zc Zb Zk))) (ZA _)))) (λC s H ex pn=>(pv 0))) ?h28) (by rfl)))
 case' h28=>refine' (@Zz _ _ _ _ (@pa1 _ _ _ ?h27 (by rfl)))
 case' h27=>refine' (@Zw _ _ _ _ _ (@pa2 _ _ _ _ _ (pv 5) YW (by rfl)))
 case' h26=>refine' (@Zw _ _ _ _ _ (@pa2 _ _ _ _ _ (pv 3) (Zp Z8 (pv 4) ?h25) (by rfl)))
 case' h25=>refine' (@Zz _ _ _ _ (@pa1 _ _ _ ZK (by rfl)))
 case' h24=>refine' (@Zz _ _ _ _ (@pa2 _ _ _ _ _ ?h23 ?h19 (by rfl)))
 case' h23=>refine' (@Zw _ _ _ _ _ (@pa2 _ _ _ _ _ (pv 3) (Zp Z8 (pv 4) ?h22) (by rfl)))
 case' h22=>refine' (@Zz _ _ _ _ (@pa1 _ _ _ ?h21 (by rfl)))
 case' h21=>refine' (@Zw _ _ _ _ _ (@pa2 _ _ _ _ _ (pv 5) (Zp ZG ?h20 Zb) (by rfl)))
 case' h20=>refine' (@it _ _ _ _ _ _ K (pv 2) Zb (by rfl) (by exact λ_ _=>rfl))
 case' h19=>refine' (@Zw _ _ _ _ _ (@pa2 _ _ _ _ _ (Zp Z8 (pv 4) ?h18) (pv 3) (by rfl)))
 case' h18=>refine' (@Zz _ _ _ _ (@pa1 _ _ _ Zb (by rfl)))
 case' h17=>refine' (@Zz _ _ _ _ (@pa2 _ _ _ _ _ ?h16 ?h14 (by rfl)))
 case' h16=>refine' (@Zw _ _ _ _ _ (@pa2 _ _ _ _ _ (Zp Z8 (pv 3) ?h15) (pv 4) (by rfl)))
 case' h15=>refine' (@Zz _ _ _ _ (@pa1 _ _ _ ZH (by rfl)))
 case' h14=>refine' (@Zw _ _ _ _ _ (@pa2 _ _ _ _ _ (pv 3) (Zp Z8 (pv 4) ?h13) (by rfl)))
 case' h13=>refine' (@Zz _ _ _ _ (@pa1 _ _ _ ?h12 (by rfl)))
 case' h12=>refine' (@Zw _ _ _ _ _ (@pa2 _ _ _ _ _ ZH (pv 6) (by rfl)))
 case' h11=>refine' (@Zz _ _ _ _ (@Zc _ _ _ _ _ ?h10 (@Zc _ _ _ _ _ ?h9 (@Zc _ _ _ _ _ ?h8 (@Zc _ _ _ _ _ ?h7 (@pa3 _ _ _ _ _ _ _ ?h6 ZK JZ (by rfl)) (by rfl)) (by rfl)) (by rfl)) (by rfl)))
 case' h10=>refine' (@Zz _ _ _ _ (@pa2 _ _ _ _ _ (pv 3) (pv 4) (by rfl)))
 case' h9=>refine' (@Zw _ _ _ _ _ (@pa1 _ _ _ (pv 3) (by rfl)))
 case' h8=>refine' (@Zw _ _ _ _ _ (@pa3 _ _ _ _ _ _ _ (pv 3) (pv 4) Zb (by rfl)))
 case' h7=>refine' (@Zw _ _ _ _ _ (@pa2 _ _ _ _ _ (Yi X6 rfl (bm B) XM (@pa1 _ _ _ (pv 3) (by rfl))) (pv 4) (by rfl)))
 case' h6=>refine' (@Zw _ _ _ _ _ (@pa2 _ _ _ _ _ (pv 3) (Yi X6 rfl (bm B) XM (@pa1 _ _ _ (pv 4) (by rfl))) (by rfl)))
 case' h5=>refine' (@it _ _ _ _ _ _ K (pv 2) Zb (by rfl) (by exact λ_ _=>rfl))
 case' h4=>refine' (@it _ _ _ _ _ _ K ?h3 Zb (by rfl) (by exact λ_ _=>rfl))
 case' h3=>refine' (@il _ _ _ _ _ _ K ?h1 (cn CT hr (@pa2 _ _ _ _ _ (pv 0) (Zy (r:=rLen K) ZU rfl (bm B) aZ (@pa1 _ _ _ ?h2 (by rfl))) (by rfl))) (by rfl) (by exact λ_ _=>rfl))
 case' h2=>refine' (@it _ _ _ _ _ _ K (pv 2) Zb (by rfl) (by exact λ_ _=>rfl))
 case' h1=>refine' (@it _ _ _ _ _ _ K (pv 2) Zb (by rfl) (by exact λ_ _=>rfl))
 case' rd=>
 have n0:=ok.n0;have n12:=wd.n12;have p2:=wd.p2;have p9:=wd.p9;have hbb:=bx0.bx;have tw:∀{H':Hp},Zg b H H'->WAt H' pw T l1 l2 l3 l4:=λs=>wt.same (Ye bx0.fr bx0.sm s);obtain⟨p,a,c,ys,rfl,hp,ha,hc,ps,lk,nd1,nd2,lg,lsp⟩:=good;have ly:=aL ps;rw[show L2.start ([q_b,"_law_line_here",q_w,"_law_groups","_law_spots","_law_place","_law_at","_law_some"]:List Str) [V.ref b,V.ref p,V.ref pw]=[some (.ref b),some (.ref p),some (.ref pw),none,none,none,none,none]from rfl];refine tq λD0 hk0=>?_;refine⟨_,rfl,p,_,rfl,SqT.of hp,rfl,_,_,rfl,_,_,rfl,rfl,?_⟩;refine hk0 _ _ (tq λD1 hk1=>?_);clear hk0;try dsimp only[Zt,az]
 have w0:=tw (Zg.refl b H);obtain⟨xs1,ex1,lx1⟩:=w0.r1.lst;refine ixT 1 w0.at_ rfl ⟨_,rfl,ixT 1 w0.at_ rfl ⟨l1,_,rfl,.inl (SqL.of ex1),b,_,rfl,hbb,by omega,ZT (by omega) (by omega),λr H1 r0 r1 B1 S1=>?_⟩⟩;have w1:=tw S1;obtain⟨m,rfl⟩:=Int.eq_ofNat_of_zero_le r0;have hm:m<T.t1.length:=by omega
 obtain⟨xs1',a',ex1',lx1',eat,hrow⟩:=w1.r1.at_ (gE hm);have hmem:=aD hm;generalize T.t1[m]=yrow at hrow hmem;obtain⟨⟨pl,rm⟩,rfl,gpl,_⟩:=Xo ok hmem;have hpl:pl∈T.t1.map nameOf:=af.mpr ⟨_,hmem,rfl⟩;refine⟨l1,_,_,_,rfl,rfl,SqL.of ex1',Zu eat,a',_,0,_,rfl,rfl,SqT.of hrow,Zu (j:=0) rfl,?_⟩;refine hk1 _ _ (tq λD2 hk2=>?_);clear hk1;try dsimp only[Zt,az]
 refine⟨_,rfl,ixT 0 w1.at_ rfl ⟨_,_,rfl,rfl,b,_,rfl,B1,by omega,ZT (by omega) (by omega),λat_ H3 a0 a1 B3 S13=>?_⟩⟩;have S03:=S1.trans S13;refine hk2 _ _ (tq λD3 hk3=>?_);clear hk2 S13 S1 B1 ex1' w1 hrow eat w0 ex1;try dsimp only[Zt,az]
 have ha3:=S03 _ _ ha (Y1 hbb ha);have hc3:=S03 _ _ hc (Yk hbb hc ps);have ps3:=Paired.mapP ps λ_ _ q=>q.sameB hbb S03;have na:a≠b:=Y1 hbb ha;have nc:c≠b:=Yk hbb hc ps;have fa:∀{H':Hp},Zg b H3 H'->H' a=some (.lst (gs.map V.str)):=λs=>s _ _ ha3 na;have fc:∀{H':Hp},Zg b H3 H'->H' c=some (.lst ys):=λs=>s _ _ hc3 nc;have fp:∀{H':Hp},Zg b H3 H'->bo (SpAt H') ys ss:=λs=>Paired.mapP ps3 λ_ _ q=>q.sameB B3 s;have PA:∀{H':Hp},Zg b H3 H'->Prt2 H' (.ref a):=λs=>Prt2.lst (fa s) (Xl gs) (NG ok lk.g) (by rw[lm];omega);have PC:∀{H':Hp},Zg b H3 H'->Prt2 H' (.ref c):=λs=>Prt2.lst (fc s) (Jj (fp s)) (Nt ok n12 lk.s) (by omega);have thG:∀{H':Hp},∀e∈gs.map V.str,∃T',Th H' e T':=λe he=>by obtain⟨g,hg,rfl⟩:=af.mp he;exact⟨_,.str _ (XG (g_gs ok lk.g g hg))⟩
 have itS:∀{H':Hp}(s:Zg b H3 H'),∀y∈ys,SpIt K H' T y:=λs y hy=>by obtain⟨j,hj⟩:=aU.mp hy;obtain⟨z,hz,sp⟩:=Yz (fp s) hj;exact NY ok sp (XG (UO ok (lk.s z (au hz))))
 have S33:Zg b H3 H3:=Zg.refl b H3;refine⟨_,rfl,_,rfl,Zo (by show 2<=1000;decide),λq1 h1=>?_⟩;try dsimp only
 refine al2 B3 h1 λH4 B4 S4 e1 m1=>?_;have o1:Odd K b T H4 (.ref q1):=λH' s=>⟨.inl (.inl ⟨_,.lst (s _ _ e1 m1),by decide⟩),Sh.lst (s _ _ e1 m1) (λy hy=>by
  simp only[ao,aF,or_false]at hy;rcases hy with rfl|rfl
  ·exact PA (S4.trans s)
  ·exact PC (S4.trans s)) (by show 2<=4;decide)⟩
 refine⟨_,rfl,Zo (by show 1<=1000;decide),λq2 h2=>?_⟩;try dsimp only
 refine al2 B4 h2 λH5 B5 S45 e2 m2=>?_;have S5:=S4.trans S45;have o2:Odd K b T H5 (.ref q2):=λH' s=>⟨.inl (.inr ⟨q2,_,rfl,s _ _ e2 m2,by show 1<=1000;decide,.inl (by show 1≠2;decide)⟩),Sh.tup (s _ _ e2 m2) (λy hy=>by rw[ay]at hy;subst hy;exact PA (S5.trans s)) (by show 1<=4;decide)⟩;refine⟨_,rfl,_,rfl,Zo (by show 3<=1000;decide),λq3 h3=>?_⟩;try dsimp only
 refine al2 B5 h3 λH6 B6 S56 e3 m3=>?_;have S6:=S5.trans S56;have o3:Odd K b T H6 (.ref q3):=λH' s=>⟨.inl (.inr ⟨q3,_,rfl,s _ _ e3 m3,by show 3<=1000;decide,.inl (by show 3≠2;decide)⟩),Sh.tup (s _ _ e3 m3) (λy hy=>by
  simp only[ao,aF,or_false]at hy;rcases hy with rfl|rfl|rfl
  ·exact PA (S6.trans s)
  ·exact PC (S6.trans s)
  ·exact⟨.int 0,.int 0,(Lm (by decide)).mono (by decide) (by decide)⟩) (by show 3<=4;decide)⟩
 refine⟨_,rfl,a,_,rfl,.inl ⟨SqL.of (fa S6),λt4 ht4=>?_⟩⟩;try dsimp only
 refine al2 B6 ht4 λH7 B7 S67 et4 mt4=>?_;have S7:=S6.trans S67;refine⟨_,rfl,Zo (by show 2<=1000;decide),λq4 h4=>?_⟩;try dsimp only
 refine al2 B7 h4 λH8 B8 S78 e4 m4=>?_;have S8:=S7.trans S78;have o4:Odd K b T H8 (.ref q4):=λH' s=>⟨.inl (.inr ⟨q4,_,rfl,s _ _ e4 m4,by show 2<=1000;decide,.inr ⟨_,_,rfl,.inl ⟨_,.tup (s _ _ (S78 _ _ et4 mt4) mt4),by decide⟩⟩⟩),Mm (s _ _ e4 m4) (Prt2.tup (s _ _ (S78 _ _ et4 mt4) mt4) (Xl gs) (NG ok lk.g) (by rw[lm];omega)) (PC (S8.trans s))⟩;refine⟨_,rfl,_,rfl,c,_,rfl,.inl ⟨SqL.of (fc S8),λt5 ht5=>?_⟩⟩;try dsimp only
 refine al2 B8 ht5 λH9 B9 S89 et5 mt5=>?_;have S9:=S8.trans S89;refine⟨Zo (by show 2<=1000;decide),λq5 h5=>?_⟩;try dsimp only
 refine al2 B9 h5 λH10 B10 S910 e5 m5=>?_;have S10:=S9.trans S910;have o5:Odd K b T H10 (.ref q5):=λH' s=>⟨.inl (.inr ⟨q5,_,rfl,s _ _ e5 m5,by show 2<=1000;decide,.inr ⟨_,_,rfl,.inr ⟨⟨a,_,rfl,fa (S10.trans s)⟩,_,.tup (s _ _ (S910 _ _ et5 mt5) mt5),by decide⟩⟩⟩),Mm (s _ _ e5 m5) (PA (S10.trans s)) (Prt2.tup (s _ _ (S910 _ _ et5 mt5) mt5) (Jj (fp (S10.trans s))) (Nt ok n12 lk.s) (by omega))⟩;have o6:Odd K b T H10 .non:=λH' s=>⟨.inl (.inl ⟨_,.non,by decide⟩),EL⟩;refine λd7 h7=>?_;try dsimp only
 refine al2 B10 h7 λH11 B11 S1011 e7 m7=>?_;have S11:=S10.trans S1011;have o7:Odd K b T H11 (.ref d7):=λH' s=>⟨.inl (.inl ⟨_,.dK (s _ _ e7 m7),by decide⟩),Dh (s _ _ e7 m7)⟩;refine⟨Zo (by show 7<=1000;decide),λlS hS=>?_⟩;have od:∀v∈[V.ref q1,.ref q2,.ref q3,.ref q4,.ref q5,.non,.ref d7],Odd K b T H11 v:=λv hv=>by
  simp only[ao,aF,or_false]at hv;rcases hv with rfl|rfl|rfl|rfl|rfl|rfl|rfl
  ·exact o1.later (((((((S45.trans S56).trans S67).trans S78).trans S89).trans S910)).trans S1011)
  ·exact o2.later ((((((S56.trans S67).trans S78).trans S89).trans S910)).trans S1011)
  ·exact o3.later (((((S67.trans S78).trans S89).trans S910)).trans S1011)
  ·exact o4.later (((S89.trans S910)).trans S1011)
  ·exact o5.later S1011
  ·exact o6.later S1011
  ·exact o7
 obtain⟨vs,evs,lvs⟩:∃vs,vs=[V.ref q1,.ref q2,.ref q3,.ref q4,.ref q5,.non,.ref d7]/\vs.length=7:=⟨_,rfl,rfl⟩;rw[<-evs]at od;rw[show(HO.lst [V.ref q1,.ref q2,.ref q3,.ref q4,.ref q5,.non,.ref d7])=.lst vs from by rw[evs]];clear evs o1 o2 o3 o4 o5 o6 o7 S45 S56 S67 S78 S89 S910 S1011 S4 S5 S6 S7 S8 S9 S10 B4 B5 B6 B7 B8 B9 B10 e1 e2 e3 e4 e5 e7 et4 et5 h1 h2 h3 h4 h5 h7 ht4 ht5;try dsimp only[Zt,az]
 refine al B11 hS λH12 B12 S1112 eS mS=>?_;have S12:=S11.trans S1112;replace od:∀v∈vs,Odd K b T H12 v:=λv hv=>(od v hv).later S1112;refine hk3 _ _ (tq λD4 hk4=>?_);clear hk3 S1112 S11 B11 hS;refine⟨_,rfl,_,rfl,Zo (by show 1<=1000;decide),λu1 hu1=>?_⟩;try dsimp only
 refine al2 B12 hu1 λH13 B13 S123 eu1 mu1=>?_;have S13:=S12.trans S123;refine⟨a,u1,_,_,rfl,rfl,fa S13,eu1,Zo (by rw[lm];show _+1<=1000;omega),λu2 hu2=>?_⟩;try dsimp only
 refine al2 B13 hu2 λH14 B14 S134 eu2 mu2=>?_;have S14:=S13.trans S134;refine⟨_,rfl,Zo (by show 2<=1000;decide),λq8 h8=>?_⟩;try dsimp only
 refine al2 B14 h8 λH15 B15 S145 e8 m8=>?_;have S15:=S14.trans S145;have gq:GS ("q.q":Str):=⟨by decide +kernel,by decide +kernel⟩;have o8:Odd K b T H15 (.ref q8):=λH' s=>by
  have hu:=s _ _ (S145 _ _ eu2 mu2) mu2;refine K7 (s _ _ e8 m8) hu (fc (S15.trans s)) (by rw[ah,lm];show _+1<=400;omega) (by omega) (λe he=>?_) ⟨.str "q.q",aR _ (ay.mpr rfl),?_⟩ ?_ (PC (S15.trans s))
  ·rcases aw.mp he with he|he
   ·exact thG e he
   ·rw[ay]at he;subst he;exact⟨_,.str _ (XG gq)⟩
  ·show decide _=false;refine decide_eq_false λh=>?_;obtain⟨y,hy,e⟩:=af.mp h;exact wd.qq y hy e
  ·refine Prt2.lst hu (Vv (Xl gs) (.cons (.str _) .nil)) (λd hd=>?_) (by rw[ah,lm];show _+1<=420;omega);rcases aw.mp hd with hd|hd
   ·exact NG ok lk.g d hd
   ·rw[ay]at hd;subst hd;exact W0 gq
 have spq:∀(Hi:Hp)(z q:Addr)(e:V)(zs:List V)(ss':List Spt),ZD Hi b->Zg b H3 Hi->Hi z=some (.lst (zs++[e]))->z≠b->Hi q=some (.tup [.ref a,.ref z])->q≠b->bo (SpAt Hi) zs ss'->(∀s∈ss',XZ T s)->ss'.length<=330->(∀H',Zg b Hi H'->SpIt K H' T e/\¬IsSp H' T e/\∃d,Is H' e d/\Sm d 1 78)->Odd K b T Hi (.ref q):=λHi z q e zs ss' Bi Si ez nz eq nq pz hz lz hb H' s=>by
  obtain⟨g1,g2,d,g3,g4⟩:=hb H' s;have pz':=Paired.mapP pz λ_ _ q=>q.sameB Bi s;have lz':=aL pz;refine HK (s _ _ eq nq) (fa (Si.trans s)) (s _ _ ez nz) (by omega) (by rw[ah];show _+1<=400;omega) lk.g (λy hy=>?_) ⟨e,aR _ (ay.mpr rfl),g2⟩ (PA (Si.trans s)) ?_
  ·rcases aw.mp hy with hy|hy
   ·obtain⟨j,hj⟩:=aU.mp hy;obtain⟨u,hu,sp⟩:=Yz pz' hj;exact NY ok sp (XG (UO ok (hz u (au hu))))
   ·rw[ay]at hy;subst hy;exact g1
  ·refine Prt2.lst (s _ _ ez nz) (Vv (Jj pz') (.cons g3 .nil)) (λd' hd'=>?_) (by rw[ah];show _+1<=420;omega);rcases aw.mp hd' with hd'|hd'
   ·exact Nt ok n12 hz d' hd'
   ·rw[ay]at hd';subst hd';exact g4
 refine⟨_,rfl,_,rfl,_,rfl,Zo (by show 2<=1000;decide),λu3 hu3=>?_⟩;try dsimp only
 refine al2 B15 hu3 λH16 B16 S156 eu3 mu3=>?_;refine⟨Zo (by show 1<=1000;decide),λu4 hu4=>?_⟩;try dsimp only
 refine al2 B16 hu4 λH17 B17 S167 eu4 mu4=>?_;have S17:=(S15.trans S156).trans S167;refine⟨c,u4,_,_,rfl,rfl,fc S17,eu4,Zo (by show _+1<=1000;omega),λu5 hu5=>?_⟩;try dsimp only
 refine al2 B17 hu5 λH18 B18 S178 eu5 mu5=>?_;have S18:=S17.trans S178;refine⟨Zo (by show 2<=1000;decide),λq9 h9=>?_⟩;try dsimp only
 refine al2 B18 h9 λH19 B19 S189 e9 m9=>?_;have S19:=S18.trans S189;have eu3':=S189 _ _ (S178 _ _ (S167 _ _ eu3 mu3) mu3) mu3;have o9:Odd K b T H19 (.ref q9):=spq H19 u5 q9 _ ys ss B19 S19 (S189 _ _ eu5 mu5) mu5 e9 m9 (fp S19) lk.s (by omega) λH' s=>by have h':=s _ _ eu3' mu3;refine⟨NY (s:=("q.q",at_)) ok ⟨u3,rfl,h'⟩ (XG gq),?_,sD ("q.q",at_),Mq ⟨u3,rfl,h'⟩,Kp gq (by show at_.natAbs<=1000;omega)⟩;rintro ⟨a2,x2,e,h2,y,hy,i2,ex,_⟩;cases e;rw[h']at h2;cases h2;injection ex with ex _;injection ex with ex;have hn:=(VY ok (j:=1) (.inl rfl) hy).nm;rw[(YD ok (j:=1) (.inl rfl) hy).1,<-ex]at hn;exact absurd hn (by decide +kernel)
 have catL:∀(Hi:Hp)(lS:Addr)(vs us:List V)(R:V->Hp->Prop),ZD Hi b->Zg b H3 Hi->Hi lS=some (.lst vs)->lS≠b->vs.length<=30->us.length<=3->(∀v∈vs,Odd K b T Hi v)->(∀u∈us,Odd K b T Hi u)->(∀H' l',ZD H' b->Zg b H3 H'->H' l'=some (.lst (vs++us))->l'≠b->(∀v∈vs++us,Odd K b T H' v)->(∀Hx,Hx l'=none->Zg b H3 Hx->Zg b Hx H'->(∀v∈vs++us,Odd K b T Hx v)->True)->(∃Hx,Hx l'=none/\Zg b H3 Hx/\Zg b Hx H'/\∀v∈vs++us,Odd K b T Hx v)->R (.ref l') H') ->us.length<=sizeLine/\∀q,Hi q=none->rCat (.ref lS) (.ref q) (upd Hi q (.lst us)) R:=λHi lS vs us R Bi Si eL nL lv lu o1 o2 kk=>by
  refine⟨Zo (by omega),λq hq=>?_⟩;refine al2 Bi hq λHj Bj Sj ej nj=>?_;refine⟨lS,q,vs,us,rfl,rfl,Sj _ _ eL nL,ej,Zo (by omega),λl' hl'=>?_⟩;refine al Bj hl' λHk Bk Sk ek nk=>?_;have oj:∀v∈vs++us,Odd K b T Hj v:=λv hv=>by
   rcases aw.mp hv with hv|hv
   ·exact(o1 v hv).later Sj
   ·exact(o2 v hv).later Sj
  exact kk _ l' Bk ((Si.trans Sj).trans Sk) ek nk (λv hv=>(oj v hv).later Sk) (λ_ _ _ _ _=>trivial) ⟨Hj,hl',Si.trans Sj,Sk,oj⟩
 have S1219:=((((((S123.trans S134).trans S145).trans S156).trans S167).trans S178).trans S189);refine catL H19 lS vs _ _ B19 S19 (S1219 _ _ eS mS) mS (by omega) (by show 2<=3;decide) (λv hv=>(od v hv).later S1219) (λv hv=>?_) λH20 lA B20 S20 eA mA od2 _ _=>?_
 ·simp only[ao,aF,or_false]at hv;rcases hv with rfl|rfl
  ·exact o8.later (((S156.trans S167).trans S178).trans S189)
  ·exact o9
 have lA9:(vs++[V.ref q8,.ref q9]).length=9:=by rw[ah,lvs];rfl
 generalize vs++[V.ref q8,.ref q9]=vA at eA od2 lA9;refine hk4 _ _ (tq λD5 hk5=>?_);clear hk4 o8 o9 od S1219 S189 S178 S167 S156 S145 S134 S123 S12 S13 S14 S15 S17 S18 S19 B12 B13 B14 B15 B16 B17 B18 B19 eu1 eu2 eu3 eu3' eu4 eu5 e8 e9 eS hu1 hu2 hu3 hu4 hu5 h8 h9;try dsimp only[Zt,az]
 have w20:=tw (S03.trans S20);refine⟨_,rfl,_,rfl,_,rfl,_,rfl,ixT 0 w20.at_ rfl ⟨_,_,rfl,rfl,Zo (by show 2<=1000;decide),λu6 hu6=>?_⟩⟩;try dsimp only
 refine al2 B20 hu6 λH21 B21 S201 eu6 mu6=>?_;refine⟨Zo (by show 1<=1000;decide),λu7 hu7=>?_⟩;try dsimp only
 refine al2 B21 hu7 λH22 B22 S212 eu7 mu7=>?_;have S22:=(S20.trans S201).trans S212;refine⟨c,u7,_,_,rfl,rfl,fc S22,eu7,Zo (by show _+1<=1000;omega),λu8 hu8=>?_⟩;try dsimp only
 refine al2 B22 hu8 λH23 B23 S223 eu8 mu8=>?_;refine⟨Zo (by show 2<=1000;decide),λq10 h10=>?_⟩;try dsimp only
 refine al2 B23 h10 λH24 B24 S234 e10 m10=>?_;have S24:=(S22.trans S223).trans S234;have eu6':=S234 _ _ (S223 _ _ (S212 _ _ eu6 mu6) mu6) mu6;have o10:Odd K b T H24 (.ref q10):=spq H24 u8 q10 _ ys ss B24 S24 (S234 _ _ eu8 mu8) mu8 e10 m10 (fp S24) lk.s (by omega) λH' s=>by have h':=s _ _ eu6' mu6;refine⟨NY (s:=(pl,T.n+1)) ok ⟨u6,rfl,h'⟩ (XG gpl),?_,sD (pl,T.n+1),Mq ⟨u6,rfl,h'⟩,Kp gpl (by show(T.n+1).natAbs<=1000;omega)⟩;rintro ⟨a2,x2,e,h2,y,hy,i2,ex,_,hi2⟩;cases e;rw[h']at h2;cases h2;injection ex with _ ex;injection ex with ex _;injection ex with ex;omega
 refine⟨_,rfl,Zo (by show 1<=1000;decide),λu9 hu9=>?_⟩;try dsimp only
 refine al2 B24 hu9 λH25 B25 S245 eu9 mu9=>?_;have S25:=S24.trans S245;refine⟨c,u9,_,_,rfl,rfl,fc S25,eu9,Zo (by show _+1<=1000;omega),λu10 hu10=>?_⟩;try dsimp only
 refine al2 B25 hu10 λH26 B26 S256 eu10 mu10=>?_;refine⟨_,rfl,Zo (by show 2<=1000;decide),λq11 h11=>?_⟩;try dsimp only
 refine al2 B26 h11 λH27 B27 S267 e11 m11=>?_;have S27:=(S25.trans S256).trans S267;have o11:Odd K b T H27 (.ref q11):=λH' s=>by
  have hu:=s _ _ (S267 _ _ eu10 mu10) mu10;have fpp:=fp (S27.trans s);refine K7 (s _ _ e11 m11) hu (fa (S27.trans s)) (by rw[ah];show _+1<=400;omega) (by rw[lm];omega) (λe he=>?_) ⟨.int 0,aR _ (ay.mpr rfl),rfl⟩ ?_ (PA (S27.trans s))
  ·rcases aw.mp he with he|he
   ·obtain⟨j,hj⟩:=aU.mp he;obtain⟨z,hz,a2,rfl,ha2⟩:=Yz fpp hj;exact⟨_,.tup ha2⟩
   ·rw[ay]at he;subst he;exact⟨_,.int _⟩
  ·refine Prt2.lst hu (Vv (Jj fpp) (.cons (.int _) .nil)) (λd hd=>?_) (by rw[ah];show _+1<=420;omega);rcases aw.mp hd with hd|hd
   ·exact Nt ok n12 lk.s d hd
   ·rw[ay]at hd;subst hd;exact Lm (by decide)
 have S2027:=((((((S201.trans S212).trans S223).trans S234).trans S245).trans S256).trans S267);refine catL H27 lA vA _ _ B27 S27 (S2027 _ _ eA mA) mA (by omega) (by show 2<=3;decide) (λv hv=>(od2 v hv).later S2027) (λv hv=>?_) λH28 lB B28 S28 eB mB od3 _ _=>?_
 ·simp only[ao,aF,or_false]at hv;rcases hv with rfl|rfl
  ·exact o10.later ((S245.trans S256).trans S267)
  ·exact o11
 have lB9:(vA++[V.ref q10,.ref q11]).length=11:=by rw[ah,lA9];rfl
 generalize vA++[V.ref q10,.ref q11]=vB at eB od3 lB9;refine hk5 _ _ (tq λD6 hk6=>?_);clear hk5 o10 o11 od2 S2027 S267 S256 S245 S234 S223 S212 S201 S20 S22 S24 S25 S27 B20 B21 B22 B23 B24 B25 B26 B27 eu6 eu6' eu7 eu8 eu9 eu10 e10 e11 eA hu6 hu7 hu8 hu9 hu10 h10 h11 w20;try dsimp only[Zt,az]
 refine⟨_,rfl,_,rfl,_,rfl,c,rfl,⟨_,SqL.of (fc S28)⟩,?_⟩;have lzip:(ys.zip ss).length=ys.length:=by rw[List.length_zip];omega
 refine V3 (J:=Itl K c) (ys.zip ss) (Zo (by omega)) (λq=>decide (q.2≠(pl,1))) (λq=>q.1) (λτ=>∃v1,τ=[v1,some (.str pl)]) ⟨none,rfl⟩ (λj H' hj sm=>⟨_,ys[j]'(by omega),SqL.of (sm _ _ (fc S28)),gE _⟩) (λH' sm=>⟨_,SqL.of (sm _ _ (fc S28)),by omega⟩) (λj x τ u H' H'' hx st sm yl N1 N2 h1 h2=>?_) ?_
 ·obtain⟨v1,rfl⟩:=st;obtain⟨rfl,hy⟩:=yl;have hu:=hy _ (SqL.of (sm _ _ (fc S28)));obtain⟨e1,e2⟩:=List.getElem?_zip_eq_some.mp hx;rw[e1]at hu;cases hu;have sp:=(XD (fp S28) e1 e2).same sm;refine⟨_,rfl,_,rfl,Zo (by show 2<=1000;decide),λq hq=>?_⟩;have Sq:Same H'' (upd H'' q (.tup [.str pl,.int 1])):=sameNew (Same.refl _) hq;refine⟨_,_,Mq (sp.same Sq),Mq (s:=(pl,1)) ⟨q,rfl,Zf⟩,Me (UO ok (lk.s _ (au e2))),Me gpl,_,rfl,?_⟩;rw[W4,<-decide_not];exact Xh (λe=>⟨_,rfl,h1 e _ _ ⟨_,rfl⟩ (sm.trans Sq)⟩) (λe=>h2 e _ _ ⟨_,rfl⟩ (sm.trans Sq))
 intro H29 sm lZ hZ;have S29:=S28.trans (Zg.of sm (b:=b));have B29:=B28.same sm;have pz:=PU (λz:Spt=>decide (z≠(pl,1))) (fp S29);obtain⟨zs,ezs⟩:∃zs,zs=((ys.zip ss).filter λq=>decide (q.2≠(pl,1))).map (·.1):=⟨_,rfl⟩;obtain⟨sf,esf⟩:∃sf,sf=ss.filter λz=>decide (z≠(pl,1)):=⟨_,rfl⟩;have lsf:sf.length<=ss.length:=by rw[esf];exact bg _ _
 have hsf:∀z∈sf,XZ T z:=λz hz=>by rw[esf]at hz;exact lk.s z (a7.mp hz).1
 replace pz:bo (SpAt H29) zs sf:=by rw[ezs,esf];exact pz
 rw[show(((ys.zip ss).filter λq=>decide (q.2≠(pl,1))).map λq=>q.1)=zs from ezs.symm];have lz:=aL pz;clear ezs esf lzip;try dsimp only
 refine al2 B29 hZ λH30 B30 S2930 eZ mZ=>?_;have S30:=S29.trans S2930;refine⟨_,rfl,Zo (by show 2<=1000;decide),λu11 hu11=>?_⟩;try dsimp only
 refine al2 B30 hu11 λH31 B31 S301 eu11 mu11=>?_;refine⟨Zo (by show 1<=1000;decide),λu12 hu12=>?_⟩;try dsimp only
 refine al2 B31 hu12 λH32 B32 S312 eu12 mu12=>?_;refine⟨lZ,u12,_,_,rfl,rfl,(S301.trans S312) _ _ eZ mZ,eu12,Zo (by show _+1<=1000;omega),λu13 hu13=>?_⟩;try dsimp only
 refine al2 B32 hu13 λH33 B33 S323 eu13 mu13=>?_;refine⟨Zo (by show 2<=1000;decide),λq12 h12=>?_⟩;try dsimp only
 refine al2 B33 h12 λH34 B34 S334 e12 m12=>?_;have S3034:=((S301.trans S312).trans S323).trans S334;have S34:=S30.trans S3034;have eu11':=((S312.trans S323).trans S334) _ _ eu11 mu11;have o12:Odd K b T H34 (.ref q12):=spq H34 u13 q12 _ zs sf B34 S34 (S334 _ _ eu13 mu13) mu13 e12 m12 (Paired.mapP pz λ_ _ q=>q.sameB B29 (S2930.trans S3034)) hsf (by omega) λH' s=>by
  have h':=s _ _ eu11' mu11;refine⟨.inr ⟨u11,_,rfl,h',by show 2<=1000;decide,λv hv=>?_⟩,?_,.tuple [.str pl,.bool true],.tup h' (.cons (.str _) (.cons (.bl _) .nil)),?_⟩
  ·simp only[ao,aF,or_false]at hv;rcases hv with rfl|rfl
   ·exact⟨_,.str _ (XG gpl)⟩
   ·exact⟨_,.bl _⟩
  ·rintro ⟨a2,x2,e,h2,y,hy,i2,ex,_⟩;cases e;rw[h']at h2;cases h2;injection ex with _ ex;injection ex with ex _;cases ex
  ·refine(SmAll.tup (SmAll.of (ds:=[.str pl,.bool true]) (k:=0) (m:=12) λd hd=>?_) (n:=2) (by show 2<=2;decide)).mono (by decide) (by decide);simp only[ao,aF,or_false]at hd;rcases hd with rfl|rfl
   ·exact Atm.sm (.str gpl)
   ·exact Em true
 refine⟨_,rfl,_,rfl,Zo (by show 1<=1000;decide),λu14 hu14=>?_⟩;try dsimp only
 refine al2 B34 hu14 λH35 B35 S345 eu14 mu14=>?_;have S35:=S34.trans S345;refine⟨c,u14,_,_,rfl,rfl,fc S35,eu14,Zo (by show _+1<=1000;omega),λu15 hu15=>?_⟩;try dsimp only
 refine al2 B35 hu15 λH36 B36 S356 eu15 mu15=>?_;refine⟨Zo (by show 2<=1000;decide),λq13 h13=>?_⟩;try dsimp only
 refine al2 B36 h13 λH37 B37 S367 e13 m13=>?_;have S37:=(S35.trans S356).trans S367;have o13:Odd K b T H37 (.ref q13):=spq H37 u15 q13 _ ys ss B37 S37 (S367 _ _ eu15 mu15) mu15 e13 m13 (fp S37) lk.s (by omega) λH' s=>⟨.inl ⟨_,.non,by decide⟩,(λ hZ=>by obtain⟨a2,_,e,_⟩:=hZ;cases e),.none,.non,(Atm.sm .non).mono (by decide) (by decide)⟩;have S2837:=(((((Zg.of sm (b:=b)).trans S2930).trans S3034).trans S345).trans S356).trans S367;refine catL H37 lB vB _ _ B37 S37 (S2837 _ _ eB mB) mB (by omega) (by show 2<=3;decide) (λv hv=>(od3 v hv).later S2837) (λv hv=>?_) λH38 lC B38 S38 eC mC od4 _ _=>?_
 ·simp only[ao,aF,or_false]at hv;rcases hv with rfl|rfl
  ·exact o12.later ((S345.trans S356).trans S367)
  ·exact o13
 have lC9:(vB++[V.ref q12,.ref q13]).length=13:=by rw[ah,lB9];rfl
 generalize vB++[V.ref q12,.ref q13]=vC at eC od4 lC9;refine hk6 _ _ (tq λD7 hk7=>?_);clear hk6 o12 o13 od3 S2837 S367 S356 S345 S3034 S334 S323 S312 S301 S2930 S28 S29 S30 S34 S35 S37 B28 B29 B30 B31 B32 B33 B34 B35 B36 B37 eu11 eu11' eu12 eu13 eu14 eu15 e12 e13 eB hu11 hu12 hu13 hu14 hu15 h12 h13 hZ eZ sm pz;try dsimp only[Zt,az]
 refine⟨_,rfl,_,rfl,_,rfl,_,rfl,_,rfl,Zo (by show 2<=1000;decide),λu16 hu16=>?_⟩;try dsimp only
 refine al2 B38 hu16 λH39 B39 S389 eu16 mu16=>?_;refine⟨Zo (by show 1<=1000;decide),λu17 hu17=>?_⟩;try dsimp only
 refine al2 B39 hu17 λH40 B40 S390 eu17 mu17=>?_;have S40:=(S38.trans S389).trans S390;refine⟨c,u17,_,_,rfl,rfl,fc S40,eu17,Zo (by show _+1<=1000;omega),λu18 hu18=>?_⟩;try dsimp only
 refine al2 B40 hu18 λH41 B41 S401 eu18 mu18=>?_;refine⟨Zo (by show 2<=1000;decide),λq14 h14=>?_⟩;try dsimp only
 refine al2 B41 h14 λH42 B42 S412 e14 m14=>?_;have S42:=(S40.trans S401).trans S412;have eu16':=((S390.trans S401).trans S412) _ _ eu16 mu16;have o14:Odd K b T H42 (.ref q14):=spq H42 u18 q14 _ ys ss B42 S42 (S412 _ _ eu18 mu18) mu18 e14 m14 (fp S42) lk.s (by omega) λH' s=>by
  have h':=s _ _ eu16' mu16;refine⟨.inl ⟨_,.lst h',by decide⟩,WR (.lst h') (by decide),.list [.str pl,.int at_],.lst h' (.cons (.str _) (.cons (.int _) .nil)),?_⟩;refine(SmAll.lst (SmAll.of (ds:=[.str pl,.int at_]) (k:=0) (m:=12) λd hd=>?_) (n:=2) (by show 2<=2;decide)).mono (by decide) (by decide);simp only[ao,aF,or_false]at hd;rcases hd with rfl|rfl
  ·exact Atm.sm (.str gpl)
  ·exact Atm.sm (.int (by omega))
 have grq:∀(Hi:Hp)(z q:Addr)(e:V),Zg b H3 Hi->Hi z=some (.lst (gs.map V.str++[e]))->z≠b->Hi q=some (.tup [.ref z,.ref c])->q≠b->isG T e=false->(∀H',Zg b Hi H'->(∃T',Th H' e T')/\∃d,Is H' e d/\Sm d 1 78)->Odd K b T Hi (.ref q):=λHi z q e Si ez nz eq nq hb hh H' s=>by
  obtain⟨⟨T',t1⟩,d,t2,t3⟩:=hh H' s;refine K7 (s _ _ eq nq) (s _ _ ez nz) (fc (Si.trans s)) (by rw[ah,lm];show _+1<=400;omega) (by omega) (λy hy=>?_) ⟨e,aR _ (ay.mpr rfl),hb⟩ ?_ (PC (Si.trans s))
  ·rcases aw.mp hy with hy|hy
   ·exact thG y hy
   ·rw[ay]at hy;subst hy;exact⟨_,t1⟩
  ·refine Prt2.lst (s _ _ ez nz) (Vv (Xl gs) (.cons t2 .nil)) (λd' hd'=>?_) (by rw[ah,lm];show _+1<=420;omega);rcases aw.mp hd' with hd'|hd'
   ·exact NG ok lk.g d' hd'
   ·rw[ay]at hd';subst hd';exact t3
 refine⟨_,rfl,Zo (by show 1<=1000;decide),λu19 hu19=>?_⟩;try dsimp only
 refine al2 B42 hu19 λH43 B43 S423 eu19 mu19=>?_;refine⟨Zo (by show 1<=1000;decide),λu20 hu20=>?_⟩;try dsimp only
 refine al2 B43 hu20 λH44 B44 S434 eu20 mu20=>?_;have S44:=(S42.trans S423).trans S434;refine⟨a,u20,_,_,rfl,rfl,fa S44,eu20,Zo (by rw[lm];show _+1<=1000;omega),λu21 hu21=>?_⟩;try dsimp only
 refine al2 B44 hu21 λH45 B45 S445 eu21 mu21=>?_;refine⟨_,rfl,Zo (by show 2<=1000;decide),λq15 h15=>?_⟩;try dsimp only
 refine al2 B45 h15 λH46 B46 S456 e15 m15=>?_;have S46:=(S44.trans S445).trans S456;have eu19':=((S434.trans S445).trans S456) _ _ eu19 mu19;have o15:Odd K b T H46 (.ref q15):=grq H46 u21 q15 _ S46 (S456 _ _ eu21 mu21) mu21 e15 m15 rfl λH' s=>by have h':=s _ _ eu19' mu19;refine⟨⟨_,.lst h'⟩,.list [.str "a"],.lst h' (.cons (.str _) .nil),?_⟩;refine(SmAll.lst (SmAll.of (ds:=[.str "a"]) (k:=0) (m:=12) λd hd=>?_) (n:=2) (by show 1<=2;decide)).mono (by decide) (by decide);rw[ay]at hd;subst hd;exact Atm.sm (.str ⟨by decide +kernel,by decide +kernel⟩)
 refine⟨_,rfl,Zo (by show 1<=1000;decide),λu22 hu22=>?_⟩;try dsimp only
 refine al2 B46 hu22 λH47 B47 S467 eu22 mu22=>?_;have S47:=S46.trans S467;refine⟨a,u22,_,_,rfl,rfl,fa S47,eu22,Zo (by rw[lm];show _+1<=1000;omega),λu23 hu23=>?_⟩;try dsimp only
 refine al2 B47 hu23 λH48 B48 S478 eu23 mu23=>?_;refine⟨_,rfl,Zo (by show 2<=1000;decide),λq16 h16=>?_⟩;try dsimp only
 refine al2 B48 h16 λH49 B49 S489 e16 m16=>?_;have S49:=(S47.trans S478).trans S489;have o16:Odd K b T H49 (.ref q16):=grq H49 u23 q16 _ S49 (S489 _ _ eu23 mu23) mu23 e16 m16 rfl λH' s=>⟨⟨_,.bl _⟩,.bool true,.bl _,(Em true).mono (by decide) (by decide)⟩;have S4249:=(((((S423.trans S434).trans S445).trans S456).trans S467).trans S478).trans S489;have S3849:=(((S389.trans S390).trans S401).trans S412).trans S4249;refine catL H49 lC vC _ _ B49 S49 (S3849 _ _ eC mC) mC (by omega) (by show 3<=3;decide) (λv hv=>(od4 v hv).later S3849) (λv hv=>?_) λH50 lE B50 S50 eE mE _ _ hHx=>?_
 ·simp only[ao,aF,or_false]at hv;rcases hv with rfl|rfl|rfl
  ·exact o14.later S4249
  ·exact o15.later ((S467.trans S478).trans S489)
  ·exact o16
 have lE9:(vC++[V.ref q14,.ref q15,.ref q16]).length=16:=by rw[ah,lC9];rfl
 generalize vC++[V.ref q14,.ref q15,.ref q16]=vE at eE hHx lE9;obtain⟨Hx,hxl,S3x,Sx50,od5⟩:=hHx;refine hk7 _ _ (tq λD8 hk8=>?_);clear hk7 o14 o15 o16 od4 S3849 S4249 S489 S478 S467 S456 S445 S434 S423 S412 S401 S390 S389 S38 S40 S42 S44 S46 S47 S49 B38 B39 B40 B41 B42 B43 B44 B45 B46 B47 B48 B49 eu16 eu16' eu17 eu18 eu19 eu19' eu20 eu21 eu22 eu23 e14 e15 e16 eC hu16 hu17 hu18 hu19 hu20 hu21 hu22 hu23 h14 h15 h16 spq grq catL;try dsimp only[Zt,az]
 have h3l:H3 lE=none:=YM S3x hxl mE;have x3:∀{H':Hp},Zg b Hx H'->Zg b H3 H':=λs=>S3x.trans s;have nil1:∀{xs:List V},(!decide (xs=[]))=true->xs≠[]:=λh e=>by rw[e]at h;cases h
 have sbl:∀{H' H'':Hp},Zg b H' H''->∀c o,H' c=some o->c≠b->c≠lE->H'' c=some o:=λs c o e hc _=>s c o e hc;have ob5:∀v∈vE,∀H',Zg b Hx H'->∀H'',(∀c o,H' c=some o->c≠b->c≠lE->H'' c=some o)->YT K H'' T v/\Sh H'' v:=λv hv H' s H'' s2=>od5 v hv H'' λc o e hc=>s2 c o (s c o e hc) hc (Zi e hxl);have fin:∀(H':Hp)(vX:List V),ZD H' b->Zg b Hx H'->H' lE=some (.lst vX)->0<vX.length->vX.length<=30->(∀v∈vX,∀H'',(∀c o,H' c=some o->c≠b->c≠lE->H'' c=some o)->YT K H'' T v/\Sh H'' v)->tRet (tOp (rIxL K) (tVar 7) (Mp Y2 [] E0 (Yl (tVar 0) (Yl (tCB (rLen K) (Yl (tVar 7) tNil)) tNil)))) {nx:=λx H'=>Q V.non H',rt:=Q} [some (V.ref b),some (V.ref p),some (V.ref pw),some (V.ref a),some (V.ref c),some (V.str pl),some (V.int at_),some (V.ref lE)] H':=λH' vX B' S' e' l0 l30 o'=>by refine⟨_,rfl,_,rfl,_,rfl,lE,_,rfl,.inl (SqL.of e'),b,_,rfl,B',by omega,ZT (by omega) (by omega),λr H'' r0 r1 B'' S''=>?_⟩;obtain⟨v',at',m'⟩:=at_of (xs:=vX) r0 r1;refine⟨lE,_,_,_,rfl,rfl,SqL.of (S'' _ _ e' mE),at',?_⟩;obtain⟨o1,o2⟩:=o' v' m' H'' (sbl S'');exact k H'' v' B'' ((S03.trans (x3 S')).trans S'') o1 o2
 have upE:∀{H':Hp}{o:HO},Zg b Hx H'->Zg b Hx (upd H' lE o):=λs c o' e hc=>by rw[Zj (Zi e hxl)];exact s c o' e hc
 have lastq:∀(H5:Hp)(q z x:Addr)(zs vX:List V)(ss':List Spt)(gs':List Str),H5 lE=some (.lst vX)->H5 q=some (.tup [.ref x,.ref z])->q≠b->H5 x=some (.lst (gs'.map V.str))->x≠b->x≠lE->H5 z=some (.lst zs)->z≠b->z≠lE->ZD H5 b->bo (SpAt H5) zs ss'->(∀g∈gs',g∈T.t4.map nameOf)->(∀s∈ss',XZ T s)->gs'.length<=400->ss'.length<=400->¬(gs'.Nodup/\ss'.Nodup)->∀H'',(∀c o,H5 c=some o->c≠b->c≠lE->H'' c=some o)->YT K H'' T (.ref q)/\Sh H'' (.ref q):=λH5 q z x zs vX ss' gs' hl eq nq ex nx nx' ez nz nz' Bi pz hg hs lg' ls' nd H'' s=>by have tl:∀{c':Addr}{xs:List V},H5 c'=some (.tup xs)->H'' c'=some (.tup xs):=λh=>s _ _ h (JJ Bi h) (ne_of h hl (λz=>nomatch z));have pz':bo (SpAt H'') zs ss':=Paired.mapP pz λ_ _⟨a2,e2,h2⟩=>⟨a2,e2,tl h2⟩;have lz:=aL pz;have ex':=s _ _ ex nx nx';have ez':=s _ _ ez nz nz';exact HL (tl eq) ex' ez' lg' (by omega) hg pz' hs nd (Prt2.lst ex' (Xl gs') (NG ok hg) (by rw[lm];omega)) (Prt2.lst ez' (Jj pz') (Nt ok n12 hs) (by omega))
 have h3x:∀{c':Addr}{u:HO},H3 c'=some u->c'≠lE:=λe=>Zi e h3l;have app:∀(H5:Hp)(vX:List V)(q:Addr),ZD H5 b->H5 lE=some (.lst vX)->(∀v∈vX,∀H'',(∀c o,H5 c=some o->c≠b->c≠lE->H'' c=some o)->YT K H'' T v/\Sh H'' v)->(∀H'',(∀c o,H5 c=some o->c≠b->c≠lE->H'' c=some o)->YT K H'' T (.ref q)/\Sh H'' (.ref q)) ->ZD (upd H5 lE (.lst (vX++[.ref q]))) b/\∀v∈vX++[.ref q],∀H'',(∀c o,upd H5 lE (.lst (vX++[.ref q])) c=some o->c≠b->c≠lE->H'' c=some o)->YT K H'' T v/\Sh H'' v:=λH5 vX q Bi hl o1 o2=>by
  refine⟨ZD.same_ne Bi mE,λv hv H'' s=>?_⟩;have s':∀c o,H5 c=some o->c≠b->c≠lE->H'' c=some o:=λc o e hc hl'=>s c o (by rw[Zj hl'];exact e) hc hl';rcases aw.mp hv with hv|hv
  ·exact o1 v hv H'' s'
  ·rw[ay]at hv;subst hv;exact o2 H'' s'
 have sec:∀(H':Hp)(vX:List V),ZD H' b->Zg b Hx H'->H' lE=some (.lst vX)->0<vX.length->vX.length<=20->(∀v∈vX,∀H'',(∀c o,H' c=some o->c≠b->c≠lE->H'' c=some o)->YT K H'' T v/\Sh H'' v)->D8.nx [some (V.ref b),some (V.ref p),some (V.ref pw),some (V.ref a),some (V.ref c),some (V.str pl),some (V.int at_),some (V.ref lE)] H':=λH' vX B' S' e' l0 l20 o'=>by
  refine hk8 _ _ (tq λD9 hk9=>?_);refine⟨_,rfl,Nat.zero_le _,λle he=>?_⟩;have hc':=fc (x3 S');refine⟨_,_,_,rfl,rfl,SqL.of ((Zj (Zi hc' he)).trans hc'),Zf,_,rfl,?_⟩;have S1:Zg b H' (upd H' le (.lst [])):=(Zg.refl b H').new' he;have B1:ZD (upd H' le (.lst [])) b:=B'.new he;try dsimp only
  generalize upd H' le (.lst [])=H1 at S1 B1 ⊢;have Sx:=S'.trans S1;have ex:=S1 _ _ e' mE;have ox:∀v∈vX,∀H'',(∀c o,H1 c=some o->c≠b->c≠lE->H'' c=some o)->YT K H'' T v/\Sh H'' v:=λv hv H'' s=>o' v hv H'' λc o e hc hl=>s c o (S1 c o e hc) hc hl;refine ite2 (λen=>?_) (λ_=>hk9 _ _ (fin H1 vX B1 Sx ex l0 (by omega) ox));have hne:=nil1 en;refine⟨_,rfl,.inl ⟨rfl,_,SqL.of ex⟩,_,rfl,_,rfl,_,rfl,_,rfl,_,rfl,c,_,rfl,SqL.of (fc (x3 Sx)),λu1 hu1=>?_⟩;try dsimp only
  refine al2E (congrArg HO.lst (LA ys hne)) B1 hu1 λH2 B2 S2 e2 m2=>?_;refine⟨c,u1,_,_,rfl,rfl,fc (x3 (Sx.trans S2)),e2,Zo (by rw[bf];omega),λu2 hu2=>?_⟩;have nu2:u2≠lE:=λz=>by rw[z,S2 _ _ ex mE]at hu2;cases hu2
  try dsimp only
  refine al2 B2 hu2 λH4 B4 S4 e4 m4=>?_;refine⟨Zo (by show 2<=1000;decide),λq hq=>?_⟩;try dsimp only
  refine al2 B4 hq λH5 B5 S5 e5 m5=>?_;have S15:=(S2.trans S4).trans S5;have Sx5:=Sx.trans S15;have ex5:=S15 _ _ ex mE;have fp5:=fp (x3 Sx5);have lss:0<ss.length:=by rw[<-ly];exact List.length_pos_iff.mpr hne
  have hdl:ss.drop (ss.length-1)=[ss[ss.length-1]]:=by rw[eR (by omega),dA (by omega)]
  have pz:=Y4 fp5 (J5 fp5 (ys.length-1));have oq:=lastq H5 q u2 a (ys++ys.drop (ys.length-1)) vX (ss++ss.drop (ys.length-1)) gs ex5 e5 m5 (fa (x3 Sx5)) na (h3x ha3) (S5 _ _ e4 m4) m4 nu2 B5 pz lk.g (λz hz=>by
   rcases aw.mp hz with hz|hz
   ·exact lk.s z hz
   ·exact lk.s z (fE hz)) (by omega) (by rw[ah,bf];omega) (λh=>by
   have:=h.2;rw[ly,hdl,cw]at this;exact this.2.2 _ (aD _) _ (ay.mpr rfl) rfl)
  obtain⟨B6,o6⟩:=app H5 vX q B5 ex5 (λv hv H'' s=>ox v hv H'' λc o e hc hl=>s c o (S15 c o e hc) hc hl) oq;refine⟨lE,vX,_,rfl,rfl,ex5,Nat.lt_of_le_of_lt (by omega:vX.length<=20) (by decide),?_⟩;exact hk9 _ _ (fin _ (vX++[.ref q]) B6 (upE Sx5) Zf (by simp) (by rw[ah];show _+1<=30;omega) o6)
 refine⟨_,rfl,Nat.zero_le _,λle he=>?_⟩;have ha':=fa (x3 Sx50);refine⟨_,_,_,rfl,rfl,SqL.of ((Zj (Zi ha' he)).trans ha'),Zf,_,rfl,?_⟩;have S1:Zg b H50 (upd H50 le (.lst [])):=(Zg.refl b H50).new' he;have B1:ZD (upd H50 le (.lst [])) b:=B50.new he;try dsimp only
 generalize upd H50 le (.lst [])=H1 at S1 B1 ⊢;have Sx:=Sx50.trans S1;have ex:=S1 _ _ eE mE;refine ite2 (λen=>?_) (λ_=>sec H1 vE B1 Sx ex (by omega) (by omega) λv hv=>ob5 v hv H1 Sx);have hne:=nil1 en;refine⟨_,rfl,.inl ⟨rfl,_,SqL.of ex⟩,_,rfl,_,rfl,_,rfl,a,_,rfl,SqL.of (fa (x3 Sx)),λu1 hu1=>?_⟩;try dsimp only
 refine al2E (congrArg HO.lst (Py (gs.map V.str) (i:=1) (by decide))) B1 hu1 λH2 B2 S2 e2 m2=>?_;refine⟨a,u1,_,_,rfl,rfl,fa (x3 (Sx.trans S2)),e2,Zo (by rw[aG,lm];omega),λu2 hu2=>?_⟩;have nu2:u2≠lE:=λz=>by rw[z,S2 _ _ ex mE]at hu2;cases hu2
 try dsimp only
 refine al2 B2 hu2 λH4 B4 S4 e4 m4=>?_;refine⟨_,rfl,Zo (by show 2<=1000;decide),λq hq=>?_⟩;try dsimp only
 refine al2 B4 hq λH5 B5 S5 e5 m5=>?_;have S15:=(S2.trans S4).trans S5;have Sx5:=Sx.trans S15;have ex5:=S15 _ _ ex mE;obtain⟨g0,gr,rfl⟩:∃g0 gr,gs=g0::gr:=by
  cases gs with
 |nil=>exact absurd rfl hne
 |cons g0 gr=>exact⟨g0,gr,rfl⟩
 have e4':H5 u2=some (.lst (((g0::gr)++[g0]).map V.str)):=by have:=S5 _ _ e4 m4;rw[aI];exact this
 have oq:=lastq H5 q c u2 ys vE ss ((g0::gr)++[g0]) ex5 e5 m5 e4' m4 nu2 (fc (x3 Sx5)) nc (h3x hc3) B5 (fp (x3 Sx5)) (λg hg=>by
  rcases aw.mp hg with hg|hg
  ·exact lk.g g hg
  ·rw[ay]at hg;subst hg;exact lk.g _ aE) lk.s (by rw[ah];show _+1<=400;omega) (by omega) (λh=>by
  have:=h.1;rw[cw]at this;exact this.2.2 _ aE _ (ay.mpr rfl) rfl)
 obtain⟨B6,o6⟩:=app H5 vE q B5 ex5 (λv hv=>ob5 v hv H5 Sx5) oq;refine⟨lE,vE,_,rfl,rfl,ex5,Nat.lt_of_le_of_lt (by omega:vE.length<=20) (by decide),?_⟩;exact sec _ (vE++[.ref q]) B6 (upE Sx5) Zf (by simp) (by rw[ah];show _+1<=20;omega) o6
theorem str_len{i:Int}(h:i.natAbs<=10 ^ 9):(Str.ofString (toString i)).length<=1000:=by
 have e:∀n:Nat,n<=10 ^ 9->(Nat.toDigits 10 n).length<=10:=λn hn=>(Nat.length_toDigits_le_iff (b:=10) (by decide) (by decide)).mpr (by omega);have hs:∀s:String,(Str.ofString s).length=s.length:=λs=>PySem.ofString_length s;rw[hs];cases i with
|ofNat n=>
  show(toString n).length<=1000;have:=e n h;have h2:(toString n).length=(Nat.toDigits 10 n).length:=by simp[toString,Nat.repr]
  omega
|negSucc n=>
  show("-"++toString (n+1)).length<=1000;have:=e (n+1) h;have h2:(toString (n+1)).length=(Nat.toDigits 10 (n+1)).length:=by simp[toString,Nat.repr]
  rw[String.length_append];have:("-":String).length=1:=by decide
  omega
theorem Ta{i:Int}(h:i.natAbs<=10 ^ 9):i.natAbs.log2<1920:=by
 by_cases e:i.natAbs=0
 ·rw[e];decide
 ·exact Nat.lt_of_lt_of_le ((Nat.log2_lt e).mpr (Nat.lt_of_le_of_lt h (by decide:10 ^ 9<2 ^ 40))) (by decide)
theorem HD{T:Tb}(o:OkTb T){S:Sx}(h:S∈Yj T):0<=rmI S/\rmI S<=1000:=by
 unfold Yj at h;simp only[aw,bJ,af]at h;rcases h with(⟨y,hy,rfl⟩|⟨y,hy,h⟩)|⟨y,hy,h⟩
 ·obtain⟨a,b,d,c,e,f,rfl,_,_,_,_,_,_,f0,f1⟩:=Rb o hy;exact⟨f0,f1⟩
 ·obtain⟨m,_,rfl⟩:=af.mp h;obtain⟨a,b,c,d,e,rfl,_,_,_,_,_,e0,e1⟩:=Sy o hy;exact⟨e0,e1⟩
 ·unfold ZM at h;split at h
  ·cases h
  rename_i hne;obtain⟨m,_,rfl⟩:=af.mp h;obtain⟨⟨nm,rm⟩,rfl,_,hr⟩:=Xo o hy;cases rm with
 |none=>exact absurd rfl hne
 |some i=>exact hr i rfl
theorem WX{l:List Int}(h:∀x∈l,0<=x/\x<=1000):0<=l.sum/\l.sum<=1000*l.length:=by
 induction l with
|nil=>simp
|cons a l ih=>have h1:=h a aE;have h2:=ih λx hx=>h x (av _ hx);rw[bQ,aW];push_cast;omega
theorem DP{T:Tb}(o:OkTb T){gs:List Str}{ss:List Spt}{i m:Int}(h:YI T i gs ss=some m):0<=m/\m<=10 ^ 8:=by
 have hb:0<=byd T gs/\byd T gs<=1000*300:=by
  unfold byd;have:=WX (l:=(T.t4.filter λy=>!decide (nameOf y∈gs)).map ZC) λx hx=>by obtain⟨y,hy,rfl⟩:=af.mp hx;obtain⟨a,b,c,d,rfl,_,_,_,_,d0,d1⟩:=YY o (a7.mp hy).1;exact⟨d0,by show d<=1000;omega⟩
  rw[lm]at this;have l1:(T.t4.filter λy=>!decide (nameOf y∈gs)).length<=300:=Nat.le_trans (bg _ _) (YC o).2.2.2;omega
 have hs:0<=sumR gs ss (Yj T)/\sumR gs ss (Yj T)<=1000*3000:=by
  unfold sumR;have:=WX (l:=((Yj T).filter (crs gs ss)).map rmI) λx hx=>by obtain⟨S,hS,rfl⟩:=af.mp hx;exact HD o (a7.mp hS).1
  rw[lm]at this;have l1:((Yj T).filter (crs gs ss)).length<=3000:=Nat.le_trans (bg _ _) (by have pl:=Vs o;unfold Yj;rw[ah,ah];omega);omega
 unfold YI acr at h;split at h
 ·cases h
 ·split at h
  ·cases h
  ·have:sumR gs ss (Yj T)+byd T gs=m:=aB h;omega
theorem Qv{H H':Hp}{v:V}{d:PyData}(s:Same H H')(h:IsX H v d):IsX H' v d:=by
 cases h with
|of h=>exact .of (h.same s)
|dk e=>exact .dk (s _ _ e)
def Asks(K:aa)(H:Hp)(T:Tb)(tv v nv:V)(due:Bool):Prop:=(∃T1,Th H tv T1)/\(∃T2,Th H nv T2)/\Sh H v /\((K1.Zx tv 0 T.n=false/\due=false)\/(K1.Zx tv 0 T.n=true/\K1.Mj nv=false/\due=false)\/∃i m:Int,tv=.int i/\nv=.int m/\0<=i/\i<=T.n/\((YT K H T v/\due=false)\/∃gs ss,Z3 H T v gs ss/\due=decide (YI T i gs ss=some m)))
theorem Asks.same{K:aa}{H H':Hp}{T:Tb}{tv v nv:V}{due:Bool}(s:Same H H')(h:Asks K H T tv v nv due):Asks K H' T tv v nv due:=by
 obtain⟨⟨T1,t1⟩,⟨T2,t2⟩,⟨d,i,sw⟩,h⟩:=h;refine⟨⟨T1,t1.same s⟩,⟨T2,t2.same s⟩,⟨d,Qv s i,sw⟩,?_⟩;rcases h with h|h|⟨i,m,e1,e2,i0,i1,⟨b,e⟩|⟨gs,ss,g,e⟩⟩
 ·exact .inl h
 ·exact .inr (.inl h)
 ·exact .inr (.inr ⟨i,m,e1,e2,i0,i1,.inl ⟨b.same s,e⟩⟩)
 ·exact .inr (.inr ⟨i,m,e1,e2,i0,i1,.inr ⟨gs,ss,g.same s,e⟩⟩)
theorem Asks.line{K:aa}{C t:Addr}{H:Hp}{T:Tb}{tv v nv:V}{due:Bool}{Q:VK}{E:XK}(h:Asks K H T tv v nv due)(tel:Tel H C t T)(ok:OkTb T)(k:∀H',Same H H'->Q (.bl due) H'):JU K C [.ref t,tv,v,nv] H Q E:=by
 obtain⟨⟨T1,t1⟩,⟨T2,t2⟩,_,h⟩:=h;refine⟨t,tv,v,nv,T,T1,T2,rfl,tel,ok,t1,t2,?_⟩;rcases h with⟨a,rfl⟩|⟨a,b,rfl⟩|⟨i,m,e1,e2,i0,i1,⟨b,rfl⟩|⟨gs,ss,g,rfl⟩⟩
 ·exact .inl ⟨a,k _ (Same.refl _)⟩
 ·exact .inr (.inl ⟨a,b,k _ (Same.refl _)⟩)
 ·exact .inr (.inr ⟨i,m,e1,e2,i0,i1,.inl ⟨b,k⟩⟩)
 ·exact .inr (.inr ⟨i,m,e1,e2,i0,i1,.inr ⟨gs,ss,g,k⟩⟩)
def Sr(K:aa)(C:Addr):Sp:=λvs H Q _=>∃(t pw d b l1 l2 l3 l4:Addr)(T:Tb)(H0:Hp),vs=[.ref t,.ref pw,.ref d,.ref b]/\Bx H0 H b/\Tel H0 C t T/\WAt H0 pw T l1 l2 l3 l4/\Dc H0 d (allS T)/\OkTb T/\Wd T/\∀H',ZD H' b->Zg b H H'->Q (.bl true) H'
theorem orN{K:aa}{L:Option Int}{n:Nat}{σ:L2.St}{H:Hp}{Q:VK}(hσ:∀Q':VK,Q' (optV L) H->tVar n σ H Q')(h:Q (.int (L.getD 0)) H):tOrX K (tVar n) (tC (.int 0)) σ H Q:=by
 refine hσ _ ⟨decide (L.getD 0≠0),?_,?_⟩
 ·cases L with
 |none=>rfl
 |some i=>show decide (i≠0)=(i != 0);by_cases e:i=0<;>simp[e]
 ·refine ite2 (λe=>?_) (λe=>?_)
  ·cases L with
  |none=>simp at e
  |some i=>exact h
  ·have e':L.getD 0=0:=by simpa using e
   rw[e']at h;exact h
theorem ZE:FnScope ["_law_table",q_w,"_law_steps_here",q_b,"_law_groups","_law_spots","_law_turn","_law_line_here","_law_way_here","_law_number","_law_due","_law_handed","_law_found"] ["_law_table",q_w,"_law_steps_here",q_b] (Zd T.f__law_asked):=scO
theorem RO(B:∀x∈Blts,mg x=none)(Z:TCl K C)(CT:Can P w K mg base 1 "_law_take" [q_b,"_law_many"] Y2)(CL:Can P w K mg base 2 "_law_line" [q_b,q_w] Ka)(CN:Can P w K mg base 2 "_law_near" [q_b,"_law_line_here",q_w,"_law_turn"] spNL)(CE:Can P w K mg base 1 "_law_lets" [q_w,"_law_steps_here","_law_turn","_law_line_here"] (spLL P w))(CO:Can P w K mg base 2 "_law_other" [q_b,"_law_line_here",q_w] (R9 K))(CI:Can P w K mg base 8 "is_line" ["table","turn","line","number"] (JU K C))(D:Df K mg "_law_asked" T.f__law_asked ["_law_table",q_w,"_law_steps_here",q_b]):Can P w K mg base 9 "_law_asked" ["_law_table",q_w,"_law_steps_here",q_b] (Sr K C):=by
 refine D.cn ZE λf cdv A outer s H vs Q E hr h=>?_;obtain⟨t,pw,d,b,l1,l2,l3,l4,T,H0,rfl,bx0,tel,wt,dc,ok,wd,k⟩:=h;refine' ⟨_,(@Za _ _ _ _ _ ?h24 (@Za _ _ _ _ _ ?h25 (@Za _ _ _ _ _ ?h26 (@Za _ _ _ _ _ ?h27 (@Za _ _ _ _ _ ?h28 (@Za _ _ _ _ _ ?h29 (@Za _ _ _ _ _ ?h30 (@Za _ _ _ _ _ ?h31 (@Za _ _ _ _ _ ?h32 (@Za _ _ _ _ _ ?h33 (@Za _ _ _ _ _ ?h34 (@Za _ _ _ _ _ ?h35 (@Za _ _ _ _ _ ?h36 (@Za _ _ _ _ _ ?h37 (@Za _ _ _ _ _ ?h38 (@Za _ _ _ _ _ ?h39 (@Ze _ _ _ ?h40))))))))))))))))),?rd⟩;case' h40=>refine' (Zn (@Yp _ _ _ _ _ _ _ _ Xd (cn CI hr (@Zc _ _ _ _ _ (pv 0) (@pa3 _ _ _ _ _ _ _ (pv 6) (pv 7) (pv 9) (by rfl)) (by rfl))) (pv 10) (ZA _)))
 case' h39=>refine' (@ZF _ _ _ _ _ _ _ _ (PW.pt (JN (Z9 (ZZ (X1 (c:="bool") (pv 12) rfl (bm B) rfl (bm B) Ts))) (JN (@Zq _ _ _ _ _ _ _ _ MJ (pv 12) (pv 10) (ZA _)) (XC (@Zq _ _ _ _ _ _ _ _ MJ (Zy (M5 hr) rfl (bm B) gH (@pa1 _ _ _ (pv 7) (by rfl))) (pv 11) (ZA _)))))) (@Ze _ _ _ ?h23) Zr)
 case' h38=>refine' (@st _ _ _ _ 12 _ _ ZE.nd (cn CI hr (@Zc _ _ _ _ _ (pv 0) (@pa3 _ _ _ _ _ _ _ (pv 6) (pv 7) (pv 9) (by rfl)) (by rfl))) (by rfl) (by exact aK rfl) (by rfl) (by exact .inl rfl))
 case' h37=>refine' (@st _ _ _ _ 11 _ _ ZE.nd (Zy (M5 hr) rfl (bm B) gH (@pa1 _ _ _ (pv 7) (by rfl))) (by rfl) (by exact aK rfl) (by rfl) (by exact .inl rfl))
 case' h36=>refine' (@ZF _ _ _ _ _ _ _ _ (@Zq _ _ _ _ _ _ _ _ Xd (pv 8) Zb (ZA _)) (@Za _ _ _ _ _ ?h21 (@Ze _ _ _ ?h22)) Zr)
 case' h35=>refine' (@ZF _ _ _ _ _ _ _ _ (@Zq _ _ _ _ _ _ _ _ Xd (pv 8) Zb (ZA _)) (@Za _ _ _ _ _ ?h16 (@Ze _ _ _ ?h17)) Zr)
 case' h34=>refine' (@ZF _ _ _ _ _ _ _ _ (@Zq _ _ _ _ _ _ _ _ Xd (pv 8) Zb (ZA _)) (@Za _ _ _ _ _ ?h11 (@Ze _ _ _ ?h12)) Zr)
 case' h33=>refine' (@st _ _ _ _ 10 _ _ ZE.nd (Xk (pv 10) (YF (@Yp _ _ _ _ _ _ _ _ Xd (pv 9) (cn CE hr (@Zc _ _ _ _ _ (pv 1) (@pa3 _ _ _ _ _ _ _ (pv 2) (pv 6) (pv 7) (by rfl)) (by rfl))) (ZA _)))) (by rfl) (by exact aK rfl) (by rfl) (by exact .inl rfl))
 case' h32=>refine' (@st _ _ _ _ 9 _ _ ZE.nd (Zp ZG (MI (pv 9) (YF Zb)) ?h10) (by rfl) (by exact aK rfl) (by rfl) (by exact .inl rfl))
 case' h31=>refine' (@st _ _ _ _ 10 _ _ ZE.nd (@Yp _ _ _ _ _ _ _ _ JA (pv 9) ZK (ZA _)) (by rfl) (by exact aK rfl) (by rfl) (by exact .inl rfl))
 case' h30=>refine' (@ZF _ _ _ _ _ _ _ _ (@Zq _ _ _ _ _ _ _ _ Xd (cn CT hr (@pa2 _ _ _ _ _ (pv 3) Zb (by rfl))) Zb (ZA _)) (@Ze _ _ _ ?h8) Zr)
 case' h29=>refine' (@st _ _ _ _ 9 _ _ ZE.nd (cn CE hr (@Zc _ _ _ _ _ (pv 1) (@pa3 _ _ _ _ _ _ _ (pv 2) (pv 6) (pv 7) (by rfl)) (by rfl))) (by rfl) (by exact aK rfl) (by rfl) (by exact .inl rfl))
 case' h28=>refine' (@ZF _ _ _ _ _ _ _ _ (@Zq _ _ _ _ _ _ _ _ Xd (pv 8) Zb (ZA _)) (@Ze _ _ _ ?h3) Zr)
 case' h27=>refine' (@ZF _ _ _ _ _ _ _ _ (@Zq _ _ _ _ _ _ _ _ Xd (pv 8) Zb (ZA _)) (@Ze _ _ _ ?h2) Zr)
 case' h26=>refine' (@st _ _ _ _ 8 _ _ ZE.nd (cn CT hr (@pa2 _ _ _ _ _ (pv 3) Zb (by rfl))) (by rfl) (by exact aK rfl) (by rfl) (by exact .inl rfl))
 case' h25=>refine' (@st _ _ _ _ 7 _ _ ZE.nd ?h1 (by rfl) (by exact aK rfl) (by rfl) (by exact .inl rfl))
 case' h24=>refine' (X0 (cn CL hr (@pa2 _ _ _ _ _ (pv 3) (pv 1) (by rfl))) (YE rfl (Zl (nmT 4 ZE.nd) (Zl (nmT 5 ZE.nd) (Zl (nmT 6 ZE.nd) Z0)))))
 case' h23=>refine' (Zn YW)
 case' h22=>refine' (@st _ _ _ _ 10 _ _ ZE.nd YW (by rfl) (by exact aK rfl) (by rfl) (by exact .inl rfl))
 case' h21=>refine' (@st _ _ _ _ 6 _ _ ZE.nd ?h20 (by rfl) (by exact aK rfl) (by rfl) (by exact .inl rfl))
 case' h20=>refine' (@il _ _ _ _ _ _ K ?h19 (cn CT hr (@pa2 _ _ _ _ _ (pv 3) Zb (by rfl))) (by rfl) (by exact λ_ _=>rfl))
 case' h19=>refine' (@Zz _ _ _ _ (@Zc _ _ _ _ _ (SF NU Zb) (@Zc _ _ _ _ _ (Zp ZG ?h18 Zb) (@Zc _ _ _ _ _ ZK (@pa3 _ _ _ _ _ _ _ YW YW (Yi UI rfl (bm B) PJ (@pa1 _ _ _ (pv 6) (by rfl))) (by rfl)) (by rfl)) (by rfl)) (by rfl)))
 case' h18=>refine' (@it _ _ _ _ _ _ K (pv 1) Zb (by rfl) (by exact λ_ _=>rfl))
 case' h17=>refine' (@st _ _ _ _ 10 _ _ ZE.nd YW (by rfl) (by exact aK rfl) (by rfl) (by exact .inl rfl))
 case' h16=>refine' (@st _ _ _ _ 9 _ _ ZE.nd ?h15 (by rfl) (by exact aK rfl) (by rfl) (by exact .inl rfl))
 case' h15=>refine' (@il _ _ _ _ _ _ K ?h14 (cn CT hr (@pa2 _ _ _ _ _ (pv 3) Zb (by rfl))) (by rfl) (by exact λ_ _=>rfl))
 case' h14=>refine' (@Zz _ _ _ _ (@Zc _ _ _ _ _ ZK (@Zc _ _ _ _ _ YW (@pa3 _ _ _ _ _ _ _ (Yi UI rfl (bm B) PJ (@pa1 _ _ _ (pv 9) (by rfl))) ?h13 YW (by rfl)) (by rfl)) (by rfl)))
 case' h13=>refine' (@Zz _ _ _ _ (@pa1 _ _ _ (pv 9) (by rfl)))
 case' h12=>refine' (@st _ _ _ _ 10 _ _ ZE.nd YW (by rfl) (by exact aK rfl) (by rfl) (by exact .inl rfl))
 case' h11=>refine' (@st _ _ _ _ 7 _ _ ZE.nd (cn CO hr (@pa3 _ _ _ _ _ _ _ (pv 3) (pv 7) (pv 1) (by rfl))) (by rfl) (by exact aK rfl) (by rfl) (by exact .inl rfl))
 case' h10=>refine' (@il _ _ _ _ _ _ K ?h9 (cn CT hr (@pa2 _ _ _ _ _ (pv 3) Zb (by rfl))) (by rfl) (by exact λ_ _=>rfl))
 case' h9=>refine' (@Zz _ _ _ _ (@Zc _ _ _ _ _ Zb (@Zc _ _ _ _ _ Zb (@Zc _ _ _ _ _ Zb (@pa3 _ _ _ _ _ _ _ Zb (SF NU Zb) Zb (by rfl)) (by rfl)) (by rfl)) (by rfl)))
 case' h8=>refine' (@st _ _ _ _ 7 _ _ ZE.nd ?h7 (by rfl) (by exact aK rfl) (by rfl) (by exact .inl rfl))
 case' h7=>refine' (@Zw _ _ _ _ _ (@pa2 _ _ _ _ _ (E7 ?h6 (SF NU Zb)) (Zp Z8 (YB (r:=rSlL K) Xw ?h4 (YZ Zb) Y0) (YB (r:=rSlL K) Xw ?h5 Y0 (YZ Zb))) (by rfl)))
 case' h6=>refine' (@it _ _ _ _ _ _ K (pv 7) Zb (by rfl) (by exact λ_ _=>rfl))
 case' h5=>refine' (@it _ _ _ _ _ _ K (pv 7) Zb (by rfl) (by exact λ_ _=>rfl))
 case' h4=>refine' (@it _ _ _ _ _ _ K (pv 7) Zb (by rfl) (by exact λ_ _=>rfl))
 case' h3=>refine' (@st _ _ _ _ 7 _ _ ZE.nd (cn CN hr (@Zc _ _ _ _ _ (pv 3) (@pa3 _ _ _ _ _ _ _ (cn CN hr (@Zc _ _ _ _ _ (pv 3) (@pa3 _ _ _ _ _ _ _ (pv 7) (pv 1) (pv 6) (by rfl)) (by rfl))) (pv 1) (pv 6) (by rfl)) (by rfl))) (by rfl) (by exact aK rfl) (by rfl) (by exact .inl rfl))
 case' h2=>refine' (@st _ _ _ _ 7 _ _ ZE.nd (cn CN hr (@Zc _ _ _ _ _ (pv 3) (@pa3 _ _ _ _ _ _ _ (pv 7) (pv 1) (pv 6) (by rfl)) (by rfl))) (by rfl) (by exact aK rfl) (by rfl) (by exact .inl rfl))
 case' h1=>refine' (@Zw _ _ _ _ _ (@pa2 _ _ _ _ _ (pv 4) (pv 5) (by rfl)))
 case' rd=>
 have n0:=ok.n0;have n12:=wd.n12;have hbb:=bx0.bx;have tw:∀{H':Hp},Zg b H H'->WAt H' pw T l1 l2 l3 l4:=λs=>wt.same (Ye bx0.fr bx0.sm s);have td:∀{H':Hp},Zg b H H'->Dc H' d (allS T):=λs=>dc.same (Ye bx0.fr bx0.sm s);have tt:∀{H':Hp},Zg b H H'->Tel H' C t T:=λs=>tel.same (Ye bx0.fr bx0.sm s);rw[show L2.start (["_law_table",q_w,"_law_steps_here",q_b,"_law_groups","_law_spots","_law_turn","_law_line_here","_law_way_here","_law_number","_law_due","_law_handed","_law_found"]:List Str) [V.ref t,V.ref pw,V.ref d,V.ref b]=[some (.ref t),some (.ref pw),some (.ref d),some (.ref b),none,none,none,none,none,none,none,none,none]from rfl];refine tq λD0 hk0=>?_;refine⟨_,rfl,_,rfl,b,pw,l1,l2,l3,l4,T,H0,rfl,bx0,wt,ok,wd,λH1 p a c ys gs ss i B1 S1 hp ha hc ps lk nd1 nd2 lg ls i0 i1=>?_⟩;refine⟨p,_,rfl,SqT.of hp,rfl,_,_,rfl,_,_,rfl,_,_,rfl,rfl,?_⟩;refine hk0 _ _ (tq λD1 hk1=>?_);clear hk0;try dsimp only[Zt,az]
 refine⟨_,rfl,_,rfl,Zo (by show 2<=1000;decide),λq hq=>?_⟩;try dsimp only[Zt,az]
 refine al B1 hq λH2 B2 S12 eq nq=>?_;have S2:=S1.trans S12;have g2:Z3 H2 T (.ref q) gs ss:=⟨q,a,c,ys,rfl,eq,S12 _ _ ha (Y1 B1 ha),S12 _ _ hc (Yk B1 hc ps),Paired.mapP ps λ_ _ z=>z.sameB B1 S12,lk,nd1,nd2,by omega,by omega⟩;refine hk1 _ _ (tq λD2 hk2=>?_);clear hk1 S12 S1 B1 hp ha hc ps hq eq nq;refine tkC B2 (λway H3 w0 w1 B3 S23=>?_);have S3:=S2.trans S23;have g3:=g2.sameB B2 S23;refine hk2 _ _ (tq λD3 hk3=>?_);clear hk2 S23 S2 B2 g2;try dsimp only[Zt,az]
 suffices s3:∀H' v gs ss,ZD H' b->Zg b H H'->Z3 H' T v gs ss->gs.length<=8->ss.length<=301->D3.nx [some (.ref t),some (.ref pw),some (.ref d),some (.ref b),some (.ref a),some (.ref c),some (.int i),some v,some (.int way),none,none,none,none] H' by refine⟨_,rfl,rfl,_,rfl,?_⟩;refine ite2 (λ_=>?_) (λ_=>s3 _ _ _ _ B3 S3 g3 lg (by omega));refine⟨_,rfl,_,rfl,_,rfl,_,rfl,b,pw,l1,l2,l3,l4,_,i,T,H0,gs,ss,rfl,bx0.to S3 B3,wt,ok,wd,g3,lg,by omega,i0,i1,λH' v' gs' ss' B' S' g' lg' ls'=>?_⟩;exact s3 _ _ _ _ B' (S3.trans S') g' lg' (by omega)
 clear B3 S3 g3 lg ls lk nd1 nd2 ys ss gs H3;intro H3 v gs ss B3 S3 g3 lg ls;refine hk3 _ _ (tq λD4 hk4=>?_);clear hk3;suffices s4:∀H' v gs ss,ZD H' b->Zg b H H'->Z3 H' T v gs ss->gs.length<=8->ss.length<=303->D4.nx [some (.ref t),some (.ref pw),some (.ref d),some (.ref b),some (.ref a),some (.ref c),some (.int i),some v,some (.int way),none,none,none,none] H' by refine⟨_,rfl,rfl,_,rfl,?_⟩;refine ite2 (λ_=>?_) (λ_=>s4 _ _ _ _ B3 S3 g3 lg (by omega));refine⟨_,rfl,_,rfl,_,rfl,_,rfl,_,rfl,b,pw,l1,l2,l3,l4,_,i,T,H0,gs,ss,rfl,bx0.to S3 B3,wt,ok,wd,g3,lg,by omega,i0,i1,λH' v' gs' ss' B' S' g' lg' ls'=>?_⟩;have S3':=S3.trans S';refine⟨_,rfl,_,rfl,b,pw,l1,l2,l3,l4,_,i,T,H0,gs',ss',rfl,bx0.to S3' B',wt,ok,wd,g',lg',by omega,i0,i1,λH2' v2' gs2' ss2' B2' S2' g2' lg2' ls2'=>?_⟩;exact s4 _ _ _ _ B2' (S3'.trans S2') g2' lg2' (by omega)
 clear B3 S3 g3 lg ls ss gs H3 v;intro H3 v gs ss B3 S3 g3 lg ls;refine hk4 _ _ (tq λD5 hk5=>?_);clear hk4;refine⟨_,rfl,_,rfl,_,rfl,_,rfl,pw,l1,l2,l3,l4,d,i,v,T,gs,ss,rfl,tw S3,ok,td S3,g3,λH4 sm4=>?_⟩;have S4:=S3.trans (Zg.of sm4);have B4:=B3.same sm4;have g4:=g3.same sm4;refine hk5 _ _ (tq λD6 hk6=>?_);clear hk5 g3 B3 S3 sm4;try dsimp only[Zt,az]
 obtain⟨L,eL⟩:∃L,L=YI T i gs ss:=⟨_,rfl⟩;rw[<-eL];suffices s6:∀H' v gs ss,ZD H' b->Zg b H H'->Z3 H' T v gs ss->gs.length<=8->ss.length<=303->L=YI T i gs ss->D6.nx [some (.ref t),some (.ref pw),some (.ref d),some (.ref b),some (.ref a),some (.ref c),some (.int i),some v,some (.int way),some (optV L),none,none,none] H' by
  refine tkC B4 (λr H5 _ _ B5 S45=>?_);have S5:=S4.trans S45;have g5:=g4.sameB B4 S45;refine⟨rfl,_,rfl,?_⟩;refine ite2 (λ_=>?_) (λ_=>s6 _ _ _ _ B5 S5 g5 lg ls eL);obtain⟨p,a',c',ys,rfl,hp,ha,hc,ps,lk,nd1,nd2,_,_⟩:=g5;have ly:=aL ps;refine ixT 0 hp rfl ⟨1,rfl,rfl,a',_,rfl,SqL.of ha,λx1 h1=>?_⟩;try dsimp only
  refine al2 B5 h1 λH6 B6 S56 e1 m1=>?_;have hp6:=S56 _ _ hp (JJ B5 hp);have hc6:=S56 _ _ hc (Yk B5 hc ps);have ps6:=Paired.mapP ps λ_ _ z=>z.sameB B5 S56;refine ixT 1 hp6 rfl ⟨_,rfl,c',ys,rfl,SqL.of hc6,λx2 h2=>?_⟩;try dsimp only
  refine al2E (congrArg HO.lst (Ur ys (i:=1) (by decide))) B6 h2 λH7 B7 S67 e2 m2=>?_;have S57:=S56.trans S67;refine ixT 1 (S57 _ _ hp (JJ B5 hp)) rfl ⟨_,rfl,c',ys,rfl,SqL.of (S67 _ _ hc6 (Yk B6 hc6 ps6)),λx3 h3=>?_⟩;try dsimp only
  refine al2E (congrArg HO.lst (Py ys (i:=1) (by decide))) B7 h3 λH8 B8 S78 e3 m3=>?_;refine⟨x2,x3,_,_,rfl,rfl,S78 _ _ e2 m2,e3,Zo (by rw[aG,bf];omega),λx4 h4=>?_⟩;try dsimp only
  refine al2 B8 h4 λH9 B9 S89 e4 m4=>?_;refine⟨Zo (by show 2<=1000;decide),λx5 h5=>?_⟩;try dsimp only[Zt,az]
  refine al B9 h5 λH10 B10 S910 e5 m5=>?_;have S810:=S89.trans S910;have S610:=(S67.trans S78).trans S810;have S510:=S56.trans S610;have hperm:∀s,s∈ss↔s∈ss.drop 1++ss.take 1:=λs=>by rw[aw,or_comm,<-aw,cg]
  refine s6 _ _ gs.reverse (ss.drop 1++ss.take 1) B10 (S5.trans S510) ⟨x5,x1,x4,_,rfl,e5,?_,S910 _ _ e4 m4,?_,⟨λg hg=>lk.g g (List.mem_reverse.mp hg),λs hs=>lk.s s ((hperm s).mpr hs)⟩,?_,?_,?_,?_⟩ (by rw[fO];exact lg) (by rw[ah,bf,aG];omega) (eL.trans (T6 (λg=>List.mem_reverse.symm) hperm i))
  ·rw[List.map_reverse];exact S610 _ _ e1 m1
  ·exact Paired.mapP (Y4 (J5 ps 1) (GZ ps 1)) λ_ _ z=>z.sameB B5 S510
  ·exact(List.reverse_perm gs).nodup_iff.mpr nd1
  ·have:(ss.drop 1++ss.take 1).Perm ss:=List.perm_append_comm.trans (by rw[cg]);exact this.nodup_iff.mpr nd2
  ·rw[fO];omega
  ·rw[ah,bf,aG];omega
 clear B4 S4 g4 lg ls eL ss gs H4 v H3;intro H4 v gs ss B4 S4 g4 lg ls eL;refine hk6 _ _ (tq λD7 hk7=>?_);clear hk6;refine⟨_,rfl,rfl,?_⟩;refine hk7 _ _ (tq λD8 hk8=>?_);clear hk7;try dsimp only[Zt,az]
 refine orN (L:=L) (λQ' q=>⟨_,rfl,q⟩) ?_;refine⟨1,rfl,Zo (by show 6<=1000;decide),λx1 h1=>?_⟩;try dsimp only
 refine al2 B4 h1 λH5 B5 S45 e1 m1=>?_;refine tkC B5 (λr H6 r0 r1 B6 S56=>?_);have S46:=S45.trans S56;have S6:=S4.trans S46;have g6:=g4.sameB B4 S46;have e6:=S56 _ _ e1 m1;suffices s8:∀δ:Int,-1<=δ->δ<=2->D8.nx [some (.ref t),some (.ref pw),some (.ref d),some (.ref b),some (.ref a),some (.ref c),some (.int i),some v,some (.int way),some (.int (L.getD 0+δ)),some (.bl (!decide (optV L=.non))),none,none] H6 by
  obtain⟨n,rfl⟩:=Int.eq_ofNat_of_zero_le r0;have:n=0\/n=1\/n=2\/n=3\/n=4\/n=5:=by omega
  rcases this with rfl|rfl|rfl|rfl|rfl|rfl
  ·exact⟨x1,_,_,_,rfl,rfl,SqL.of e6,Zu (j:=0) rfl,_,_,rfl,rfl,s8 0 (by decide) (by decide)⟩
  ·exact⟨x1,_,_,_,rfl,rfl,SqL.of e6,Zu (j:=1) rfl,_,_,rfl,rfl,s8 0 (by decide) (by decide)⟩
  ·exact⟨x1,_,_,_,rfl,rfl,SqL.of e6,Zu (j:=2) rfl,_,_,rfl,rfl,s8 0 (by decide) (by decide)⟩
  ·exact⟨x1,_,_,_,rfl,rfl,SqL.of e6,Zu (j:=3) rfl,_,_,rfl,rfl,s8 1 (by decide) (by decide)⟩
  ·exact⟨x1,_,_,_,rfl,rfl,SqL.of e6,Zu (j:=4) rfl,_,_,rfl,rfl,s8 (-1) (by decide) (by decide)⟩
  ·exact⟨x1,_,_,_,rfl,rfl,SqL.of e6,Zu (j:=5) rfl,_,_,rfl,rfl,s8 2 (by decide) (by decide)⟩
 intro δ d0 d1;refine hk8 _ _ (tq λD9 hk9=>?_);clear hk8 B4 S4 g4 S45 S56 S46 e6 r0 r1 h1 e1 m1 B5;have hm:(L.getD 0+δ).natAbs<=10 ^ 9:=by
  cases hL:L with
 |none=>show(0+δ).natAbs<=10 ^ 9;omega
 |some m=>have:=DP ok (eL.symm.trans hL);show(m+δ).natAbs<=10 ^ 9;omega
 suffices s9:∀H' ,ZD H' b->Zg b H H'->Z3 H' T v gs ss->∀due,due=decide (YI T i gs ss=some (L.getD 0+δ))->D9.nx [some (.ref t),some (.ref pw),some (.ref d),some (.ref b),some (.ref a),some (.ref c),some (.int i),some v,some (.int way),some (.int (L.getD 0+δ)),some (.bl due),none,none] H' by
  refine⟨_,rfl,_,rfl,?_⟩;refine ite2 (λe=>?_) (λe=>?_)
  ·cases hL:L with
  |none=>rw[hL]at e;simp[optV]at e
  |some m=>
    rw[hL]at s9;refine⟨_,rfl,_,rfl,_,rfl,_,rfl,_,rfl,pw,l1,l2,l3,l4,d,i,v,T,gs,ss,rfl,tw S6,ok,td S6,g6,λH7 sm=>?_⟩;rw[<-eL,hL];refine⟨rfl,?_⟩;refine s9 _ (B6.same sm) (S6.trans (Zg.of sm)) (g6.same sm) _ ?_;rw[<-eL,hL];show decide (V.int (m+δ)=.int m)=decide (some m=some (m+δ));refine decide_eq_decide.mpr ⟨λh=>?_,λh=>?_⟩
    ·injection h with h;rw[h]
    ·injection h with h;rw[<-h]
  ·refine s9 _ B6 S6 g6 _ ?_;rw[<-eL];cases L with
  |none=>rfl
  |some m=>simp[optV]at e
 clear B6 S6 g6 H6;generalize L.getD 0+δ=m at hm;clear eL L d0 d1 δ;intro H6 B6 S6 g6 due edue;refine hk9 _ _ (tq λD10 hk10=>?_);clear hk9 H5 H4;suffices s10:∀H' v due,ZD H' b->Zg b H H'->((way=2/\due=false/\YT K H' T v/\Sh H' v)\/(way≠2/\Z3 H' T v gs ss/\due=decide (YI T i gs ss=some m)))->D10.nx [some (.ref t),some (.ref pw),some (.ref d),some (.ref b),some (.ref a),some (.ref c),some (.int i),some v,some (.int way),some (.int m),some (.bl due),none,none] H' by
  refine⟨_,rfl,rfl,_,rfl,?_⟩;refine ite2 (λe=>?_) (λe=>s10 _ _ _ B6 S6 (.inr ⟨λh=>e (by rw[h];rfl),g6,edue⟩));have e2:way=2:=by simpa using e
  refine tq λD' hk'=>?_;refine⟨_,rfl,_,rfl,_,rfl,b,pw,l1,l2,l3,l4,v,T,H0,gs,ss,rfl,bx0.to S6 B6,wt,ok,wd,g6,lg,by omega,λH' v' B' S' bad sh=>?_⟩;refine hk' _ _ ?_;exact s10 _ _ _ B' (S6.trans S') (.inl ⟨e2,rfl,bad,sh⟩)
 clear B6 S6 g6 H6 edue due v;intro H6 v due B6 S6 st;refine hk10 _ _ (tq λD11 hk11=>?_);clear hk10;have hwi:K1.Zx (.int i) 0 T.n=true:=by show(decide (0<=i)&&decide (i<=T.n))=true;simp[i0,i1]
 suffices s11:∀H' nv due,ZD H' b->Zg b H H'->((way=4/\due=decide (YI T i gs ss=some m)/\nv=.int m/\Z3 H' T v gs ss)\/(way≠4/\Asks K H' T (.int i) v nv due))->D11.nx [some (.ref t),some (.ref pw),some (.ref d),some (.ref b),some (.ref a),some (.ref c),some (.int i),some v,some (.int way),some nv,some (.bl due),none,none] H' by
  refine⟨_,rfl,rfl,_,rfl,?_⟩;refine ite2 (λe=>?_) (λe=>?_)
  ·have e2:way=3:=by simpa using e
   have g6:Z3 H6 T v gs ss:=by
    rcases st with⟨h,_⟩|⟨_,g,_⟩
    ·omega
    ·exact g
   refine tq λD' hk'=>?_;refine⟨_,rfl,m,rfl,Ta hm,_,rfl,Zo (by show 1<=1000;decide),λx1 h1=>?_⟩;try dsimp only
   refine al2 B6 h1 λH7 B7 S67 e1 m1=>?_;refine⟨Zo (by show 5<=1000;decide),λx2 h2=>?_⟩;try dsimp only
   refine al2 B7 h2 λH8 B8 S78 e2' m2=>?_;refine tkC B8 (λr H9 r0 r1 B9 S89=>?_);have S79:=S78.trans S89;have S69:=S67.trans S79;have g9:=g6.sameB B6 S69;have e9:=S89 _ _ e2' m2;have f:∀nv T2,Th H9 nv T2->K1.Mj nv=false->D'.nx [some (.ref t),some (.ref pw),some (.ref d),some (.ref b),some (.ref a),some (.ref c),some (.int i),some v,some (.int way),some nv,some (.bl due),none,none] H9:=λnv T2 th wh=>by refine hk' _ _ ?_;exact s11 _ _ _ B9 (S6.trans S69) (.inr ⟨by omega,⟨_,.int i⟩,⟨T2,th⟩,g9.sh ok n12,.inr (.inl ⟨hwi,wh,rfl⟩)⟩)
   obtain⟨n,rfl⟩:=Int.eq_ofNat_of_zero_le r0;have:n=0\/n=1\/n=2\/n=3\/n=4:=by omega
   rcases this with rfl|rfl|rfl|rfl|rfl
   ·exact⟨x2,_,_,_,rfl,rfl,SqL.of e9,Zu (j:=0) rfl,f _ _ .non rfl⟩
   ·exact⟨x2,_,_,_,rfl,rfl,SqL.of e9,Zu (j:=1) rfl,f _ _ (.bl _) rfl⟩
   ·exact⟨x2,_,_,_,rfl,rfl,SqL.of e9,Zu (j:=2) rfl,f _ _ (.str _ (str_len hm)) rfl⟩
   ·exact⟨x2,_,_,_,rfl,rfl,SqL.of e9,Zu (j:=3) rfl,f _ _ (.lst (S79 _ _ e1 m1)) rfl⟩
   ·exact⟨x2,_,_,_,rfl,rfl,SqL.of e9,Zu (j:=4) rfl,f _ _ (.bl _) rfl⟩
  ·refine s11 _ _ _ B6 S6 ?_;rcases st with⟨h,rfl,bad,sh⟩|⟨h,g,ed⟩
   ·exact .inr ⟨by omega,⟨_,.int i⟩,⟨_,.int m⟩,sh,.inr (.inr ⟨i,m,rfl,rfl,i0,i1,.inl ⟨bad,rfl⟩⟩)⟩
   ·by_cases h4:way=4
    ·exact .inl ⟨h4,ed,rfl,g⟩
    ·exact .inr ⟨h4,⟨_,.int i⟩,⟨_,.int m⟩,g.sh ok n12,.inr (.inr ⟨i,m,rfl,rfl,i0,i1,.inr ⟨gs,ss,g,ed⟩⟩)⟩
 clear B6 S6 st due H6;intro H6 nv due B6 S6 st;refine hk11 _ _ (tq λD12 hk12=>?_);clear hk11;suffices s12:∀H' tv due,ZD H' b->Zg b H H'->Asks K H' T tv v nv due->D12.nx [some (.ref t),some (.ref pw),some (.ref d),some (.ref b),some (.ref a),some (.ref c),some tv,some v,some (.int way),some nv,some (.bl due),none,none] H' by
  refine⟨_,rfl,rfl,_,rfl,?_⟩;refine ite2 (λe=>?_) (λe=>?_)
  ·have e2:way=4:=by simpa using e
   obtain⟨rfl,g6⟩:nv=.int m/\Z3 H6 T v gs ss:=by
    rcases st with⟨_,_,e,g⟩|⟨h,_⟩
    ·exact⟨e,g⟩
    ·omega
   refine tq λD' hk'=>?_;have w6:=tw S6;have hmi:i.natAbs<=10 ^ 9:=by omega
   refine⟨1,rfl,ixT 0 w6.at_ rfl ⟨_,_,rfl,rfl,_,rfl,i,rfl,Ta hmi,Zo (by show 6<=1000;decide),λx2 h2=>?_⟩⟩;try dsimp only
   refine al2 B6 h2 λH8 B8 S68 e2' m2=>?_;refine tkC B8 (λr H9 r0 r1 B9 S89=>?_);have S69:=S68.trans S89;have g9:=g6.sameB B6 S69;have e9:=S89 _ _ e2' m2;have f:∀tv T2,Th H9 tv T2->K1.Zx tv 0 T.n=false->D'.nx [some (.ref t),some (.ref pw),some (.ref d),some (.ref b),some (.ref a),some (.ref c),some tv,some v,some (.int way),some (.int m),some (.bl due),none,none] H9:=λtv T2 th wh=>by refine hk' _ _ ?_;exact s12 _ _ _ B9 (S6.trans S69) ⟨⟨T2,th⟩,⟨_,.int m⟩,g9.sh ok n12,.inl ⟨wh,rfl⟩⟩
   obtain⟨n,rfl⟩:=Int.eq_ofNat_of_zero_le r0;have:n=0\/n=1\/n=2\/n=3\/n=4\/n=5:=by omega
   rcases this with rfl|rfl|rfl|rfl|rfl|rfl
   ·exact⟨x2,_,_,_,rfl,rfl,SqL.of e9,Zu (j:=0) rfl,f _ _ (.int _) rfl⟩
   ·exact⟨x2,_,_,_,rfl,rfl,SqL.of e9,Zu (j:=1) rfl,f _ _ (.int _) (by show(decide (0<=T.n+1)&&decide (T.n+1<=T.n))=false;rw[decide_eq_false (p:=T.n+1<=T.n) (by omega),Bool.and_false])⟩
   ·exact⟨x2,_,_,_,rfl,rfl,SqL.of e9,Zu (j:=2) rfl,f _ _ .non rfl⟩
   ·exact⟨x2,_,_,_,rfl,rfl,SqL.of e9,Zu (j:=3) rfl,f _ _ (.bl _) rfl⟩
   ·exact⟨x2,_,_,_,rfl,rfl,SqL.of e9,Zu (j:=4) rfl,f _ _ (.bl _) rfl⟩
   ·exact⟨x2,_,_,_,rfl,rfl,SqL.of e9,Zu (j:=5) rfl,f _ _ (.str _ (str_len hmi)) rfl⟩
  ·refine s12 _ _ _ B6 S6 ?_;rcases st with⟨h,_⟩|⟨_,h⟩
   ·exact absurd (by rw[h];rfl) e
   ·exact h
 clear B6 S6 st due H6;intro H6 tv due B6 S6 ask;refine hk12 _ _ (tq λD13 hk13=>?_);clear hk12;obtain⟨dd,ix,sw⟩:=ask.2.2.1;refine⟨_,rfl,_,dd,rfl,ix,sw.sh,sw.dp,sw.len,?_⟩;refine hk13 _ _ (tq λD14 hk14=>?_);clear hk13;try dsimp only[Zt,az]
 refine⟨_,rfl,_,rfl,_,rfl,_,rfl,?_⟩;dsimp only[tNil,br];refine ask.line (tt S6) ok λH7 sm=>?_;try dsimp only[Zt,az]
 have S7:=S6.trans (Zg.of (b:=b) sm);have B7:=B6.same sm;have ask7:=ask.same sm;refine hk14 _ _ (tqr λD15 hk15 hr15=>?_);clear hk14;try dsimp only[Zt,az]
 refine⟨_,rfl,.bl due,"bool",.type "bool",true,rfl,.bl _,Li _,_,rfl,?_⟩;refine⟨_,rfl,_,rfl,rfl,_,rfl,?_⟩;refine ite2 (λe=>?_) (λ_=>?_)
 ·simp at e
 have ix7:=Qv sm ix;refine⟨_,rfl,_,dd,rfl,ix7,sw.sh,sw.dp,sw.len,_,rfl,rfl,_,rfl,?_⟩;refine ite2 (λe=>?_) (λ_=>hk15 _ _ ?_)
 ·simp at e
 refine⟨_,rfl,_,rfl,_,rfl,_,rfl,?_⟩;dsimp only[tNil,br];refine ask7.line (tt S7) ok λH8 sm8=>?_;refine⟨_,rfl,rfl,?_⟩;rw[show decide (V.bl due=V.bl due)=true from decide_eq_true rfl];exact k _ (B7.same sm8) (S7.trans (Zg.of sm8))
noncomputable def T3:Tb:=⟨3,[],[],[],[]⟩
theorem ok3:OkTb T3:=by refine⟨by decide,by decide,λj hj=>?_⟩;rcases hj with rfl|rfl|rfl|rfl<;>exact⟨Nat.zero_le _,cD,(λ_ h=>nomatch h),(λ_=>by decide)⟩
theorem Lq{H:Hp}{T:Tb}{p a c:Addr}(hp:H p=some (.tup [.ref a,.ref c]))(ha:H a=some (.lst []))(hc:H c=some (.lst [])):Z3 H T (.ref p) [] []:=⟨p,a,c,[],rfl,hp,ha,hc,.nil,⟨(λ_ h=>nomatch h),(λ_ h=>nomatch h)⟩,cD,cD,Nat.zero_le _,Nat.zero_le _⟩
theorem Tr(S:Sx):crs [] [] S=false:=rfl
theorem Qs(T:Tb)(i:Int):YI T i [] []=some ((T.t4.map ZC).sum):=by
 unfold YI;rw[show Xe T [] i=false from rfl,if_neg Bool.false_ne_true];unfold acr;have e1:(T.t4.flatMap (ZL T)).any (crs [] [])=false:=eT.mpr λS _=>by rw[Tr];decide
 have e2:sumR [] [] (Yj T)=0:=by unfold sumR;rw[dz.mpr λS _=>by rw[Tr];decide];rfl
 have e3:byd T []=(T.t4.map ZC).sum:=by unfold byd;rw[List.filter_eq_self.mpr λy _=>by rfl]
 rw[e1,if_neg Bool.false_ne_true,e2,e3];show some (0+_)=_;rw[Int.zero_add]
theorem MP{K:aa}{C t p a c:Addr}{H:Hp}{T:Tb}{i m ev:Int}{Q:VK}{E:XK}(tel:Tel H C t T)(ok:OkTb T)(i0:0<=i)(i1:i<=T.n)(hp:H p=some (.tup [.ref a,.ref c]))(ha:H a=some (.lst []))(hc:H c=some (.lst []))(ln:∀i,YI T i [] []=some ev){b:Bool}(hb:b=decide (ev=m))(k:∀H',Same H H'->Q (.bl b) H'):JU K C [.ref t,.int i,.ref p,.int m] H Q E:=by
 refine⟨t,_,_,_,T,_,_,rfl,tel,ok,.int i,.int m,.inr (.inr ⟨i,m,rfl,rfl,i0,i1,.inr ⟨[],[],Lq hp ha hc,λH' s=>?_⟩⟩)⟩;rw[ln i];have e:decide (some ev=some m)=b:=by rw[hb];exact decide_eq_decide.mpr ⟨λh=>aB h,λh=>by rw[h]⟩
 rw[e];exact k H' s
def P4(K:aa):Sp:=λvs H Q _=>∃(a:Addr)(ns:List Int),vs=[.ref a]/\SqL K H a (ns.map V.int)/\ns.length<=63/\∀H',Q (.bl true) H'
theorem UQ:FnScope ["_law_script",q_w,"_law_steps_here","_law_table","_law_k","_law_everybody"] ["_law_script"] (Zd T.f_law):=scO
noncomputable def QJ:Scope:=csx [(".0",.local),("_law_row",.local)]
theorem QG:CompScope QJ (Zd T.f_law):=⟨rfl,by decide +kernel,by decide +kernel,by decide +kernel⟩
theorem QI:(["_law_row"]:List Str).Nodup:=by decide +kernel
theorem QH:CompNames ["_law_script",q_w,"_law_steps_here","_law_table","_law_k","_law_everybody"] QJ ["_law_row"] [none]:=.mk' (by decide +kernel)
theorem Fg{f:Addr}{fd:bW}(B:∀x∈Blts,mg x=none)(hmin:mg "min"=none)(M:TMkG P w K mg base C)(CC:Can P w K mg base 1 "_law_cell" ["_law_script","_law_k"] (N8 K))(CB:Can P w K mg base 1 "_law_box" ["_law_cell_here"] Sn)(CW:Can P w K mg base 4 "_law_world" ["_law_script","_law_first","_law_most"] (R7 K))(CS:Can P w K mg base 1 "_law_steps" [q_w] P5)(CM:Can P w K mg base 9 "_law_made" [q_w] (W9 C))(CA:Can P w K mg base 9 "_law_asked" ["_law_table",q_w,"_law_steps_here",q_b] (Sr K C))(CI:Can P w K mg base 8 "is_line" ["table","turn","line","number"] (JU K C))(F:Fun K "law" "law" T.f_law f fd):FnOk P w K mg base CX0 10 f fd ["_law_script"] (P4 K):=by
 obtain⟨fm,fdm,hM,FM,bM⟩:=M.made;refine F.ok UQ (λvs H Q E h=>?_) (λcdv A outer s H vs Q E hr h=>?_)
 ·obtain⟨a,ns,rfl,_⟩:=h;rfl
 ·obtain⟨a,ns,rfl,hS,hlen,k⟩:=h;refine' ⟨_,(@Za _ _ _ _ _ ?h19 (@Za _ _ _ _ _ ?h20 (@Za _ _ _ _ _ ?h21 (@Za _ _ _ _ _ ?h22 (@Za _ _ _ _ _ ?h23 (@Za _ _ _ _ _ ?h24 (@Ze _ _ _ ?h25))))))),?rd⟩;case' h25=>refine' (Zn (Xk (@Yp _ _ _ _ _ _ _ _ KZ (cn CI hr (@Zc _ _ _ _ _ (pv 3) (@pa3 _ _ _ _ _ _ _ ?h18 ?h17 (pv 5) (by rfl)) (by rfl))) YW (ZA _)) (YF (@Yp _ _ _ _ _ _ _ _ KZ (cn CI hr (@Zc _ _ _ _ _ (pv 3) (@pa3 _ _ _ _ _ _ _ Zb ?h14 (Zp ZG (pv 5) Zb) (by rfl)) (by rfl))) YW (ZA _)))))
  case' h24=>refine' (@ZF _ _ _ _ _ _ _ _ (@Zq _ _ _ _ _ _ _ _ TQ (cn CI hr (@Zc _ _ _ _ _ (Ug hM FM hr.m rfl M.mg bM .nil Ys (@Zc _ _ _ _ _ Zb (@Zc _ _ _ _ _ ?h10 (@pa3 _ _ _ _ _ _ _ ?h9 ?h8 ?h7 (by rfl)) (by rfl)) (by rfl))) (@pa3 _ _ _ _ _ _ _ Zb ?h6 Zb (by rfl)) (by rfl))) YW (ZA _)) (@Ze _ _ _ ?h11) Zr)
  case' h23=>refine' (@st _ _ _ _ 5 _ _ UQ.nd (Zy (Js rfl) rfl (bm B) cJ (@pa1 _ _ _ (ZQ rfl QG QH (ZV ?h3) (λC s H ex pn=>(nmT 0 QI)) (λC s H ex pn=>Yt) (λC s H ex pn=>(it K (pv 0) Zb))) (by rfl))) (by rfl) (by exact aK rfl) (by rfl) (by exact .inl rfl))
  case' h22=>refine' (Yn aY rfl (Xy rfl (bm B) (@pa2 _ _ _ _ _ Zb (Zy (GR rfl) rfl (bm B) eJ (@pa2 _ _ _ _ _ Zb (Zy (NP rfl) rfl hmin gQ (@pa2 _ _ _ _ _ (Zy (r:=rLen K) ZU rfl (bm B) aZ (@pa1 _ _ _ (pv 0) (by rfl))) Zb (by rfl))) (by rfl))) (by rfl))) (nmT 4 UQ.nd) (@Ze _ _ _ ?h2))
  case' h21=>refine' (@st _ _ _ _ 3 _ _ UQ.nd (cn CM hr (@pa1 _ _ _ (pv 1) (by rfl))) (by rfl) (by exact aK rfl) (by rfl) (by exact .inl rfl))
  case' h20=>refine' (@st _ _ _ _ 2 _ _ UQ.nd (cn CS hr (@pa1 _ _ _ (pv 1) (by rfl))) (by rfl) (by exact aK rfl) (by rfl) (by exact .inl rfl))
  case' h19=>refine' (@st _ _ _ _ 1 _ _ UQ.nd (cn CW hr (@pa3 _ _ _ _ _ _ _ (pv 0) Zb Zb (by rfl))) (by rfl) (by exact aK rfl) (by rfl) (by exact .inl rfl))
  case' h18=>refine' (@it _ _ _ _ _ _ K (pv 1) Zb (by rfl) (by exact λ_ _=>rfl))
  case' h17=>refine' (@Zw _ _ _ _ _ (@pa2 _ _ _ _ _ ?h16 ?h15 (by rfl)))
  case' h16=>refine' (@Zz _ _ _ _ Zk)
  case' h15=>refine' (@Zz _ _ _ _ Zk)
  case' h14=>refine' (@Zw _ _ _ _ _ (@pa2 _ _ _ _ _ ?h13 ?h12 (by rfl)))
  case' h13=>refine' (@Zz _ _ _ _ Zk)
  case' h12=>refine' (@Zz _ _ _ _ Zk)
  case' h11=>refine' (Zn YW)
  case' h10=>refine' (@Zz _ _ _ _ Zk)
  case' h9=>refine' (@Zz _ _ _ _ Zk)
  case' h8=>refine' (@Zz _ _ _ _ Zk)
  case' h7=>refine' (@Zz _ _ _ _ Zk)
  case' h6=>refine' (@Zw _ _ _ _ _ (@pa2 _ _ _ _ _ ?h5 ?h4 (by rfl)))
  case' h5=>refine' (@Zz _ _ _ _ Zk)
  case' h4=>refine' (@Zz _ _ _ _ Zk)
  case' h3=>refine' (@it _ _ _ _ _ _ K (pv 1) Zb (by rfl) (by exact λ_ _=>rfl))
  case' h2=>refine' (@ZF _ _ _ _ _ _ _ _ (Z9 (ZZ (cn CA hr (@Zc _ _ _ _ _ (pv 3) (@pa3 _ _ _ _ _ _ _ (pv 1) (pv 2) (cn CB hr (@pa1 _ _ _ (cn CC hr (@pa2 _ _ _ _ _ (pv 0) (pv 4) (by rfl))) (by rfl))) (by rfl)) (by rfl))))) (@Ze _ _ _ ?h1) Zr)
  case' h1=>refine' (Zn YW)
  case' rd=>
  rw[show L2.start (["_law_script",q_w,"_law_steps_here","_law_table","_law_k","_law_everybody"]:List Str) [V.ref a]=[some (.ref a),none,none,none,none,none]from rfl];refine tq λD1 hk1=>?_;refine⟨_,rfl,a,ns,0,31,rfl,hS,by omega,by decide,by decide,by decide,λH1 pw l1 l2 l3 l4 T S1 wt ok wd=>?_⟩;refine hk1 _ _ (tq λD2 hk2=>?_);try dsimp only[Zt,az]
  refine⟨_,rfl,pw,l1,l2,l3,l4,T,rfl,wt,ok,λH2 d S2 hd dc=>?_⟩;refine hk2 _ _ (tq λD3 hk3=>?_);try dsimp only[Zt,az]
  refine⟨_,rfl,pw,l1,l2,l3,l4,T,rfl,wt.same S2,ok,λH3 t S3 tel=>?_⟩;refine hk3 _ _ (tq λD4 hk4=>?_);try dsimp only[Zt,az]
  have wt3:=(wt.same S2).same S3;have dc3:=dc.same S3;have hS3:SqL K H3 a (ns.map V.int):=SqL.same S3 (SqL.same S2 (SqL.same S1 hS));clear hk1 hk2 hk3 wt dc hS S1 S2 S3 hd;refine⟨_,rfl,a,_,rfl,.inl hS3,_,_,rfl,_,_,rfl,?_⟩;rw[lm];generalize hm:(if(if(63:Int)<(ns.length:Int)then(63:Int)else(ns.length:Int))>41 then(if(63:Int)<(ns.length:Int)then(63:Int)else(ns.length:Int))else 41)=mm;have hm1:41<=mm/\mm<=63:=by
   subst hm;split
   ·split at *<;>omega
   ·omega
  clear hm;refine⟨31,mm,rfl,⟨by decide,by decide,by omega,by omega⟩,?_⟩;refine YU (J:=Itr 31 (mm-31).toNat) (mm-31).toNat (λi σ H'=>Same H3 H'/\∃o,σ=[some (.ref a),some (.ref pw),some (.ref d),some (.ref t),o,none]) ?_ (λi σ H' hi q=>hi) (λσ H' q=>Nat.le_refl _) (λi σ Hz v H0 hi q yl=>?_) (λσ H' q=>?_)
  ·exact⟨Same.refl _,_,rfl⟩
  ·obtain⟨s0,o,rfl⟩:=q;obtain⟨rfl,rfl⟩:=yl;try dsimp only[Zt,az]
   refine td λD' hdd=>?_;refine⟨_,rfl,_,rfl,_,rfl,_,rfl,_,rfl,a,ns,31+i,(by push_cast;rfl),hS3.same s0,by omega,by omega,λc=>⟨c,rfl,λb H5 hb B5 S5=>?_⟩⟩;refine⟨t,pw,d,b,l1,l2,l3,l4,T,_,rfl,⟨hb,S5,B5⟩,tel.same s0,wt3.same s0,dc3.same s0,ok,wd,λH6 B6 S6=>⟨true,rfl,?_⟩⟩;refine iteF ?_;exact hdd _ _ ⟨s0.trans (Ye hb S5 S6),_,rfl⟩
  obtain⟨s4,o,rfl⟩:=q;generalize H'=H4 at s4;have wt4:=wt3.same s4;have tel4:=tel.same s4;clear wt3 tel dc3 hS3 s4;refine hk4 _ _ (tq λD5 hk5=>?_);clear hk4;refine ixT 4 wt4.at_ rfl ⟨l4,rfl,⟨_,SqL.of wt4.r4.choose_spec.1⟩,?_⟩;refine Y8 (J:=Itl K l4) T.t4 (Nat.le_trans (YC ok).2.2.2 (by decide)) (λy=>V.int (ZC y)) (λτ=>∃v1,τ=[v1]) ⟨none,rfl⟩ (λi H' hi sm=>(wt4.same sm).r4.go hi) (λH' sm=>(wt4.same sm).r4.stop) (λi y τ u H1 H2 hx st sm yl N1 h1=>?_) (λH5 sm lE hE=>?_)
  ·obtain⟨v1,rfl⟩:=st;obtain⟨rfl,a',rfl,ha'⟩:=(wt4.same sm).r4.item hx yl;obtain⟨a1,b1,c1,d1,rfl,_⟩:=YY ok (au hx);exact ixT 3 ha' rfl (h1 _ _ ⟨_,rfl⟩ sm)
  rw[show T.t4.map (λy=>V.int (ZC y))=(T.t4.map ZC).map V.int from by rw[bA];rfl];try dsimp only
  refine nl2 hE λH6 S56 eE=>?_;refine⟨lE,_,rfl,SqL.of eE,?_⟩;have S46:=sm.trans S56;have wt6:=wt4.same S46;have tel6:=tel4.same S46;clear wt4 tel4 eE hE S46 S56 sm;have ln:=λi=>Qs T i;generalize (T.t4.map ZC).sum=ev at ln ⊢;refine hk5 _ _ (tq λD6 hk6=>?_);clear hk5;try dsimp only[Zt,az]
  have k0:(0:Nat)<=sizeLine:=Nat.zero_le _;refine⟨k0,λq1 h1=>?_⟩;try dsimp only
  refine nl2 h1 λH7 S7 e1=>⟨k0,λq2 h2=>?_⟩;try dsimp only
  refine nl2 h2 λH8 S8 e2=>⟨k0,λq3 h3=>?_⟩;try dsimp only
  refine nl2 h3 λH9 S9 e3=>⟨k0,λq4 h4=>?_⟩;try dsimp only
  refine nl2 h4 λHa Sa e4=>?_;have e3':=Sa _ _ e3;have e2':=Sa _ _ (S9 _ _ e2);have e1':=Sa _ _ (S9 _ _ (S8 _ _ e1));have S6a:=((S7.trans S8).trans S9).trans Sa;have rn:Y9 Ha [] (([]:List (List V)).map some):=⟨rfl,λi x r h=>by simp at h⟩;try simp only[tNil,br]
  refine ND (T:=T3) ok3 e1' e2' e3' e4 rn rn rn rn λHb t3 Sb ht3 tel3=>?_;have tel7:=(tel6.same S6a).same Sb;have wt7:=(wt6.same S6a).same Sb;clear tel6 wt6 S6a Sa S9 S8 S7 e1 e2 e3 e4 e1' e2' e3' h1 h2 h3 h4 rn Sb ht3;refine⟨k0,λq5 h5=>?_⟩;try dsimp only
  refine nl2 h5 λHc Sc e5=>⟨k0,λq6 h6=>?_⟩;try dsimp only
  refine nl2 h6 λHd Sd e6=>⟨Zo (by show 2<=1000;decide),λq7 h7=>?_⟩;try dsimp only
  refine nl2 h7 λHe Se e7=>?_;have Sbe:=(Sc.trans Sd).trans Se;dsimp only[Yl,tC,tNil,br];refine MP (i:=3) (m:=0) (b:=true) (ev:=0) (tel3.same Sbe) ok3 (by decide) (by decide) e7 (Se _ _ (Sd _ _ e5)) (Se _ _ e6) (λi=>Qs T3 i) rfl λHf Sf=>?_;refine⟨true,true,rfl,rfl,_,rfl,?_⟩;refine iteF ?_;refine hk6 _ _ ?_;have telf:=(tel7.same Sbe).same Sf;have wtf:=(wt7.same Sbe).same Sf;clear hk6 tel7 wt7 Sbe Se Sd Sc e5 e6 e7 h5 h6 h7 Sf tel3;refine⟨_,rfl,ixT 0 wtf.at_ rfl ⟨k0,λq1 h1=>?_⟩⟩;try dsimp only
  refine nl2 h1 λHg Sg e1=>⟨k0,λq2 h2=>?_⟩;try dsimp only
  refine nl2 h2 λHh Sh e2=>⟨Zo (by show 2<=1000;decide),λq3 h3=>?_⟩;try dsimp only
  refine nl2 h3 λHi Si e3=>⟨_,rfl,?_⟩;have Sfi:=(Sg.trans Sh).trans Si;have n0:=ok.n0;dsimp only[Yl,tC,tNil,br];refine MP (b:=true) (telf.same Sfi) ok (by omega) (Int.le_refl _) e3 (Si _ _ (Sh _ _ e1)) (Si _ _ e2) ln (by rw[decide_eq_true rfl]) λHj Sj=>?_;refine⟨true,true,rfl,rfl,true,rfl,?_⟩;refine iteT ?_;have telj:=(telf.same Sfi).same Sj;clear telf wtf Sfi Sg Sh Si e1 e2 e3 h1 h2 h3 Sj;refine⟨_,rfl,k0,λq1 h1=>?_⟩;try dsimp only
  refine nl2 h1 λHg Sg e1=>⟨k0,λq2 h2=>?_⟩;try dsimp only
  refine nl2 h2 λHh Sh e2=>⟨Zo (by show 2<=1000;decide),λq3 h3=>?_⟩;try dsimp only
  refine nl2 h3 λHi Si e3=>⟨_,rfl,_,_,rfl,rfl,?_⟩;have Sfi:=(Sg.trans Sh).trans Si;dsimp only[Yl,tC,tNil,br];refine MP (b:=false) (telj.same Sfi) ok (Int.le_refl _) (by omega) e3 (Si _ _ (Sh _ _ e1)) (Si _ _ e2) ln (by rw[decide_eq_false (by omega)]) λHk Sk=>?_;exact⟨false,false,rfl,rfl,k _⟩
end
end SX
namespace L2
open PySem PySem.Spec PyProof.Rows
section
variable {K:aa}{h:Heap}{mg:Str->Option Value}{x:Str}
theorem HZ{st:Stmt}{ps:List Str}{f:Addr}{oc:Value}{od an:Option Addr}{osl:Array (Option Value)}{kV doc pm cdv ct:Value}(X:K.In h)(G:h.Ns bc mg)(a:bS K bc x=some (some (.ref f)))(l:K.lookup f=some ⟨oc,od,.func (bE x x (YK st) (Yh st) (Zd st) .none kV doc pm an cdv ct),osl⟩)(c:b8 K cdv x=true)(k:bu K (.ref f)=true)(hb:∀(kV doc pm:Value)(an:Option Addr)(cdv ct:Value)(us:List Value),us.length=ps.length->bindArgs (bE x x (YK st) (Yh st) (Zd st) .none kV doc pm an cdv ct) ⟨us,[]⟩=pure (ps.zip us)):Df K mg x st ps:=⟨f,_,Va l c k,cU X G a,(Va l c k).binds hb⟩
theorem Ly{C:Addr}{m qual:Str}{st:Stmt}{ps:List Str}{f:Addr}{oc:Value}{od an:Option Addr}{osl:Array (Option Value)}{kV doc pm cdv ct:Value}(a:aO K (.ref C) m=some (some (.ref f)))(i:dR K (.ref f)=true)(l:K.lookup f=some ⟨oc,od,.func (bE m qual (YK st) (Yh st) (Zd st) .none kV doc pm an cdv ct),osl⟩)(c:b8 K cdv qual=true)(k:bu K (.ref f)=true)(hb:∀(kV doc pm:Value)(an:Option Addr)(cdv ct:Value)(us:List Value),us.length=ps.length->bindArgs (bE m qual (YK st) (Yh st) (Zd st) .none kV doc pm an cdv ct) ⟨us,[]⟩=pure (ps.zip us)):DfM K C m qual st ps:=⟨f,_,Va l c k,⟨a,i,k⟩,(Va l c k).binds hb⟩
theorem str_mk{z:Str}{t:Tok}(X:K.In h)(G:h.Ns bc mg)(a:bS K bc x=some (some (.str z t))):∃t,mg x=some (.str z t):=⟨t,cU X G a⟩
theorem int_mk{z:Int}{t:Tok}(X:K.In h)(G:h.Ns bc mg)(a:bS K bc x=some (some (.int z t))):∃t,mg x=some (.int z t):=⟨t,cU X G a⟩
theorem Ti{w:World}{a:Addr}{es:Array DictEntry}{n:Nat}{n1 n2 n3 n4:Int}{t1 t2 t3 t4:Tok}(X:K.In h)(G:h.Ns bc mg)(ha:bS K bc x=some (some (.ref a)))(hl:K.lookup a=some ⟨.type "dict",none,.dict es n,#[]⟩)(hk:PySem.W.KeysLit w.params es.toList)(h1:bS K a "places"=some (some (.int n1 t1)))(h2:bS K a "rides"=some (some (.int n2 t2)))(h3:bS K a "ways"=some (some (.int n3 t3)))(h4:bS K a "groups"=some (some (.int n4 t4))):∃a,mg x=some (.ref a)/\XN K w a "places" (.int n1)/\XN K w a "rides" (.int n2)/\XN K w a "ways" (.int n3)/\XN K w a "groups" (.int n4):=⟨a,cU X G ha,⟨es,n,_,hl,hk,h1,⟨t1,rfl⟩⟩,⟨es,n,_,hl,hk,h2,⟨t2,rfl⟩⟩,⟨es,n,_,hl,hk,h3,⟨t3,rfl⟩⟩,⟨es,n,_,hl,hk,h4,⟨t4,rfl⟩⟩⟩
end
end L2
namespace SX
open PySem L2 PySem.Spec PyProof.Rows TB WD
section
variable {P:Program}{w:World}{K:aa}{mg:Str->Option Value}{base:Heap}{C:Addr}
structure Meths(K:aa)(C:Addr):Prop where
 take_places:DfM K C "take_places" "Table.take_places" T.m_Table_take_places ["self","places"]
 take_rides:DfM K C "take_rides" "Table.take_rides" T.m_Table_take_rides ["self","rides"]
 take_ways:DfM K C "take_ways" "Table.take_ways" T.m_Table_take_ways ["self","ways"]
 take_groups:DfM K C "take_groups" "Table.take_groups" T.m_Table_take_groups ["self","groups"]
 is_place:DfM K C "is_place" "Table.is_place" T.m_Table_is_place ["self","thing"]
 is_home:DfM K C "is_home" "Table.is_home" T.m_Table_is_home ["self","thing"]
 is_group:DfM K C "is_group" "Table.is_group" T.m_Table_is_group ["self","thing"]
 group_row:DfM K C "group_row" "Table.group_row" T.m_Table_group_row ["self","name"]
 people:DfM K C "people" "Table.people" T.m_Table_people ["self"]
structure TabF(K:aa)(mg:Str->Option Value)(C:Addr):Prop where
 cl:TCl K C
 init:∃f fd,Mk K C f/\Fun K "__init__" "Table.__init__" T.m_Table___init__ f fd/\Binds K fd ["self","turns","places","rides","ways","groups"] []
 mg:mg "Table"=some (.ref C)
 ms:Meths K C
structure SMeths(K:aa)(C:Addr):Prop where
 tail:DfM K C "tail" "Step.tail" T.m_Step_tail ["self"]
 head:DfM K C "head" "Step.head" T.m_Step_head ["self"]
 room:DfM K C "room" "Step.room" T.m_Step_room ["self"]
structure StF(K:aa)(mg:Str->Option Value)(x qual:Str)(st:Stmt)(ps:List Str)(C:Addr):Prop where
 cl:SCl K C
 init:∃f fd,Mk K C f/\Fun K "__init__" qual st f fd/\Binds K fd ps []
 mg:mg x=some (.ref C)
 ms:SMeths K C
structure AllSt(K:aa)(mg:Str->Option Value)(c1 c2 c3 cb:Addr):Prop where
 s1:StF K mg "Ride" "Ride.__init__" T.m_Ride___init__ ["self","row"] c1
 s2:StF K mg "Walk" "Walk.__init__" T.m_Walk___init__ ["self","row","turn"] c2
 s3:StF K mg "Wait" "Wait.__init__" T.m_Wait___init__ ["self","row","turn"] c3
 base:∃f fd,Fun K "__init__" "Step.__init__" T.m_Step___init__ f fd/\BaseM K cb "__init__" f/\Binds K fd ["self","key","tail","head","room","price"] []
 mb:mg "Step"=some (.ref cb)
structure Defs(K:aa)(mg:Str->Option Value):Prop where
 is_whole:Df K mg "is_whole" T.f_is_whole ["thing"]
 is_within:Df K mg "is_within" T.f_is_within ["thing","low","high"]
 is_text_of:Df K mg "is_text_of" T.f_is_text_of ["thing","longest","signs"]
 is_name:Df K mg "is_name" T.f_is_name ["thing"]
 is_group_name:Df K mg "is_group_name" T.f_is_group_name ["thing"]
 walks_of:Df K mg "walks_of" T.f_walks_of ["table"]
 waits_of:Df K mg "waits_of" T.f_waits_of ["table"]
 moves_of:Df K mg "moves_of" T.f_moves_of ["table"]
 is_spot_of:Df K mg "is_spot_of" T.f_is_spot_of ["table","thing"]
 is_turn:Df K mg "is_turn" T.f_is_turn ["table","thing"]
 refuse_no_turn:Df K mg "refuse_no_turn" T.f_refuse_no_turn ["table","thing"]
 has_form:Df K mg "has_form" T.f_has_form ["line"]
 near_side:Df K mg "near_side" T.f_near_side ["table","line"]
 set_out_crosses:Df K mg "set_out_crosses" T.f_set_out_crosses ["table","near","row"]
 rooms_across:Df K mg "rooms_across" T.f_rooms_across ["table","line"]
 people_beyond:Df K mg "people_beyond" T.f_people_beyond ["table","line"]
 lets:Df K mg "lets" T.f_lets ["table","turn","line"]
 is_line:Df K mg "is_line" T.f_is_line ["table","turn","line","number"]
 is_known:Df K mg "is_known" T.f_is_known ["thing","names"]
 rows_of:Df K mg "rows_of" T.f_rows_of ["part","rows"]
 wrong_beginning:Df K mg "wrong_beginning" T.f_wrong_beginning ["part","row","names_ahead"]
 wrong_ends:Df K mg "wrong_ends" T.f_wrong_ends ["table","start","goal"]
 wrong_place:Df K mg "wrong_place" T.f_wrong_place ["row"]
 wrong_ride:Df K mg "wrong_ride" T.f_wrong_ride ["table","row"]
 wrong_way:Df K mg "wrong_way" T.f_wrong_way ["table","row"]
 wrong_group:Df K mg "wrong_group" T.f_wrong_group ["table","row","people_ahead"]
 refuse_row:Df K mg "refuse_row" T.f_refuse_row ["part","at","why"]
 _law_cell:Df K mg "_law_cell" T.f__law_cell ["_law_script","_law_k"]
 _law_box:Df K mg "_law_box" T.f__law_box ["_law_cell_here"]
 _law_take:Df K mg "_law_take" T.f__law_take [q_b,"_law_many"]
 _law_names:Df K mg "_law_names" T.f__law_names [q_b,"_law_many"]
 _law_places:Df K mg "_law_places" T.f__law_places [q_b,"_law_wide"]
 _law_ride:Df K mg "_law_ride" T.f__law_ride [q_b,"_law_name","_law_turns","_law_start","_law_goal"]
 _law_way:Df K mg "_law_way" T.f__law_way [q_b,"_law_name","_law_turns","_law_start","_law_goal"]
 _law_group:Df K mg "_law_group" T.f__law_group [q_b,"_law_name","_law_turns","_law_start","_law_goal"]
 _law_rows:Df K mg "_law_rows" T.f__law_rows ["_law_script","_law_first","_law_most","_law_turns",q_p]
 _law_world:Df K mg "_law_world" T.f__law_world ["_law_script","_law_first","_law_most"]
 _law_made:Df K mg "_law_made" T.f__law_made [q_w]
 _law_steps:Df K mg "_law_steps" T.f__law_steps [q_w]
 _law_lets:Df K mg "_law_lets" T.f__law_lets [q_w,"_law_steps_here","_law_turn","_law_line_here"]
 _law_line:Df K mg "_law_line" T.f__law_line [q_b,q_w]
 _law_may:Df K mg "_law_may" T.f__law_may [q_w,"_law_place","_law_at","_law_turn"]
 _law_other:Df K mg "_law_other" T.f__law_other [q_b,"_law_line_here",q_w]
 _law_near:Df K mg "_law_near" T.f__law_near [q_b,"_law_line_here",q_w,"_law_turn"]
 _law_asked:Df K mg "_law_asked" T.f__law_asked ["_law_table",q_w,"_law_steps_here",q_b]
theorem QU(W:K1.Txt K mg)(G:TB.Txt K mg)(Zs:Sizes K w mg)(Zm:Mosts K w mg)(B:∀x∈Blts,mg x=none)(D:Defs K mg)(t:TabF K mg C):TMkG P w K mg base C:=by obtain⟨f,fd,M,F,bd⟩:=t.init;have he:=B "enumerate" (by decide +kernel);have cI:=K1.MZ (P:=P) (w:=w) (base:=base) D.is_within (K1.NN W D.is_whole);have cX:=K1.RD (P:=P) (w:=w) (base:=base) W D.is_text_of;have cK:=NO (P:=P) (w:=w) (base:=base) G D.is_known;have cP:=G5 (P:=P) (w:=w) (base:=base) t.cl t.ms.is_place cK;have cE:=LP (P:=P) (w:=w) (base:=base) t.cl D.wrong_ends cP (M0 t.cl t.ms.is_home cP);have cB:=RC (P:=P) (w:=w) (base:=base) G Zs D.wrong_beginning (K1.LI W D.is_name cX) (K1.WE W D.is_group_name cX);have cR:=QN (P:=P) (w:=w) (base:=base) D.refuse_row;exact⟨⟨f,fd,M,K5 G t.cl cI (Ws B Zm D.rows_of) (RH t.cl he t.ms.take_places cB (RA G D.wrong_place cI) cR) (RF t.cl he t.ms.take_rides cB (LF G t.cl D.wrong_ride cI cE) cR) (RE t.cl he t.ms.take_ways cB (DV G t.cl D.wrong_way cI cE) cR) (RI t.cl he t.ms.take_groups cB (RB G t.cl D.wrong_group cI cP) cR) F,bd⟩,t.mg⟩
theorem all4{R:Nat->Prop}(h0:R 0)(h1:R 1)(h2:R 2)(h3:R 3):∀j,j<4->R j:=λj hj=>by
 have e:j=0\/j=1\/j=2\/j=3:=by omega
 rcases e with rfl|rfl|rfl|rfl<;>assumption
noncomputable def c4(c0 c1 c2 c3:Addr)(i:Nat):Addr:=[c0,c1,c2,c3].getD i 0
structure Nn(mg:Str->Option Value):Prop where
 n1:mg "min"=none
 n2:mg "dict"=none
 n3:mg "any"=none
theorem DQ{f c1 c2 c3 cb:Addr}{fd:bW}(W:K1.Txt K mg)(G:TB.Txt K mg)(Zs:Sizes K w mg)(Zm:Mosts K w mg)(B:∀x∈Blts,mg x=none)(D:Defs K mg)(t:TabF K mg C)(N:Nn mg)(a:AllSt K mg c1 c2 c3 cb)(F:Fun K "law" "law" T.f_law f fd):FnOk P w K mg base CX0 10 f fd ["_law_script"] (P4 K):=by have tm:=QU (P:=P) (base:=base) W G Zs Zm B D t;have Z:=t.cl;have cC:=LQ (P:=P) (w:=w) (base:=base) (mg:=mg) B D._law_cell;have cB:=DY (P:=P) (w:=w) (base:=base) (mg:=mg) B D._law_box;have cT:=LC (P:=P) (w:=w) (base:=base) (mg:=mg) D._law_take;have cN:=Wu (P:=P) (w:=w) (base:=base) (mg:=mg) B cT D._law_names;have cWo:=RK (P:=P) (w:=w) (base:=base) (mg:=mg) B cC cB cT (RJ B cT cN D._law_places) (Ww B N.n1 cC cB cT cN (Wx cT D._law_ride) (LJ cT D._law_way) (RN cT D._law_group) D._law_rows) D._law_world;have cH':=K1.NN (P:=P) (w:=w) (base:=base) (mg:=mg) W D.is_whole;have cI:=K1.MZ (P:=P) (w:=w) (base:=base) (mg:=mg) D.is_within cH';have cK:=NO (P:=P) (w:=w) (base:=base) (mg:=mg) G D.is_known;have cP:=G5 (P:=P) (w:=w) (base:=base) (mg:=mg) Z t.ms.is_place cK;have cH:=M0 (P:=P) (w:=w) (base:=base) (mg:=mg) Z t.ms.is_home cP;have cG:=PF (P:=P) (w:=w) (base:=base) (mg:=mg) Z t.ms.is_group cK;have ZS:∀j,j<4->SCl K (c4 c1 c1 c2 c3 j):=all4 a.s1.cl a.s1.cl a.s2.cl a.s3.cl;obtain⟨fb,fdb,Fb,bm,bb⟩:=a.base;have CB:CanB P w K mg base cb:=⟨⟨fb,fdb,K6 Fb,bm,bb⟩,a.mb⟩;obtain⟨f1,g1,M1,F1,b1⟩:=a.s1.init;obtain⟨f2,g2,M2,F2,b2⟩:=a.s2.init;obtain⟨f3,g3,M3,F3,b3⟩:=a.s3.init;have m1:SMk P w K mg base "Ride" (c4 c1 c1 c2 c3 1) ["self","row"] (spMk K (c4 c1 c1 c2 c3) 1 Ra):=⟨⟨f1,g1,M1,Dy CB F1,b1⟩,a.s1.mg⟩;have m2:SMk P w K mg base "Walk" (c4 c1 c1 c2 c3 2) ["self","row","turn"] (spMk K (c4 c1 c1 c2 c3) 2 Q8):=⟨⟨f2,g2,M2,Dw CB F2,b2⟩,a.s2.mg⟩;have m3:SMk P w K mg base "Wait" (c4 c1 c1 c2 c3 3) ["self","row","turn"] (spMk K (c4 c1 c1 c2 c3) 3 Q9):=⟨⟨f3,g3,M3,Dx CB F3,b3⟩,a.s3.mg⟩;have mv:=Wv (P:=P) (w:=w) (base:=base) (mg:=mg) B Z ZS m1 (Wq B Z ZS m2 D.walks_of) (Wr B Z ZS m3 D.waits_of) D.moves_of;have tu:=LB (P:=P) (w:=w) (base:=base) (mg:=mg) Z cI D.is_turn;have ne:=LH (P:=P) (w:=w) (base:=base) (mg:=mg) B W.all Z (LN B D.has_form) cG (LD B Z cP cI D.is_spot_of) D.near_side;have ac:=Ea (P:=P) (w:=w) (base:=base) (mg:=mg) B N.n3 Z ZS ne (DW B N.n3 Z D.set_out_crosses) mv (all4 (Vz a.s1.ms.tail) (Vz a.s1.ms.tail) (Vz a.s2.ms.tail) (Vz a.s3.ms.tail)) (all4 (VB a.s1.ms.head) (VB a.s1.ms.head) (VB a.s2.ms.head) (VB a.s3.ms.head)) (all4 (VA a.s1.ms.room) (VA a.s1.ms.room) (VA a.s2.ms.room) (VA a.s3.ms.room)) D.rooms_across;have le:=LL (P:=P) (w:=w) (base:=base) (mg:=mg) B N.n3 Z (LG tu D.refuse_no_turn) ac cH (DZ B Z (DX B Z t.ms.people) (LM Z cG t.ms.group_row) D.people_beyond) D.lets;have il:=RP (P:=P) (w:=w) (base:=base) (mg:=mg) B tu cH' le D.is_line;have ak:=RO (P:=P) (w:=w) (base:=base) (mg:=mg) B Z cT (WB B cT (LK D._law_may) D._law_line) (Wz B cT D._law_near) (WC B N.n2 D._law_lets) (RM B cT D._law_other) il D._law_asked;exact Fg B N.n1 tm cC cB cWo (RL B D._law_steps) (WA B tm D._law_made) ak il F
theorem law_fd{l:gA}{h:Heap}{fa f:Addr}(X:K.In h)(G:h.Ns bc mg)(hfa:mg "law"=some (.ref fa))(Wt:K1.Txt K mg)(Gt:TB.Txt K mg)(Zs:Sizes K w mg)(Zm:Mosts K w mg)(B:∀x∈Blts,mg x=none)(D:Defs K mg)(ht:∃C,TabF K mg C)(hN:Nn mg)(hS:∃c1 c2 c3 cb,AllSt K mg c1 c2 c3 cb){oc:Value}{od an:Option Addr}{osl:Array (Option Value)}{kV doc pm cdv ct:Value}(a:bS K bc "law"=some (some (.ref f)))(lk:K.lookup f=some ⟨oc,od,.func (bE "law" "law" (YK T.f_law) (Yh T.f_law) (Zd T.f_law) .none kV doc pm an cdv ct),osl⟩)(c:b8 K cdv "law"=true)(k:bu K (.ref f)=true):∃fd:bW,(∀(s:ag)(v:Value),BindsTo s fd ⟨[v],[]⟩ [("_law_script",v)])/\∀base:Heap,K.In base->base.Ns bc mg->FnOk l.prog w K mg base CX0 10 fa fd ["_law_script"] (P4 K):=by have e:=hfa.symm.trans (cU X G a);cases e;obtain⟨C,t⟩:=ht;obtain⟨c1,c2,c3,cb,sa⟩:=hS;have F:=Va (st:=T.f_law) lk c k;exact⟨bE "law" "law" (YK T.f_law) (Yh T.f_law) (Zd T.f_law) .none kV doc pm an cdv ct,λs v=>.of_eq rfl,λbase _ _=>DQ Wt Gt Zs Zm B D t hN sa F⟩
end
theorem tab_mk{K:aa}{h:Heap}{mg:Str->Option Value}{C f1:Addr}{oc1:Value}{od1 an1:Option Addr}{osl1:Array (Option Value)}{kV1 doc1 pm1 cdv1 ct1:Value}(X:K.In h)(G:h.Ns bc mg)(aC:bS K bc "Table"=some (some (.ref C)))(pg:c5 K C Str.empty=true)(hd:du K C=true)(po:d_ K C=true)(sa:aO K (.ref C) "__setattr__"=some (some (.builtin "object.__setattr__")))(mk:e_ K C=true)(kc:bu K (.ref C)=true)(y1:aO K (.ref C) "turns"=some none)(y2:aO K (.ref C) "places"=some none)(y3:aO K (.ref C) "room_by_place"=some none)(y4:aO K (.ref C) "rides"=some none)(y5:aO K (.ref C) "ride_by_name"=some none)(y6:aO K (.ref C) "ways"=some none)(y7:aO K (.ref C) "way_by_name"=some none)(y8:aO K (.ref C) "groups"=some none)(y9:aO K (.ref C) "group_by_name"=some none)(a1:aO K (.ref C) "__init__"=some (some (.ref f1)))(i1:dR K (.ref f1)=true)(l1:K.lookup f1=some ⟨oc1,od1,.func (bE "__init__" "Table.__init__" (YK T.m_Table___init__) (Yh T.m_Table___init__) (Zd T.m_Table___init__) .none kV1 doc1 pm1 an1 cdv1 ct1),osl1⟩)(c1:b8 K cdv1 "Table.__init__"=true)(k1:bu K (.ref f1)=true)(ms:Meths K C):∃C,TabF K mg C:=by have F:=Va (st:=T.m_Table___init__) l1 c1 k1;refine⟨C,⟨⟨pg,hd,po,sa⟩,λf hf=>?_⟩,⟨f1,_,⟨mk,a1,i1,kc⟩,F,F.binds λ_ _ _ _ _ _ us hl=>by obtain⟨_,_,_,_,_,_,rfl⟩:=len6 hl;rfl⟩,cU X G aC,ms⟩;unfold fields at hf;simp only[ao,aF,or_false]at hf;rcases hf with rfl|rfl|rfl|rfl|rfl|rfl|rfl|rfl|rfl<;>assumption
theorem st_mk{K:aa}{h:Heap}{mg:Str->Option Value}{x qual:Str}{st:Stmt}{ps:List Str}{C f1:Addr}{oc1:Value}{od1 an1:Option Addr}{osl1:Array (Option Value)}{kV1 doc1 pm1 cdv1 ct1:Value}(X:K.In h)(G:h.Ns bc mg)(aC:bS K bc x=some (some (.ref C)))(pg:c5 K C Str.empty=true)(hd:du K C=true)(po:d_ K C=true)(sa:aO K (.ref C) "__setattr__"=some (some (.builtin "object.__setattr__")))(mk:e_ K C=true)(kc:bu K (.ref C)=true)(y1:aO K (.ref C) "its_key"=some none)(y2:aO K (.ref C) "its_tail"=some none)(y3:aO K (.ref C) "its_head"=some none)(y4:aO K (.ref C) "its_room"=some none)(y5:aO K (.ref C) "its_price"=some none)(a1:aO K (.ref C) "__init__"=some (some (.ref f1)))(i1:dR K (.ref f1)=true)(l1:K.lookup f1=some ⟨oc1,od1,.func (bE "__init__" qual (YK st) (Yh st) (Zd st) .none kV1 doc1 pm1 an1 cdv1 ct1),osl1⟩)(c1:b8 K cdv1 qual=true)(k1:bu K (.ref f1)=true)(hb:∀(kV doc pm:Value)(an:Option Addr)(cdv ct:Value)(us:List Value),us.length=ps.length->bindArgs (bE "__init__" qual (YK st) (Yh st) (Zd st) .none kV doc pm an cdv ct) ⟨us,[]⟩=pure (ps.zip us))(ms:SMeths K C):StF K mg x qual st ps C:=by have F:=Va (st:=st) l1 c1 k1;refine⟨⟨⟨pg,hd,po,sa⟩,λf hf=>?_⟩,⟨f1,_,⟨mk,a1,i1,kc⟩,F,F.binds hb⟩,cU X G aC,ms⟩;unfold fnames at hf;simp only[ao,aF,or_false]at hf;rcases hf with rfl|rfl|rfl|rfl|rfl<;>assumption
theorem base_mk{K:aa}{C f1:Addr}{oc1:Value}{od1 an1:Option Addr}{osl1:Array (Option Value)}{kV1 doc1 pm1 cdv1 ct1 mc:Value}(ga:fT K (.ref C) "__getattribute__"=some (some (.builtin "type.__getattribute__")))(rd:PySem.W.readsIn K C mc=true)(fc:PySem.W.findCls K (.ref C) mc "__init__"=some (.val (.ref f1)))(l1:K.lookup f1=some ⟨oc1,od1,.func (bE "__init__" "Step.__init__" (YK T.m_Step___init__) (Yh T.m_Step___init__) (Zd T.m_Step___init__) .none kV1 doc1 pm1 an1 cdv1 ct1),osl1⟩)(c1:b8 K cdv1 "Step.__init__"=true)(k1:bu K (.ref f1)=true):∃f fd,Fun K "__init__" "Step.__init__" T.m_Step___init__ f fd/\BaseM K C "__init__" f/\Binds K fd ["self","key","tail","head","room","price"] []:=by have F:=Va (st:=T.m_Step___init__) l1 c1 k1;exact⟨f1,_,F,⟨ga,⟨mc,rd,fc⟩,k1⟩,F.binds λ_ _ _ _ _ _ us hl=>by obtain⟨_,_,_,_,_,_,rfl⟩:=len6 hl;rfl⟩
theorem walk{l:gA}{q:Program}{loose:List Str}{XP:(Str->Option Value)->Heap->Prop}{YP:World->Heap->Prop}{d:DefRec}{K:Params->aa}(hn:l.most=some 63)(hdf:d.params.defaults=[])(hY:∀(w:World)(h:Heap),YP w h->(K w.params).In h)(F:∀(w:World)(mg:Str->Option Value)(fa:Addr)(h:Heap),(K w.params).In h->h.Ns bc mg->mg d.name=some (.ref fa) ->∃fd:bW,(∀(s:ag)(u:Value),BindsTo s fd ⟨[u],[]⟩ [("_law_script",u)])/\∀base:Heap,(K w.params).In base->base.Ns bc mg->FnOk l.prog w (K w.params) mg base CX0 10 fa fd ["_law_script"] (P4 (K w.params))):PySem.W.WalkO q loose XP YP l.row.toRowW d [] (λf vs=>PySem.call f vs):=L2.L6 (n:=63) (k:=10) (x:="_law_script") (CX:=λ_=>CX0) (sp:=λw=>P4 (K w.params)) hn (by decide) hdf ⟨rfl,by decide,by decide,rfl⟩ hY F (λ_ _ a ns hl _ hS=>⟨a,ns,rfl,hS,hl,λ_=>rfl⟩) λ_ _ _ _ _ z=>z
end SX
open PySem PySem.W PyProof.Rows
set_option hygiene false in
local macro_rules
|`(tactic| o_head $H)=>`(tactic| (
   refine holds_open (q:=RG.QV) (loose:=RG.LO) (Xt:=RG.XT) (XP:=XL RG.QV [])
    (Yf:=Hook.obs $H) (Ya:=Hook.val $H) (YP:=Hook.says $H) (N:=14000) ?hl (Hook.of $H) (Hook.keeps $H) (λs e=>xl_of s (Bool.and_eq_true_iff.mp e).1)
    XL.keeps (by rfl) (by rfl) (by rfl) (λs e=>recFacts_of (Bool.and_eq_true_iff.mp e).2) (by rfl) (by first|assumption|decide +kernel) (by decide +kernel)
    ⟨rfl,rfl,rfl,rfl,rfl,by decide +kernel⟩ ?hw ?hc
   case' hl=>exact RG.HQ (by kernel_rfl) (λs=>by kernel_rfl) RG.kfE (λw=>rfl)))
set_option maxRecDepth 100000 in
set_option maxHeartbeats 0 in
theorem PySem.Challenge.cw_homequay_k24_what_is_a_line_holds : PySem.Challenge.rw_homequay_k24_what_is_a_line.Holds := by
 w_on;o_law;o_head (kHook RG.hk.heap_39 RG.AS RG.eK);(case hw=>w_witness2);k_fill;refine SX.walk (l:=bG) rfl rfl (λw h Y=>PySem.W.kIn_of Y) ?F;case F=>
  intro w mg fa h KX G hmg;have D:SX.Defs (L2.KOf KX) mg:=by dsimp only[L2.KOf];constructor<;>(refine' L2.HZ KX G ?a ?l ?c ?k ?b;(case a|l|c|k=>k_is);(case b=>exact λ_ _ _ _ _ _ us hl=>by first|(obtain⟨_,rfl⟩:=L2.len1 hl;rfl)|(obtain⟨_,_,rfl⟩:=L2.len2 hl;rfl)|(obtain⟨_,_,_,rfl⟩:=L2.len3 hl;rfl)|(obtain⟨_,_,_,_,rfl⟩:=L2.len4 hl;rfl)|(obtain⟨_,_,_,_,_,rfl⟩:=L2.len5 hl;rfl)))
  have B:∀x∈WD.Blts,mg x=none:=by intro x hx;unfold WD.Blts at hx;simp only[ao,aF,or_false]at hx;rcases hx with rfl|rfl|rfl|rfl|rfl|rfl|rfl|rfl|rfl|rfl|rfl|rfl|rfl<;>(refine' dW KX G ?a;(case a=>k_is))
  have W:K1.Txt (L2.KOf KX) mg:=by constructor<;>((first|refine' dW KX G ?a|refine' L2.str_mk KX G ?a|refine' L2.int_mk KX G ?a);(case a=>k_is))
  have Gt:TB.Txt (L2.KOf KX) mg:=by constructor<;>((first|refine' dW KX G ?a|refine' L2.str_mk KX G ?a|refine' L2.int_mk KX G ?a);(case a=>k_is))
  have Zs:TB.Sizes (L2.KOf KX) w mg:=by refine⟨?_⟩;dsimp only[L2.KOf];refine' L2.Ti KX G ?a ?l ?k ?h1 ?h2 ?h3 ?h4;(case a|l=>k_is);(case k=>k_keys);(case h1|h2|h3|h4=>k_is)
  have Zm:TB.Mosts (L2.KOf KX) w mg:=by refine⟨?_⟩;dsimp only[L2.KOf];refine' L2.Ti KX G ?a ?l ?k ?h1 ?h2 ?h3 ?h4;(case a|l=>k_is);(case k=>k_keys);(case h1|h2|h3|h4=>k_is)
  have hN:SX.Nn mg:=by constructor<;>(refine' dW KX G ?a;(case a=>k_is))
  have ht:∃C,SX.TabF (L2.KOf KX) mg C:=by
   dsimp only[L2.KOf];refine' SX.tab_mk KX G ?aC ?pg ?hd ?po ?sa ?mk ?kc ?y1 ?y2 ?y3 ?y4 ?y5 ?y6 ?y7 ?y8 ?y9 ?a1 ?i1 ?l1 ?c1 ?k1 ?ms;(case aC|pg|hd|po|sa|mk|kc|y1|y2|y3|y4|y5|y6|y7|y8|y9|a1|i1|l1|c1|k1=>k_is)
   (case ms=>constructor<;>(refine' L2.Ly ?za ?zi ?zl ?zc ?zk ?zb;(case za|zi|zl|zc|zk=>k_is);(case zb=>exact λ_ _ _ _ _ _ us hl=>by first|(obtain⟨_,rfl⟩:=L2.len1 hl;rfl)|(obtain⟨_,_,rfl⟩:=L2.len2 hl;rfl)|(obtain⟨_,_,_,rfl⟩:=L2.len3 hl;rfl)|(obtain⟨_,_,_,_,rfl⟩:=L2.len4 hl;rfl)|(obtain⟨_,_,_,_,_,rfl⟩:=L2.len5 hl;rfl))))
  have hS:∃c1 c2 c3 cb,SX.AllSt (L2.KOf KX) mg c1 c2 c3 cb:=by
   dsimp only[L2.KOf];refine' ⟨_,_,_,_,⟨SX.st_mk KX G ?aC_0 ?pg_0 ?hd_0 ?po_0 ?sa_0 ?mk_0 ?kc_0 ?y1_0 ?y2_0 ?y3_0 ?y4_0 ?y5_0 ?a1_0 ?i1_0 ?l1_0 ?c1_0 ?k1_0 ?bb_0 ?ms_0,SX.st_mk KX G ?aC_1 ?pg_1 ?hd_1 ?po_1 ?sa_1 ?mk_1 ?kc_1 ?y1_1 ?y2_1 ?y3_1 ?y4_1 ?y5_1 ?a1_1 ?i1_1 ?l1_1 ?c1_1 ?k1_1 ?bb_1 ?ms_1,SX.st_mk KX G ?aC_2 ?pg_2 ?hd_2 ?po_2 ?sa_2 ?mk_2 ?kc_2 ?y1_2 ?y2_2 ?y3_2 ?y4_2 ?y5_2 ?a1_2 ?i1_2 ?l1_2 ?c1_2 ?k1_2 ?bb_2 ?ms_2,SX.base_mk (mc:=.type "type") ?bga ?brd ?bfc ?bl1 ?bc1 ?bk1,cU KX G ?mb⟩⟩;(case aC_0|aC_1|aC_2|mb=>k_is)
   (case ms_0|ms_1|ms_2=>constructor<;>(refine' L2.Ly ?za ?zi ?zl ?zc ?zk ?zb;(case za|zi|zl|zc|zk=>k_is);(case zb=>exact λ_ _ _ _ _ _ us hl=>by first|(obtain⟨_,rfl⟩:=L2.len1 hl;rfl)|(obtain⟨_,_,rfl⟩:=L2.len2 hl;rfl)|(obtain⟨_,_,_,rfl⟩:=L2.len3 hl;rfl)|(obtain⟨_,_,_,_,rfl⟩:=L2.len4 hl;rfl)|(obtain⟨_,_,_,_,_,rfl⟩:=L2.len5 hl;rfl))))
   (case bb_0|bb_1|bb_2=>exact λ_ _ _ _ _ _ us hl=>by first|(obtain⟨_,rfl⟩:=L2.len1 hl;rfl)|(obtain⟨_,_,rfl⟩:=L2.len2 hl;rfl)|(obtain⟨_,_,_,rfl⟩:=L2.len3 hl;rfl)|(obtain⟨_,_,_,_,rfl⟩:=L2.len4 hl;rfl)|(obtain⟨_,_,_,_,_,rfl⟩:=L2.len5 hl;rfl))
   (case pg_0|hd_0|po_0|sa_0|mk_0|kc_0|y1_0|y2_0|y3_0|y4_0|y5_0|a1_0|i1_0|l1_0|c1_0|k1_0|pg_1|hd_1|po_1|sa_1|mk_1|kc_1|y1_1|y2_1|y3_1|y4_1|y5_1|a1_1|i1_1|l1_1|c1_1|k1_1|pg_2|hd_2|po_2|sa_2|mk_2|kc_2|y1_2|y2_2|y3_2|y4_2|y5_2|a1_2|i1_2|l1_2|c1_2|k1_2|bga|brd|bfc|bl1|bc1|bk1=>k_is)
  refine' SX.law_fd KX G hmg W Gt Zs Zm B D ht hN hS ?fa ?fl ?fc ?fk;(case fa|fl|fc|fk=>k_is)
