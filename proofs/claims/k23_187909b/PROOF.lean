import PyProof.Rows.All
import Wide.All
import OpenK.AllK
import Wide.FinOn
import Lean
import PyProof.EqAt
import PyProof.EqKinds
import PyProof.TupleCall
import KE.KIntText
import KE.IntTextLaws
import PyProof.ExcClass3
import PyProof.InstStoreFacts
import PyProof.ExcBaseAll.ValueError
import PyProof.NsDelKeeps
import PyProof.ExcAttrAll.ValueError
import OpenK.KTop
import PyProof.ZipIter
import PyProof.ListNew
import PyProof.ListRange
import PyProof.ReprRoads
import PyProof.Rows.FactsT3
import PyProof.Rows.SumAny
import PyProof.CompUse
import PyProof.EqLayable
import PyProof.CallFns
import PyProof.StrBlock
import PyProof.EnumMake
import PyProof.ReprLen
import PyProof.MeetsDict
import PyProof.DictWalks
import PySem.Challenge.RW_homequay_k23_rooms_across
open PySem.W renaming Frag→aa,findIn→az,kitOne→aH,keepIn→aZ,nsIn→bu,fnOf→bw,kia_one→bN,emptyDict→bS,codeIn→bY,callWith_K→cv,instObj→cy,hasDictIn→cA,mg_of→cF,kia_tup→c7,plainGet→dv,methodCall_KW→d8,looks_findIn→ej,isFn→eO,tailIn→eR,nsOkIn→eT,mg_none_of→eU,plainOver→ft,mroIn→fv,makesIn→fN,hideAll→fO,notCls→fZ,lookIn→f6,hideAll_none→f9,plainGet_of→gh,specialIn→gR,methodObj→gS,kitx_list→gT,kitx_dict→gU,handedIn→h_,takerIn→ir,OpenLaw→iu,kitAny→iH,InstAt→iI
open PySem renaming wpAny_bind→ae,Shared→ag,wpAny_pure→ai,Spec→ax,starEach→aI,mainGlobals→a7,wpAny_holding→a8,Around→a9,boot_len→ba,Paired→bj,compareOp→br,wpAny_truthy_bool→bt,OsState→bE,bootBuiltins→bF,FuncData→bP,wpAny_loadPart_at→bW,backTo→b8,wpAny_callSpecial?_slot→cg,wpAny_mono→cj,wpAny_dictEpoch→cu,tupleKind→cz,assignEach→cD,wpAny_Call_Name_kw→cJ,mem_of_lookup→cO,wpAny_field→cQ,wpAny_newObj_type→cS,wpAny_setField→c8,wpAny_call_entry→c9,keywordEach→da,wpAny_typeNameOfWhole_keyiter→df,rawInt→dh,behindInMarks→dz,Within→dB,Builtin→dD,wpAny_dictEntries→dE,NameKind→dW,sliceBounds→dX,wpAny_rule→d_,wpAny_getItem_str_slice→eh,binaryOp→et,wpAny_ite_true→eI,wpAny_pyIter_list→eJ,holding→eV,wpAny_standAt→e_,attributeBase→fe,backToKw→fg,sizeLine_eq→fh,wpAny_passesOwn→fu,wpAny_isSubtype_exc→fz,codeAny_mono→fF,swapsWith→fH,getMethod→fJ,wpAny_pyIter_enum→fT,foldedSetIterable→fU,wpAny_attempt→fX,ExceptHandler→fY,codeAny→gy,wpAny_call→gA,call_meets→gB,wpAny_loadPart'→gD,wpAny_ite_false→gF,wpAny_execs_nil→gG,post_val_or_str→gH,letOwnedTupleGo→gI,wpAny_notOrdered_dict→gQ,Thread→g6,callWith→g9,wpAny_of_eq→g_,strIterType→hJ,repr_of_reads'→hV,placesWithHash→hW,firstArgMember→hX,standAt→ib,wpAny_pyIter_tuple→iE,tupleKind_room_in1→iF,slot_dict_contains→iG
open PySem.Challenge renaming pw_homequay_k23_rooms_across→af,rw_homequay_k23_rooms_across→bL
open List renaming mem_map→ah,length_append→aj,getElem?_eq_some_iff→ak,mem_cons→ao,size_toArray→aq,map_cons→ar,mem_cons_of_mem→av,getD_eq_getElem?_getD→aw,set→ay,mem_of_getElem?→aA,mem_singleton→aB,mem_append→aD,getElem_mem→aE,not_mem_nil→aF,mem_cons_self→aG,getElem?_map→aJ,map_append→aL,length_take→aN,length_cons→aR,mem_append_right→aU,range→aV,take_length→aW,take_of_length_le→aX,mem_iff_getElem?→aY,getElem?_append_right→a6,getElem?_append_left→a_,take_succ→bc,length_range→bf,all_eq_true→bg,mem_append_left→bh,mem_range→bp,length_map→bq,nodup_cons→bz,mem_filter→bA,append_nil→bB,replicate→bC,length_drop→bD,map_map→bI,any_eq_true→bJ,length_filter_le→bO,mem_flatMap→bQ,append_assoc→bU,range_succ→bV,sum_cons→bZ,find?_cons→b9,any_cons→cq,mem_of_mem_take→cL,filterMap_cons→cU,lookup_cons→cW,filter_cons_of_pos→cY,filter_cons_of_neg→cZ,foldl_cons→c_,getElem?_eq_none→de,nodup_append→di,flatten_cons→dj,nodup_nil→dA,replicate_succ→dQ,map_congr_left→dR,contains_cons→d5,drop_of_length_le→d9,lookup→eM,length_nil→eQ,map_nil→ff,pairwise_iff_getElem→fC,drop_eq_getElem_cons→fD,reverse_cons→fG,sublist_append_left→fK,getElem?_take_of_lt→fM,nodup_range→fP,getElem_map→fQ,getElem?_set_self→fV,filter_eq_nil_iff→fW,of_mem_zip→f7,take_append_drop→f_,pairwise_flatMap→gc,drop_zero→gm,pairwise_append→gu,mem_of_mem_drop→gv,getElem?_set_ne→gw,length_reverse→gK,length_pos_iff→gL,getElem?_range→gM,map_drop→gP,zip_cons_cons→gX,mem_filterMap→gY,filter_append→gZ,any_map→ie,pairwise_map→ig,foldl_append→ij,any_eq_false→ik,getElem_inj→iz,range'→iD,eq_nil_of_length_eq_zero→iK
open Option.some renaming inj→au
open PySem.Paired renaming length→aK,snoc→dq
open Or renaming inl→aO,inr→dC
open PySem.W.Fast renaming tw5923862056798008813→aP,tw4187177175401517315→aQ
open PySem.PassesOwn renaming never→aT
open Ne renaming symm→bo
open True renaming intro→bG
open False renaming elim→bK
open PySem.NameKind renaming free→bR,cell→fo
open PySem.F renaming plainAttrs_list→b6,type_list_append→dM,slot_list_append→dN
open PyProof.Rows renaming callWith_type1→b7,boot_repr→dS,envOfC→dU,boot_sum→dY,boot_any→dZ,boot_max→fA,boot_all→fB,AllBare→fE,boot_isinstance→gO,subscriptTail→iy,boot_min→iJ
open Option renaming map_eq_some_iff→b_,isSome_iff_exists→cM,isSome_map→d6,map_some→fS
open PySem.Builtin.ObjectAttr renaming storeInDict→cw,newKeyGuard→fR
open Sum renaming inr→cV,inl→gC
open PySem.Builtin.SmallTypes renaming nextOf→c5
open PySem.Builtin.Str renaming strSliceIndices→c6,occurrences→iC
open PySem.Builtin.List renaming listTooLong→du
open ForInStep renaming yield→dH
open Array renaming length_toList→dI,getElem?_eq_some_iff→fj,mem_toList_iff→gi
open PySem.WalksT renaming enumerateD→fw
open List.Sublist renaming refl→gf
open Prod.mk renaming injEq→gj
open PySem.StrLaws renaming glued_eq_join→gN
open PySem.Around renaming under→gV
open PySem.SeqAt.EqAt renaming same→gW
open PySem.Builtin.Dict renaming addKeywords→ip,updateFrom→ix
open Classical renaming byContradiction→iB
open List.Pairwise renaming of_map→iL
open PySem in
abbrev q_b:Str:="_law_box_here"
open PySem in
abbrev q_w:Str:="_law_world_here"
open PySem in
abbrev q_p:Str:="_law_places_here"
open PySem in
abbrev q_s:Str:="_law_strange"
open PySem in
abbrev q_n:Str:="_law_name_here"
open PySem in
abbrev q_t:Str:="_law_table_here"
namespace RG
open PySem PySem.W PyProof.Rows
noncomputable def runG(thr ok:g6->Bool)(st:SharedT->g6->Option (SharedT×g6))(n:Nat):SharedT->g6->Option SharedT:=@Nat.rec (λ_=>SharedT->g6->Option SharedT) (λ_ _=>none) (λ_ ih s t=>@Bool.rec (λ_=>Option SharedT) (@Bool.rec (λ_=>Option SharedT) none (@Option.rec (SharedT×g6) (λ_=>Option SharedT) none (λx=>@Prod.rec SharedT g6 (λ_=>Option SharedT) (λs' t'=>ih s' t') x) (st s t)) (ok t)) (some s) (thr t)) n
theorem Qh{tb:String->Option dD}{p:Program}{w:World}{m:Nat}{ann:Option Value}:∀{n:Nat}{s r:SharedT}{t:g6},runG through (stepOk m ann) (stepT (denote tb) p w) n s t=some r->topRun tb p w m ann n s.abs t=some r.abs
|0,_,_,_,h=>by cases h
|n+1,s,r,t,h=>by
  have h':@Bool.rec (λ_=>Option SharedT) (@Bool.rec (λ_=>Option SharedT) none (@Option.rec (SharedT×g6) (λ_=>Option SharedT) none (λx=>@Prod.rec SharedT g6 (λ_=>Option SharedT) (λs' t'=>runG through (stepOk m ann) (stepT (denote tb) p w) n s' t') x) (stepT (denote tb) p w s t)) (stepOk m ann t)) (some s) (through t)=some r:=h;unfold topRun;cases ht:through t with
 |true=>rw[ht]at h';cases h';rfl
 |false=>
   rw[ht]at h';cases ho:stepOk m ann t with
  |false=>rw[ho]at h';cases h'
  |true=>
    rw[ho]at h';cases hs:stepT (denote tb) p w s t with
   |none=>rw[hs]at h';cases h'
   |some x=>obtain⟨s',t'⟩:=x;rw[hs]at h';rw[stepT_spec hs];exact Qh (n:=n) h'
noncomputable def mkT(l:List Obj):BT:=(l.foldl (λ(x:BT×Nat)o=>(x.1.ins x.2 o,x.2+1)) (BT.nil,0)).1
noncomputable def T0(w:World)(os:bE):SharedT:=⟨mkT (boot_heap w.params).objs.toList,11,(boot_heap w.params).life,⟨[]⟩,boot_drawn,boot_toks,os⟩
theorem Fw(w:World)(os:bE):(T0 w os).abs=⟨boot_heap w.params,⟨[]⟩,boot_drawn,boot_toks,os⟩:=by kernel_rfl
theorem sz(w:World):((boot_heap w.params).isNs a7&&((⟨[]⟩:Array GenState).size==0),(boot_heap w.params).objs.size,(boot_heap w.params).nsMap a7 "__annotations__")=(true,11,some (.ref 6)):=by kernel_rfl
noncomputable def go(p:Program)(n:Nat)(w:World)(os:bE):Option SharedT:=runG through (PySem.W.Fast.tw6613529449190102663 11 (some (.ref 6))) (PySem.W.Fast.tw10156331382660048174 (PySem.W.Fast.tw11892475500146522536 PySem.W.Fast.tw14364793385576792824) p w) n (T0 w os) (topStub p)
theorem go_eq(p:Program)(n:Nat)(w:World)(os:bE):go p n w os=runG through (stepOk 11 (some (.ref 6))) (stepT (denote treeTable) p w) n (T0 w os) (topStub p):=by unfold go;rw[PySem.W.Fast.te6613529449190102663,PySem.W.Fast.te10156331382660048174,PySem.W.Fast.te11892475500146522536,PySem.W.Fast.te14364793385576792824]
noncomputable def chk(p:Program)(w:World)(s:ag):Bool:=staticsOk (importedModules p.main.body) (boot_heap w.params) s.heap&&namesBound p s.heap&&gensDone s&&laidKept (boot_heap w.params) s.heap
noncomputable def lk(p:Program){α:Type}(F:ag->α)(n:Nat)(w:World)(os:bE):Option α:=@Option.rec SharedT (λ_=>Option α) none (λr=>some (F r.abs)) (go p n w os)
noncomputable abbrev lkS(p q:Program)(loose:List Str)(Xt:ag->Bool)(n:Nat)(w:World)(os:bE):=lk p (λs=>(chk p w s,aQ q loose (aP p.main.body) Xt true s)) n w os
theorem left{p q:Program}{loose:List Str}{Xt:ag->Bool}{α:Type}{Yf:ag->α}{Ya:World->α}{N:Nat}(row:String)(e1:opening p=plainProg p.main.scope.names)(e2:Nat.ble 600 N=true)(e3:∀s:ag,fenceModules? p s=some s)(hf:∀(w:World)(os:bE),lkS p q loose Xt N (w.withFollow row false) os=some (true,openGood q loose))(ht:∀(w:World)(os:bE),lkS p q loose Xt N (w.withFollow row true) os=some (true,openGood q loose))(kf:∀(w:World)(os:bE),lk p Yf N (w.withFollow row false) os=some (Ya (w.withFollow row false)))(kt:∀(w:World)(os:bE),lk p Yf N (w.withFollow row true) os=some (Ya (w.withFollow row true))):LeftO p q loose Xt Yf Ya N:=λw=>by
 have hw:∀os:bE,lkS p q loose Xt N w os=some (true,openGood q loose):=byRow2 row (P:=λw=>∀os:bE,lkS p q loose Xt N w os=some (true,openGood q loose)) hf ht w;have kw:∀os:bE,lk p Yf N w os=some (Ya w):=byRow2 row (P:=λw=>∀os:bE,lk p Yf N w os=some (Ya w)) kf kt w;obtain⟨⟨h,gs,d,k,os⟩,e,e'⟩:=b_.mp (boot_open e1 e2 e3 w);obtain⟨rfl,rfl,rfl,rfl⟩:h=boot_heap w.params/\gs=⟨[]⟩/\d=boot_drawn/\k=boot_toks:=by simpa using e'
 obtain⟨z1,z2,z3⟩:_/\_/\_:=by simpa only[gj]using sz w
 have hl:=hw os;have kl:=kw os;unfold lkS lk at hl;unfold lk at kl;rw[<-PySem.W.Fast.te4187177175401517315,<-PySem.W.Fast.te5923862056798008813]at hl;cases hg:go p N w os with
|none=>rw[hg]at hl;cases hl
|some r=>
  rw[hg]at hl kl;have hl':(chk p w r.abs,openSeen q loose (importedModules p.main.body) Xt true r.abs)=(true,openGood q loose):=au hl;have kl':Yf r.abs=Ya w:=au kl;obtain⟨l1,l2⟩:=Prod.mk.inj hl';rw[go_eq]at hg;have hr:=Qh hg;rw[Fw]at hr;have t:topFrom treeTable p w N ⟨boot_heap w.params,⟨[]⟩,boot_drawn,boot_toks,os⟩=some r.abs:=by
   unfold topFrom;dsimp only;rw[z1,z2,z3,hr];show(match chk p w r.abs with|true=>some r.abs|false=>none)=_
   rw[l1]
  unfold openEnds;rw[e];show(topFrom treeTable p w N _).map _=_;rw[t];exact congrArg some (Prod.ext l2 kl')
end RG
set_option Elab.async false
set_option linter.all false
set_option maxRecDepth 100000
set_option maxHeartbeats 4000000
namespace RG
open PySem PySem.W PyProof.Rows
noncomputable def tp(i:Nat):Stmt:=af.main.body.getD i (.Pass ⟨0,0,0,0⟩)
noncomputable def QV:Program:={af with main:={af.main with body:=[tp 0,tp 2,tp 3,tp 4,tp 5,tp 7,tp 8,tp 9,tp 10,tp 11,tp 12,tp 13,tp 14,tp 15,tp 16,tp 18,tp 19,tp 20,tp 21,tp 22,tp 23,tp 24,tp 26,tp 28,tp 29,tp 30,tp 31,tp 32,tp 33,tp 34,tp 35,tp 37,tp 38,tp 39,tp 40,tp 41,tp 42,tp 43,tp 44,tp 45,tp 46,tp 47,tp 48,tp 49,tp 50,tp 51,tp 52,tp 54,tp 55,tp 56,tp 57,tp 58,tp 59,tp 60,tp 61,tp 62,tp 63,tp 64,tp 65,tp 66,tp 67,tp 68,tp 69,tp 70,tp 71,tp 72,tp 73]}}
noncomputable abbrev LO:List Str:=["MOST_ROWS","ROW_SIZES"]
noncomputable abbrev XT:ag->Bool:=λs=>xlAt QV [] s&&recOk (RowW.records (OpenRow.toRowW (bL.row))) s
noncomputable def p1{α β:Type}(x:α×β):α:=@Prod.rec α β (λ_=>α) (λa _=>a) x
noncomputable def p2{α β:Type}(x:α×β):β:=@Prod.rec α β (λ_=>β) (λ_ b=>b) x
theorem u5(w:World)(os:bE):lk af (λs=>p1 (p2 (p2 (p2 (p2 (p2 (aQ QV LO (aP af.main.body) XT true s))))))) 14000 (w.withFollow "special-get-raises" false) os=some ((openGood QV LO).2.2.2.2.2.1):=by kernel_rfl
theorem u2(w:World)(os:bE):lk af (λs=>p1 (p2 (p2 (aQ QV LO (aP af.main.body) XT true s)))) 14000 (w.withFollow "special-get-raises" false) os=some ((openGood QV LO).2.2.1):=by kernel_rfl
theorem u0(w:World)(os:bE):lk af (λs=>p1 (aQ QV LO (aP af.main.body) XT true s)) 14000 (w.withFollow "special-get-raises" false) os=some ((openGood QV LO).1):=by kernel_rfl
theorem u3(w:World)(os:bE):lk af (λs=>p1 (p2 (p2 (p2 (aQ QV LO (aP af.main.body) XT true s))))) 14000 (w.withFollow "special-get-raises" false) os=some ((openGood QV LO).2.2.2.1):=by kernel_rfl
theorem u7(w:World)(os:bE):lk af (λs=>p1 (p2 (p2 (p2 (p2 (p2 (p2 (p2 (aQ QV LO (aP af.main.body) XT true s))))))))) 14000 (w.withFollow "special-get-raises" false) os=some ((openGood QV LO).2.2.2.2.2.2.2.1):=by kernel_rfl
theorem uA(w:World)(os:bE):lk af (λs=>(p1 (p2 (p2 (p2 (p2 (aQ QV LO (aP af.main.body) XT true s))))),p1 (p2 (p2 (p2 (p2 (p2 (p2 (aQ QV LO (aP af.main.body) XT true s))))))),p2 (p2 (p2 (p2 (p2 (p2 (p2 (p2 (aQ QV LO (aP af.main.body) XT true s)))))))))) 14000 (w.withFollow "special-get-raises" false) os=some (((openGood QV LO).2.2.2.2.1,(openGood QV LO).2.2.2.2.2.2.1,(openGood QV LO).2.2.2.2.2.2.2.2)):=by kernel_rfl
theorem uB(w:World)(os:bE):lk af (λs=>(chk af (w.withFollow "special-get-raises" false) s,p1 (p2 (aQ QV LO (aP af.main.body) XT true s)))) 14000 (w.withFollow "special-get-raises" false) os=some ((true,(openGood QV LO).2.1)):=by kernel_rfl
theorem gE(w:World)(os:bE):go af 14000 (w.withFollow "special-get-raises" true) os=go af 14000 (w.withFollow "special-get-raises" false) os:=by kernel_rfl
theorem nine{A B C D E F G H I:Type}(x y:A×B×C×D×E×F×G×H×I)(h0:p1 x=y.1)(h1:p1 (p2 x)=y.2.1)(h2:p1 (p2 (p2 x))=y.2.2.1)(h3:p1 (p2 (p2 (p2 x)))=y.2.2.2.1)(h4:p1 (p2 (p2 (p2 (p2 x))))=y.2.2.2.2.1)(h5:p1 (p2 (p2 (p2 (p2 (p2 x)))))=y.2.2.2.2.2.1)(h6:p1 (p2 (p2 (p2 (p2 (p2 (p2 x))))))=y.2.2.2.2.2.2.1)(h7:p1 (p2 (p2 (p2 (p2 (p2 (p2 (p2 x)))))))=y.2.2.2.2.2.2.2.1)(h8:p2 (p2 (p2 (p2 (p2 (p2 (p2 (p2 x)))))))=y.2.2.2.2.2.2.2.2):x=y:=by obtain⟨a,b,c,d,e,f,g,h,i⟩:=x;obtain⟨a',b',c',d',e',f',g',h',i'⟩:=y;obtain rfl:a=a':=h0;obtain rfl:b=b':=h1;obtain rfl:c=c':=h2;obtain rfl:d=d':=h3;obtain rfl:e=e':=h4;obtain rfl:f=f':=h5;obtain rfl:g=g':=h6;obtain rfl:h=h':=h7;obtain rfl:i=i':=h8;rfl
section
variable {p:Program}{n:Nat}{w:World}{os:bE}{α β:Type}
theorem Et{F:ag->α}{G:ag->β}{x:α}{y:β}(h1:lk p F n w os=some x)(h2:lk p G n w os=some y):lk p (λs=>(F s,G s)) n w os=some (x,y):=by
 unfold lk at h1 h2 ⊢;cases hg:go p n w os with
|none=>rw[hg]at h1;cases h1
|some r=>rw[hg]at h1 h2;exact congrArg some (congr (congrArg Prod.mk (au h1)) (au h2))
theorem RD{F:ag->α}{G:ag->β}{x:α}{y:β}(h:lk p (λs=>(F s,G s)) n w os=some (x,y)):lk p F n w os=some x:=by
 unfold lk at h ⊢;cases hg:go p n w os with
|none=>rw[hg]at h;cases h
|some r=>rw[hg]at h;exact congrArg some (Prod.mk.inj (au h)).1
theorem PJ{F:ag->α}{G:ag->β}{x:α}{y:β}(h:lk p (λs=>(F s,G s)) n w os=some (x,y)):lk p G n w os=some y:=by
 unfold lk at h ⊢;cases hg:go p n w os with
|none=>rw[hg]at h;cases h
|some r=>rw[hg]at h;exact congrArg some (Prod.mk.inj (au h)).2
theorem Eu{A B C D E F G H I:Type}{X:ag->A×B×C×D×E×F×G×H×I}{y:A×B×C×D×E×F×G×H×I}(h0:lk p (λs=>p1 (X s)) n w os=some y.1)(h1:lk p (λs=>p1 (p2 (X s))) n w os=some y.2.1)(h2:lk p (λs=>p1 (p2 (p2 (X s)))) n w os=some y.2.2.1)(h3:lk p (λs=>p1 (p2 (p2 (p2 (X s))))) n w os=some y.2.2.2.1)(h4:lk p (λs=>p1 (p2 (p2 (p2 (p2 (X s)))))) n w os=some y.2.2.2.2.1)(h5:lk p (λs=>p1 (p2 (p2 (p2 (p2 (p2 (X s))))))) n w os=some y.2.2.2.2.2.1)(h6:lk p (λs=>p1 (p2 (p2 (p2 (p2 (p2 (p2 (X s)))))))) n w os=some y.2.2.2.2.2.2.1)(h7:lk p (λs=>p1 (p2 (p2 (p2 (p2 (p2 (p2 (p2 (X s))))))))) n w os=some y.2.2.2.2.2.2.2.1)(h8:lk p (λs=>p2 (p2 (p2 (p2 (p2 (p2 (p2 (p2 (X s))))))))) n w os=some y.2.2.2.2.2.2.2.2):lk p X n w os=some y:=by
 unfold lk at *;cases hg:go p n w os with
|none=>rw[hg]at h0;cases h0
|some r=>rw[hg]at h0 h1 h2 h3 h4 h5 h6 h7 h8;exact congrArg some (nine _ _ (au h0) (au h1) (au h2) (au h3) (au h4) (au h5) (au h6) (au h7) (au h8))
end
theorem lg(w:World)(os:bE):lk af (λs=>aQ QV LO (aP af.main.body) XT true s) 14000 (w.withFollow "special-get-raises" false) os=some (openGood QV LO):=Eu (u0 w os) (PJ (uB w os)) (u2 w os) (u3 w os) (RD (uA w os)) (u5 w os) (RD (PJ (uA w os))) (u7 w os) (PJ (PJ (uA w os)))
theorem lf(w:World)(os:bE):lkS af QV LO XT 14000 (w.withFollow "special-get-raises" false) os=some (true,openGood QV LO):=Et (RD (uB w os)) (lg w os)
theorem AI{p:Program}{n:Nat}{w w':World}{os:bE}{α:Type}{F:ag->α}(h:go p n w os=go p n w' os):lk p F n w os=lk p F n w' os:=by unfold lk;rw[h]
theorem lkE{α:Type}(F:ag->α)(w:World)(os:bE):lk af F 14000 (w.withFollow "special-get-raises" true) os=lk af F 14000 (w.withFollow "special-get-raises" false) os:=AI (gE w os)
theorem chkE(w:World):chk af (w.withFollow "special-get-raises" true)=chk af (w.withFollow "special-get-raises" false):=rfl
theorem lt(w:World)(os:bE):lkS af QV LO XT 14000 (w.withFollow "special-get-raises" true) os=some (true,openGood QV LO):=by have h:=lf w os;unfold lkS at h ⊢;rw[lkE,chkE];exact h
theorem AJ{α:Type}{Yf:ag->α}{Ya:World->α}(e1:opening af=plainProg af.main.scope.names)(e3:∀s:ag,fenceModules? af s=some s)(kf:∀(w:World)(os:bE),lk af Yf 14000 (w.withFollow "special-get-raises" false) os=some (Ya (w.withFollow "special-get-raises" false)))(hv:∀w:World,Ya (w.withFollow "special-get-raises" true)=Ya (w.withFollow "special-get-raises" false)):LeftO af QV LO XT Yf Ya 14000:=left "special-get-raises" e1 (by decide) e3 lf lt kf λw os=>by rw[lkE,kf w os,hv w]
end RG
section
open PySem PySem.W PyProof.Rows
set_option hygiene false in
local macro_rules
|`(tactic| o_head $H)=>`(tactic| (have HH:=$H;exact z.elim))
set_option maxRecDepth 100000 in
set_option maxHeartbeats 0 in
theorem RG.hk(z:False):bL.Holds:=by w_on;o_law;k_head
end
namespace RG
open PySem PySem.W PyProof.Rows
noncomputable def AS:List Addr:=[2,3,15,17,18,20,21,22,29,30,31,32,35,42,44,45,47,48,49,50,51,54,61,63,64,66,67,68,69,70,73,80,82,83,85,86,87,88,89,92,94,95,97,98,99,101,102,104,105,106,109,110,111,113,114,116,117,118,120,121,123,124,132,134,135,137,138,139,141,142,144,145,146,148,149,151,152,153,155,156,158,159,160,162,163,165,166,167,169,170,172,173,174,175,176,177,178,181,188,190,191,193,194,195,196,197,200,207,209,210,212,213,214,215,216,219,226,228,229,231,232,233,234,235,238,241,242,243,246,247,248,251,252,253,255,256,258,259,260,262,263,265,266,267,269,270,272,273,274,276,277,279,280,281,284,285,286,289,290,291,294,295,296,299,300,301,304,305,306,307,308,310,311,313,314,315,317,318,320,321,322,324,325,327,328,329,331,332,334,335,336,338,339,341,342,343,345,346,348,349,350,352,353,355,356,357,359,360,362,363,364,366,367,369,370,378,380,381,383,384,385,387,388,390,391,392,394,395,397,398,399,401,402,404,405,406,408,409,411,412,413,415,416,418,419,420,422,423,425,426,427,429,430,432,433,434,436,437,439,440,441,443,444,446,447,448,450,451,453,454,455,457,458,460,461,462,464,465,467,468,469,471,472,474,475,476,478,479,481,482,483,485,486,488,489,490,493,494,495,497,498,500,501,502,504,505,507,508,509,511,512,514,515,516,518,519,521,522,523,525,526,528,529,530,532,533,535,536,537,539,540,542,543,544,546,547,549,550,551,552,553,554,555,558,560,561,563,564,565,567,568,570,571,572,574,575,577,578,579,582,583,584,586,587,589,590,591,593,594,596,597,598,600,601,603,604,605,607,608,610,611,612,615,616,617,619,620,622,623,624,626,627,629,630,631,633,634,636,637,638,641,642,643,646,647,648,651,652,653,656,657,658,660,661,663,664,665,667,668,670,671,672,674,675,677,678,679,681,682,684,685]
theorem eK(P:Params):AS=(RG.hk.heap_39 P).map (·.1):=by kernel_rfl
theorem kfE(w:World)(os:bE):lk af (λs=>AS.map s.heap.get?) 14000 (w.withFollow "special-get-raises" false) os=some ((RG.hk.heap_39 (w.withFollow "special-get-raises" false).params).map λp=>some p.2):=by kernel_rfl
end RG
namespace L2
open PySem PySem.Spec PyProof.Rows
noncomputable abbrev Key:=Sum Int Str
noncomputable def MZ:Key->Value->Bool
|.inl k,v=>Value.isInt k v
|.inr x,v=>Value.isStrOf x v
noncomputable def keyH(w:World):Key->Int
|.inl k=>hashInt k
|.inr x=>hashStr w x
theorem ZP:∀{k:Key}{v:Value},MZ k v=true->(∃i t,k=gC i/\v=Value.int i t)\/(∃x t,k=cV x/\v=Value.str x t)
|.inl i,v,h=>by obtain⟨t,e⟩:=Value.isInt_shape (k:=i) (v:=v) h;exact .inl ⟨i,t,rfl,e⟩
|.inr x,v,h=>by obtain⟨t,e⟩:=Value.isStrOf_shape (x:=x) (v:=v) h;exact .inr ⟨x,t,rfl,e⟩
theorem Wn(i:Int)(t:Tok):MZ (.inl i) (.int i t)=true:=by simp[MZ,Value.isInt]
theorem Wm(x:Str)(t:Tok):MZ (.inr x) (.str x t)=true:=by simp[MZ,Value.isStrOf]
theorem HG(a b:Int):decide ((gC a:Key)=gC b)=(a==b):=by
 by_cases e:a=b
 ·subst e;simp
 ·have h:¬(gC a:Key)=gC b:=λq=>e (Sum.inl.inj q);rw[decide_eq_false h];exact(beq_eq_false_iff_ne.mpr e).symm
theorem HD(a b:Str):decide ((cV a:Key)=cV b)=decide (a=b):=by
 by_cases e:a=b
 ·subst e;simp
 ·have h:¬(cV a:Key)=cV b:=λq=>e (Sum.inr.inj q);rw[decide_eq_false h,decide_eq_false e]
theorem HF(a:Int)(b:Str):decide ((gC a:Key)=cV b)=false:=decide_eq_false (λq=>nomatch q)
theorem HE(a:Str)(b:Int):decide ((cV a:Key)=gC b)=false:=decide_eq_false (λq=>nomatch q)
noncomputable def ZH(prog:Program)(w:World):PySem.KeyKind prog w Key where
 is:=MZ
 hash:=keyH w
 inj:=λv a b ha hb=>by
  rcases ZP ha with⟨i,t,rfl,rfl⟩|⟨x,t,rfl,rfl⟩
  ·rcases ZP hb with⟨j,u,rfl,e⟩|⟨y,u,rfl,e⟩
   ·injection e with e1 _;rw[e1]
   ·exact nomatch e
  ·rcases ZP hb with⟨j,u,rfl,e⟩|⟨y,u,rfl,e⟩
   ·exact nomatch e
   ·injection e with e1 _;rw[e1]
 byValue:=λk v h=>by rcases ZP h with⟨i,t,rfl,rfl⟩|⟨x,t,rfl,rfl⟩<;>rfl
 pyHash:=λhv h=>by
  rcases ZP hv with⟨i,t,rfl,rfl⟩|⟨x,t,rfl,rfl⟩
  ·exact wpAny_pyHash_int h
  ·exact wpAny_pyHash_str h
 eqBool:=λhu hv h=>by
  rcases ZP hu with⟨i,t,rfl,rfl⟩|⟨x,t,rfl,rfl⟩
  ·rcases ZP hv with⟨j,u,rfl,rfl⟩|⟨y,u,rfl,rfl⟩
   ·rw[HG]at h;exact wpAny_eqBool_int h
   ·rw[HF]at h;exact SeqAt.EqAt.int_str i t y u _ _ _ _ h
  ·rcases ZP hv with⟨j,u,rfl,rfl⟩|⟨y,u,rfl,rfl⟩
   ·rw[HE]at h;exact SeqAt.EqAt.str_int x t j u _ _ _ _ h
   ·rw[HD]at h;exact wpAny_eqBool_str h
 «strs»:=λk x t v h=>by
  rcases ZP h with⟨i,u,rfl,e⟩|⟨y,u,rfl,e⟩
  ·exact nomatch e
  ·injection e with e1 _
   subst e1
   cases v<;>rfl
theorem Qz(prog:Program)(w:World)(i:Int)(t:Tok):(ZH prog w).is (.inl i) (.int i t)=true:=Wn i t
theorem Qy(prog:Program)(w:World)(x:Str)(t:Tok):(ZH prog w).is (.inr x) (.str x t)=true:=Wm x t
open PySem PySem.Spec PyProof.Rows
inductive V where
|non|bl (b:Bool)|int (i:Int)|str (x:Str)|byt (b:Array UInt8)|flt (b:UInt64)|ref (a:Addr)|ty (n:String)
 deriving DecidableEq
noncomputable def RelV:V->Value->Prop
|.non,u=>u=Value.none
|.bl b,u=>u=Value.bool b
|.int i,u=>∃t,u=Value.int i t
|.str x,u=>∃t,u=Value.str x t
|.byt b,u=>∃t,u=Value.bytes b t
|.flt b,u=>∃t,u=Value.float b t
|.ref a,u=>u=Value.ref a
|.ty n,u=>u=Value.type n
noncomputable abbrev Vals:List V->List Value->Prop:=bj RelV
theorem Vals.length{xs:List V}{us:List Value}(r:Vals xs us):xs.length=us.length:=aK r
theorem Vals.get:∀{xs:List V}{us:List Value}{i:Nat}{x:V},Vals xs us->xs[i]?=some x->∃u,us[i]?=some u/\RelV x u
|_,_,_,_,.nil,e=>by simp at e
|_,_,0,_,.cons r _,e=>by simp at e;subst e;exact⟨_,rfl,r⟩
|_,_,i+1,x,.cons _ t,e=>by obtain⟨u,h1,h2⟩:=Vals.get (i:=i) (x:=x) t (by simpa using e);exact⟨u,by simpa using h1,h2⟩
theorem Vals.set{x:V}{u:Value}(r:RelV x u):∀{xs:List V}{us:List Value}(i:Nat),Vals xs us->Vals (xs.set i x) (us.set i u)
|_,_,_,.nil=>.nil
|_,_,0,.cons _ t=>.cons r t
|_,_,i+1,.cons q t=>.cons q (Vals.set r i t)
theorem Vals.append:∀{xs ys:List V}{us ws:List Value},Vals xs us->Vals ys ws->Vals (xs++ys) (us++ws)
|_,_,_,_,.nil,s=>s
|_,_,_,_,.cons r t,s=>.cons r (Vals.append t s)
theorem Vals.take:∀{xs:List V}{us:List Value}(n:Nat),Vals xs us->Vals (xs.take n) (us.take n)
|_,_,0,_=>.nil
|_,_,_+1,.nil=>.nil
|_,_,n+1,.cons r t=>.cons r (Vals.take n t)
theorem Vals.drop:∀{xs:List V}{us:List Value}(n:Nat),Vals xs us->Vals (xs.drop n) (us.drop n)
|_,_,0,r=>r
|_,_,_+1,.nil=>.nil
|_,_,n+1,.cons _ t=>Vals.drop n t
noncomputable def RelO:Option V->Option Value->Prop
|some v,some u=>RelV v u
|none,none=>True
|_,_=>False
noncomputable def KV{κ:Type}:List (κ×V)->List (κ×Value)->Prop:=bj λ(p:κ×V)(q:κ×Value)=>p.1=q.1/\RelV p.2 q.2
noncomputable def kV:Key->V
|.inl i=>.int i
|.inr x=>.str x
inductive HO where
|lst (xs:List V)
|tup (xs:List V)
|dK (kvs:List (Key×V))|dT (kvs:List (List Key×V))
|set (S:Int->Bool) (n:Nat)
|ins (C dx:Addr) (fs:List (Str×V))
|own (x:Addr)
|xd (fs:List (Str×V))
|met (f x:Addr)
|rng (lo hi:Int)
|frz (o:Obj) (u:HO)
|tbl (ps:Array Value)
|ext (φ:Heap->Prop)
noncomputable abbrev Hp:=Addr->Option HO
noncomputable def upd(H:Hp)(a:Addr)(o:HO):Hp:=λb=>if b=a then some o else H b
theorem Zf{H:Hp}{a:Addr}{o:HO}:upd H a o a=some o:=by unfold upd;rw[if_pos rfl]
theorem Zg{H:Hp}{a b:Addr}{o:HO}(h:b≠a):upd H a o b=H b:=by unfold upd;rw[if_neg h]
theorem DI{H:Hp}{a:Addr}{o u:HO}:upd (upd H a o) a u=upd H a u:=by funext b;unfold upd;split<;>rfl
theorem ne_of{H:Hp}{a b:Addr}{o u:HO}(h:H a=some o)(h':H b=some u)(d:o≠u):a≠b:=by intro e;subst e;rw[h]at h';exact d (au h')
theorem Zi{H:Hp}{a b:Addr}{o:HO}(h:H a=some o)(h':H b=none):a≠b:=by intro e;subst e;rw[h]at h';cases h'
section
variable (P:Program)(w:World)
noncomputable def ZR(H:Hp)(h:Heap)(a:Addr):HO->Prop
|.lst xs=>xs.length<=sizeLine/\∃(its:List Value)(n:Nat),Vals xs its/\h.get? a=some {cls:=.type "list",data:=.seq its.toArray n}
|.tup xs=>xs.length<=sizeLine/\∃its:List Value,Vals xs its/\IsTup h a its.toArray
|.dK kvs=>kvs.length<=sizeLine/\(a==sysModules)=false/\∃vs,KV kvs vs/\h.DictOf (ZH P w) a vs
|.dT kvs=>kvs.length<=sizeLine/\(a==sysModules)=false/\∃xs:List (List Key×Addr×Value),bj (λ(p:List Key×V)(q:List Key×Addr×Value)=>p.1=q.1/\H q.2.1=some (.tup (p.1.map kV))/\RelV p.2 q.2.2) kvs xs /\∃o es ep,h.get? a=some o/\o.ExactDict/\o.data=.dict es ep/\es.toList=xs.map (entryOfKey (cz (ZH P w)))/\(xs.map (·.1)).Nodup
|.set S n=>h.SetOf (intKind P w) a S n
|.ins C dx fs=>H dx=some (.own a)/\fs.length<=1000/\dx≠a/\h.get? a=some (cy C dx) /\∃mA,h.Ns1 dx mA/\(∀f,RelO (fs.lookup f) (mA f))/\dB mA (fs.map (·.1))
|.own _=>∃o,h.get? a=some o
|.xd fs=>∃mA,h.Ns1 a mA/\∀f,RelO (fs.lookup f) (mA f)
|.rng lo hi=>∃t u v,h.get? a=some {cls:=.type "range",data:=.fields #[.int lo t,.int hi u,.int 1 v]}
|.frz o u=>h.get? a=some o/\ZR H h a u
|.tbl ps=>h.get? a=some {cls:=.none,data:=.fields ps}
|.met f x=>h.get? a=some (gS (.ref f) (.ref x))
|.ext φ=>φ h/\(∃o,h.get? a=some o)/\∀h1 h2:Heap,φ h1->(∀o,h1.get? a=some o->h2.get? a=some o)->φ h2
def HOk(H:Hp)(h:Heap):Prop:=∀a o,H a=some o->ZR P w H h a o
end
section
variable {P:Program}{w:World}{H H':Hp}{h h':Heap}{a:Addr}{o:HO}
theorem ZR.lt(x:ZR P w H h a o):a<h.objs.size:=by
 cases o with
|lst xs=>obtain⟨_,_,_,_,e⟩:=x;exact Heap.lt_size e
|tup xs=>obtain⟨_,_,_,p⟩:=x;exact p.lt
|dK kvs=>obtain⟨_,_,_,_,o,_,_,e,_⟩:=x;exact Heap.lt_size e
|dT kvs=>obtain⟨_,_,_,_,o,_,_,e,_⟩:=x;exact Heap.lt_size e
|set S n=>obtain⟨o,_,_,_,e,_⟩:=x;exact Heap.lt_size e
|ins C dx fs=>obtain⟨_,_,_,e,_⟩:=x;exact Heap.lt_size e
|own y=>obtain⟨_,e⟩:=x;exact Heap.lt_size e
|xd fs=>obtain⟨_,⟨_,_,_,e,_⟩,_⟩:=x;exact Heap.lt_size e
|rng lo hi=>obtain⟨_,_,_,e⟩:=x;exact Heap.lt_size e
|frz ob u=>obtain⟨e,_⟩:=x;exact Heap.lt_size e
|tbl ps=>exact Heap.lt_size (show h.get? a=some _ from x)
|met f y=>exact Heap.lt_size (show h.get? a=some _ from x)
|ext φ=>obtain⟨_,⟨_,e⟩,_⟩:=x;exact Heap.lt_size e
theorem Paired.mapP{α β:Type}{F G:α->β->Prop}:∀{l₁:List α}{l₂:List β},bj F l₁ l₂->(∀a b,F a b->G a b)->bj G l₁ l₂
|_,_,.nil,_=>.nil
|_,_,.cons r t,f=>.cons (f _ _ r) (Paired.mapP t f)
theorem ZR.stay(x:ZR P w H h a o)(k:∀b u,(b=a\/H b=some (.own a))->h.get? b=some u->h'.get? b=some u)(ho:∀b,H b=some (.own a)->H' b=some (.own a))(ht:∀b xs,H b=some (.tup xs)->H' b=some (.tup xs)):ZR P w H' h' a o:=by
 induction o with
|lst xs=>obtain⟨z,its,n,r,e⟩:=x;exact⟨z,its,n,r,k _ _ (.inl rfl) e⟩
|tup xs=>obtain⟨z,its,r,ob,e,c⟩:=x;exact⟨z,its,r,ob,k _ _ (.inl rfl) e,c⟩
|dK kvs=>obtain⟨z,y,vs,r,ob,es,ep,e,c⟩:=x;exact⟨z,y,vs,r,ob,es,ep,k _ _ (.inl rfl) e,c⟩
|dT kvs=>obtain⟨z,y,xs,r,ob,es,ep,e,c⟩:=x;exact⟨z,y,xs,Paired.mapP r λp q z=>⟨z.1,ht _ _ z.2.1,z.2.2⟩,ob,es,ep,k _ _ (.inl rfl) e,c⟩
|set S n=>obtain⟨ob,es,ep,t,e,c⟩:=x;exact⟨ob,es,ep,t,k _ _ (.inl rfl) e,c⟩
|ins C dx fs=>obtain⟨d,z,ne,e,mA,⟨od,es,ep,e2,c⟩,r⟩:=x;exact⟨ho _ d,z,ne,k _ _ (.inl rfl) e,mA,⟨od,es,ep,k _ _ (.inr d) e2,c⟩,r⟩
|own y=>obtain⟨ob,e⟩:=x;exact⟨ob,k _ _ (.inl rfl) e⟩
|xd fs=>obtain⟨mA,⟨od,es,ep,e,c⟩,r⟩:=x;exact⟨mA,⟨od,es,ep,k _ _ (.inl rfl) e,c⟩,r⟩
|rng lo hi=>obtain⟨t,u,v,e⟩:=x;exact⟨t,u,v,k _ _ (.inl rfl) e⟩
|frz ob u ih=>obtain⟨e,q⟩:=x;exact⟨k _ _ (.inl rfl) e,ih q⟩
|tbl ps=>have e:h.get? a=some {cls:=.none,data:=.fields ps}:=x;show h'.get? a=some {cls:=.none,data:=.fields ps};exact k a _ (.inl rfl) e
|met f y=>have e:h.get? a=some (gS (.ref f) (.ref y)):=x;show h'.get? a=some (gS (.ref f) (.ref y));exact k a _ (.inl rfl) e
|ext φ=>obtain⟨p,⟨o,e⟩,st⟩:=x;exact⟨st _ _ p λo q=>k _ _ (.inl rfl) q,⟨o,k _ _ (.inl rfl) e⟩,st⟩
theorem HOk.lt(x:HOk P w H h)(e:H a=some o):a<h.objs.size:=(x a o e).lt
theorem HOk.fresh(x:HOk P w H h)(e:h.objs.size<=a):H a=none:=by
 cases q:H a with
|none=>rfl
|some u=>exact absurd (Nat.lt_of_lt_of_le (x.lt q) e) (Nat.lt_irrefl _)
theorem HOk.kept(x:HOk P w H h)(k:∀b u,h.get? b=some u->h'.get? b=some u):HOk P w H h':=λa o e=>(x a o e).stay (λb u _ q=>k b u q) (λ_ q=>q) λ_ _ q=>q
theorem HOk.laid(x:HOk P w H h)(k:∀b u,h.get? b=some u->h'.get? b=some u)(hp:h.objs.size<=a)(new:ZR P w (upd H a o) h' a o):HOk P w (upd H a o) h':=λb u e=>by
 have hn:=x.fresh hp;by_cases hb:b=a
 ·subst hb;rw[Zf]at e;cases e;exact new
 ·rw[Zg hb]at e;exact(x b u e).stay (λc v _ q=>k c v q) (λc q=>by rw[Zg (Zi q hn)];exact q) λc xs q=>by rw[Zg (Zi q hn)];exact q
end
def Rd(H:Hp)(a:Addr)(u:HO):Prop:=H a=some u\/∃o,H a=some (.frz o u)
theorem Rd.ok{P:Program}{w:World}{H:Hp}{h:Heap}{a:Addr}{u:HO}(r:Rd H a u)(x:HOk P w H h):ZR P w H h a u:=by
 rcases r with r|⟨o,r⟩
 ·exact x a u r
 ·obtain⟨_,q⟩:=x a _ r;exact q
noncomputable def Mut:Option HO->Prop
|some (.lst _)=>True
|some (.dK _)=>True
|some (.dT _)=>True
|some (.set _ _)=>True
|some (.ins _ _ _)=>True
|some (.ext _)=>True
|_=>False
section
variable {P:Program}{w:World}{H:Hp}{h h':Heap}{x e:Addr}{o':HO}
theorem HOk.write(ok:HOk P w H h)(mu:Mut (H x))(he:e=x\/H e=some (.own x))(k:∀b u,b≠e->h.get? b=some u->h'.get? b=some u)(heo:∃u,h'.get? e=some u)(new:ZR P w (upd H x o') h' x o'):HOk P w (upd H x o') h':=λb u q=>by
 have nown:∀c y,H c=some (.own y)->c≠x:=λc y r z=>by subst z;rw[r]at mu;exact mu
 have ntup:∀c xs,H c=some (.tup xs)->c≠x:=λc xs r z=>by subst z;rw[r]at mu;exact mu
 by_cases hb:b=x
 ·subst hb;rw[Zf]at q;cases q;exact new
 ·rw[Zg hb]at q;by_cases hbe:b=e
  ·have q':H b=some (.own x):=by
    rcases he with z|z
    ·exact absurd (hbe.trans z) hb
    ·rw[hbe];exact z
   rw[q]at q';cases q';obtain⟨v,hv⟩:=heo;exact⟨v,by rw[hbe];exact hv⟩
  ·refine(ok b u q).stay (λc v hc r=>k c v ?_ r) (λc r=>by rw[Zg (nown c b r)];exact r) λc xs r=>by rw[Zg (ntup c xs r)];exact r
   rcases hc with rfl|hc
   ·exact hbe
   ·rintro rfl;rcases he with z|z
    ·exact nown c b hc z
    ·rw[hc]at z;cases z;exact hb rfl
end
structure Un(fs ex:List Addr)(H H':Hp)(h h':Heap):Prop where
 keep:∀b o,h.get? b=some o->H b=none->b∉fs->b∉ex->h'.get? b=some o
 slot:∀b o,h.get? b=some o->H b=none->b∈fs->b∉ex->∃sl,h'.get? b=some {o with slots:=sl}
 free:∀b o,h.get? b=some o->H b=none->b∉ex->H' b=none
 there:∀b o,h.get? b=some o->b∉ex->∃o',h'.get? b=some o'
 tups:∀b xs,H b=some (.tup xs)->H' b=some (.tup xs)
 frzs:∀b o u,H b=some (.frz o u)->H' b=some (.frz o u)
 tbls:∀b ps,H b=some (.tbl ps)->∃more,H' b=some (.tbl (ps++more))
section
variable {fs fs' ex ex':List Addr}{H H1 H2:Hp}{h h1 h2 h':Heap}{a x e:Addr}{o:HO}
theorem Un.any(u:Un fs ex H H1 h h1){b:Addr}{ob:Obj}(q:h.get? b=some ob)(n:H b=none)(hx:b∉ex):∃sl,h1.get? b=some {ob with slots:=sl}:=by
 by_cases hb:b∈fs
 ·exact u.slot b ob q n hb hx
 ·exact⟨ob.slots,u.keep b ob q n hb hx⟩
theorem Un.kept(k:∀b u,h.get? b=some u->h'.get? b=some u):Un fs ex H H h h':=⟨λb ob q _ _ _=>k b ob q,λb ob q _ _ _=>⟨ob.slots,k b ob q⟩,λ_ _ _ n _=>n,λb ob q _=>⟨ob,k b ob q⟩,λ_ _ q=>q,λ_ _ _ q=>q,λ_ ps q=>⟨#[],by rw[q];simp⟩⟩
theorem Un.refl:Un fs ex H H h h:=Un.kept λ_ _ q=>q
theorem Un.laid(k:∀b u,h.get? b=some u->h'.get? b=some u)(hp:h.objs.size<=a)(hn:H a=none):Un fs ex H (upd H a o) h h' where
 keep:=λb u q _ _ _=>k b u q
 slot:=λb u q _ _ _=>⟨u.slots,k b u q⟩
 free:=λb u q n _=>by rw[Zg (Nat.ne_of_lt (Nat.lt_of_lt_of_le (Heap.lt_size q) hp))];exact n
 there:=λb u q _=>⟨u,k b u q⟩
 tups:=λb xs q=>by rw[Zg (Zi q hn)];exact q
 frzs:=λb u xs q=>by rw[Zg (Zi q hn)];exact q
 tbls:=λb ps q=>⟨#[],by rw[Zg (Zi q hn),q];simp⟩
theorem Un.write(mu:Mut (H x))(he:e=x\/H e=some (.own x))(k:∀b u,b≠e->h.get? b=some u->h'.get? b=some u)(heo:∃u,h'.get? e=some u):Un fs ex H (upd H x o) h h':=by
 have hx:∀b,H b=none->b≠x:=λb n z=>by subst z;rw[n]at mu;exact mu
 have hb:∀b,H b=none->b≠e:=λb n z=>by
  subst z;rcases he with r|r
  ·exact hx b n r
  ·rw[n]at r;cases r
 have hm:∀b u,H b=some u->¬Mut (some u)->b≠x:=λb u q nm z=>by subst z;rw[q]at mu;exact nm mu
 refine⟨λb u q n _ _=>k b u (hb b n) q,λb u q n _ _=>⟨u.slots,k b u (hb b n) q⟩,λb u q n _=>by rw[Zg (hx b n)];exact n,λb u q _=>?_,
  λb xs q=>by rw[Zg (hm b _ q λz=>z)];exact q,λb u xs q=>by rw[Zg (hm b _ q λz=>z)];exact q,λb ps q=>⟨#[],by rw[Zg (hm b _ q λz=>z),q];simp⟩⟩;by_cases hbe:b=e
 ·subst hbe;exact heo
 ·exact⟨u,k b u hbe q⟩
end
noncomputable def trk(h:Heap)(H:Hp):List Addr:=(aV h.objs.size).filter λa=>(H a).isSome
noncomputable def hidT(h:Heap)(H:Hp):Heap:=fO h (trk h H)
theorem Wr(h:Heap)(H:Hp):(hidT h H).objs.size=h.objs.size:=PySem.W.hideAll_size _ _
theorem LP{h:Heap}{H:Hp}{b:Addr}{o:Obj}(e:h.get? b=some o)(n:H b=none):(hidT h H).get? b=some o:=PySem.W.hideAll_get _ e λhm=>by have q:(H b).isSome=true:=(bA.mp hm).2;rw[n]at q;simp at q
theorem Ej{h:Heap}{H:Hp}{b:Addr}{o:Obj}(e:(hidT h H).get? b=some o):h.get? b=some o/\H b=none:=by
 have e':h.get? b=some o:=PySem.W.of_hideAll (trk h H) e;refine⟨e',?_⟩;cases q:H b with
|none=>rfl
|some x=>have hm:b∈trk h H:=bA.mpr ⟨bp.mpr (Heap.lt_size e'),by simp[q]⟩;have z:(hidT h H).get? b=none:=f9 (trk h H) hm;rw[z]at e;cases e
noncomputable def EM(g h:Heap)(L:Addr):List (Addr×Obj):=(aV h.objs.size).filterMap λa=>if a=L\/(g.get? a).isSome=true then none else(h.get? a).map λo=>(a,o)
noncomputable def rest(g h:Heap)(L d:Addr):List (Addr×Obj):=(EM g h L).filter λp=>decide (p.1≠d)
open PySem PySem.Spec PyProof.Rows
structure Mod(K:aa)(mg:Str->Option Value)(base:Heap):Prop where
 kin:K.In base
 glob:base.Ns a7 mg
 blt:∃mb,base.Ns builtinsNs mb/\∀x:Str,x≠"__name__"->mb x=bF x
 nolimit:base.NoLimit
structure Cx where
 prog:Program
 w:World
 K:aa
 mg:Str->Option Value
 base:Heap
 A:a9
 N:List Str
 s₀:ag
 H₀:Hp
 env:Env
 outer:List Env
 stack:List Env
 ex:List Addr
 fn:Str->Bool
 calm:Bool
 pn:List (Addr×Obj)
 xe:Value->ag->Prop
noncomputable def frs(l:List Env):List Addr:=l.filterMap (·.frame)
noncomputable abbrev Cx.fs(X:Cx):List Addr:=frs X.outer
def Vis(sc:Scope)(x:Str):Prop:=sc.names.lookup x=some .local\/sc.names.lookup x=some .cell\/sc.names.lookup x=some .free
def Loc(sc:Scope)(x:Str):Prop:=sc.names.lookup x=some .local\/sc.names.lookup x=some .cell
def Look(env:Env)(h:Heap)(m:Str->Option Value)(x:Str)(u:Value):Prop:=(env.kindOf x=some .local/\m x=some u)\/((env.kindOf x=some .cell\/env.kindOf x=some .free)/\∃c,env.cells.lookup x=some c/\h.IsCell c (some u))
structure Cx.Ok(X:Cx):Prop where
 mod:Mod X.K X.mg X.base
 kind:X.env.scope.kind=.function
 glob:X.env.globals=a7
 blt:X.env.builtins=builtinsNs
 above:X.s₀.heap.objs.size<=X.env.locals
 inj:∀x y c,X.env.cells.lookup x=some c->X.env.cells.lookup y=some c->x=y
 has:∀x,(X.env.kindOf x=some .cell\/X.env.kindOf x=some .free)->∃c,X.env.cells.lookup x=some c
 cab:∀x c,X.fn x=true->X.env.cells.lookup x=some c->X.s₀.heap.objs.size<=c
 hd:X.calm=true->X.A.handled=none
 frames:X.A.frames=some X.stack
 stk:X.stack=X.outer\/(X.stack=X.env::X.outer/\X.env.frame=some X.env.locals)
 exf:∀b∈X.ex,b≠X.env.locals/\∀x c,X.env.cells.lookup x=some c->c≠b
 bs:∀b o,X.base.get? b=some o->X.s₀.heap.get? b=some o/\X.H₀ b=none
 bsz:X.base.objs.size<=X.s₀.heap.objs.size
 noex:∀b o,X.base.get? b=some o->b∉X.ex
 exfs:∀b∈X.ex,b∉X.fs
 funs:X.s₀.heap.FunFrames X.base X.outer
 frf:∀b∈X.fs,X.H₀ b=none
structure Inv(X:Cx)(pins:List (Addr×Obj))(σ:List (Option V))(H:Hp)(s:ag):Prop where
 ok:X.Ok
 os:s.os=X.s₀.os
 bare:fE s.gens
 base:Un X.fs X.ex X.H₀ H X.s₀.heap s.heap
 loc:∃m,s.heap.Ns X.env.locals m/\∀(i:Nat)(x:Str)(v:V),X.N[i]?=some x->σ[i]?=some (some v)->Vis X.env.scope x->∃u,RelV v u/\Look X.env s.heap m x u
 cell:∀x c,X.env.cells.lookup x=some c->∃v,s.heap.IsCell c v
 free:H X.env.locals=none
 freeC:∀x c,X.env.cells.lookup x=some c->H c=none
 pin:∀p∈X.pn++pins,s.heap.get? p.1=some p.2/\H p.1=none/\p.1≠X.env.locals/\p.1∉X.fs/\∀v,p.2.data≠.cell v
 hok:HOk X.prog X.w H s.heap
 len:σ.length=X.N.length
section
variable {X:Cx}{pins:List (Addr×Obj)}{σ:List (Option V)}{H H':Hp}{s:ag}{h':Heap}
theorem Cx.Ok.nofr(ok:X.Ok){b:Addr}{o:Obj}(e:X.base.get? b=some o):b∉X.fs:=λhb=>by have:=(ok.funs.mem hb).1;rw[e]at this;cases this
theorem Inv.bs(I:Inv X pins σ H s):∀b o,X.base.get? b=some o->s.heap.get? b=some o/\H b=none:=λb o e=>⟨I.base.keep b o (I.ok.bs b o e).1 (I.ok.bs b o e).2 (I.ok.nofr e) (I.ok.noex b o e),I.base.free b o (I.ok.bs b o e).1 (I.ok.bs b o e).2 (I.ok.noex b o e)⟩
theorem Inv.bk(I:Inv X pins σ H s):∀b o,X.base.get? b=some o->s.heap.get? b=some o:=λb o e=>(I.bs b o e).1
theorem Inv.mod(I:Inv X pins σ H s):Mod X.K X.mg X.base:=I.ok.mod
theorem Inv.kIn(I:Inv X pins σ H s):X.K.In s.heap:=I.ok.mod.kin.keeps I.bk
theorem Inv.lt(I:Inv X pins σ H s):X.env.locals<s.heap.objs.size:=let ⟨_,hn,_⟩:=I.loc;hn.lt
theorem Inv.sz(I:Inv X pins σ H s):X.s₀.heap.objs.size<=s.heap.objs.size:=Nat.le_trans I.ok.above (Nat.le_of_lt I.lt)
theorem Inv.nofs(I:Inv X pins σ H s){a:Addr}(h:s.heap.objs.size<=a):a∉X.fs:=λhb=>by obtain⟨_,o,ho,_⟩:=I.ok.funs.mem hb;exact absurd (Nat.lt_of_lt_of_le (Heap.lt_size ho) (Nat.le_trans I.sz h)) (Nat.lt_irrefl _)
theorem Inv.cne(I:Inv X pins σ H s):∀x c,X.env.cells.lookup x=some c->c≠X.env.locals:=λx c e z=>by obtain⟨v,o,ho,hd⟩:=I.cell x c e;obtain⟨m,⟨o',es,ep,ho',hd',_⟩,_⟩:=I.loc;rw[z,ho']at ho;cases ho;rw[hd']at hd;cases hd
theorem Inv.funs(I:Inv X pins σ H s):s.heap.FunFrames X.base X.outer:=by
 have all:∀(l:List Env),(∀b∈frs l,b∈X.fs)->X.s₀.heap.FunFrames X.base l->s.heap.FunFrames X.base l:=by
  intro l;induction l with
 |nil=>intro _ _;trivial
 |cons env r ih=>intro hs hl;obtain⟨hk,⟨L,o,hf,hn,ho,hd⟩,hr⟩:=hl;have hL:L∈X.fs:=hs L (by unfold frs;rw[cU,hf];exact aG);obtain⟨sl,e⟩:=I.base.slot L o ho (I.ok.frf L hL) hL λz=>I.ok.exfs L z hL;exact⟨hk,⟨L,_,hf,hn,e,hd⟩,ih (λb hb=>hs b (by unfold frs;rw[cU,hf];exact av _ hb)) hr⟩
 exact all X.outer (λ_ hb=>hb) I.ok.funs
theorem Inv.stack(I:Inv X pins σ H s):s.heap.FunFrames X.base X.stack:=by
 rcases I.ok.stk with e|⟨e,hf⟩
 ·rw[e];exact I.funs
 ·rw[e];obtain⟨m,hn,_⟩:=I.loc;refine .cons (by rw[I.ok.kind];decide) hf hn ?_ I.funs;exact Heap.get?_none_of_le (Nat.le_trans I.ok.bsz I.ok.above)
theorem Inv.stkSub(I:Inv X pins σ H s):∀b∈frs X.stack,b∈X.env.locals::X.fs:=λb hb=>by
 rcases I.ok.stk with e|⟨e,hf⟩
 ·rw[e]at hb;exact av _ hb
 ·rw[e]at hb;unfold frs at hb;rw[cU,hf]at hb;exact hb
theorem Inv.stkFree(I:Inv X pins σ H s):∀b∈frs X.stack,H b=none:=λb hb=>by
 rcases ao.mp (I.stkSub b hb)with e|hb
 ·rw[e];exact I.free
 ·obtain⟨_,o,ho,_⟩:=I.ok.funs.mem hb;exact I.base.free b o ho (I.ok.frf b hb) λz=>I.ok.exfs b z hb
theorem Inv.step{g':Array GenState}{t':Nat}{d':Drawn}{ch:List Addr}(I:Inv X pins σ H s)(hch:∀b∈ch,(b∈X.ex\/X.s₀.heap.objs.size<=b)/\b≠X.env.locals/\(∀x c,X.env.cells.lookup x=some c->c≠b)/\∀p∈X.pn++pins,p.1≠b)(keep:∀b o,b≠X.env.locals->b∉X.fs->b∉ch->s.heap.get? b=some o->H b=none->h'.get? b=some o)(slot:∀b o,b≠X.env.locals->b∈X.fs->b∉ch->s.heap.get? b=some o->H b=none->∃sl,h'.get? b=some {o with slots:=sl})(free:∀b o,b∉ch->s.heap.get? b=some o->H b=none->H' b=none)(there:∀b o,b∉ch->s.heap.get? b=some o->∃o',h'.get? b=some o')(tups:∀b xs,H b=some (.tup xs)->H' b=some (.tup xs))(frzs:∀b o u,H b=some (.frz o u)->H' b=some (.frz o u))(tbls:∀b ps,H b=some (.tbl ps)->∃more,H' b=some (.tbl (ps++more)))(ns:∀m,s.heap.Ns X.env.locals m->h'.Ns X.env.locals m)(hok:HOk X.prog X.w H' h')(hg:fE g'):Inv X pins σ H' {s with heap:=h',gens:=g',drawn:=d',toks:=t'}:=by
 have neL:∀b o,X.s₀.heap.get? b=some o->b≠X.env.locals:=λb o e=>Nat.ne_of_lt (Nat.lt_of_lt_of_le (Heap.lt_size e) I.ok.above);have neC:∀b o,X.s₀.heap.get? b=some o->b∉X.ex->b∉ch:=λb o e hx hb=>by
  rcases(hch b hb).1 with z|z
  ·exact hx z
  ·exact absurd (Nat.lt_of_lt_of_le (Heap.lt_size e) z) (Nat.lt_irrefl _)
 have cellK:∀x c,X.env.cells.lookup x=some c->∀v,s.heap.IsCell c v->h'.IsCell c v:=λx c e v⟨o,ho,hd⟩=>by
  have nch:c∉ch:=λz=>(hch c z).2.2.1 x c e rfl;by_cases hc:c∈X.fs
  ·obtain⟨sl,q⟩:=slot c o (I.cne x c e) hc nch ho (I.freeC x c e);exact⟨_,q,hd⟩
  ·exact⟨o,keep c o (I.cne x c e) hc nch ho (I.freeC x c e),hd⟩
 refine⟨I.ok,I.os,hg,⟨λb o e n hb hx=>?_,λb o e n hb hx=>?_,λb o e n hx=>?_,λb o e hx=>?_,λb xs e=>tups b xs (I.base.tups b xs e),λb o xs e=>frzs b o xs (I.base.frzs b o xs e),λb ps e=>?_⟩,?_,λx c e=>?_,?_,λx c e=>?_,λp hp=>?_,hok,I.len⟩
 ·exact keep b o (neL b o e) hb (neC b o e hx) (I.base.keep b o e n hb hx) (I.base.free b o e n hx)
 ·obtain⟨sl,e1⟩:=I.base.slot b o e n hb hx;obtain⟨sl',e2⟩:=slot b _ (neL b o e) hb (neC b o e hx) e1 (I.base.free b o e n hx);exact⟨sl',e2⟩
 ·obtain⟨o',e1⟩:=I.base.there b o e hx;exact free b o' (neC b o e hx) e1 (I.base.free b o e n hx)
 ·obtain⟨o',e1⟩:=I.base.there b o e hx;exact there b o' (neC b o e hx) e1
 ·obtain⟨m1,e1⟩:=I.base.tbls b ps e;obtain⟨m2,e2⟩:=tbls b _ e1;exact⟨m1++m2,by rw[e2,Array.append_assoc]⟩
 ·obtain⟨m,hn,hl⟩:=I.loc;refine⟨m,ns m hn,λi x v e1 e2 e3=>?_⟩;obtain⟨u,r,l⟩:=hl i x v e1 e2 e3;refine⟨u,r,?_⟩;rcases l with l|⟨k,c,e,z⟩
  ·exact .inl l
  ·exact .inr ⟨k,c,e,cellK x c e _ z⟩
 ·obtain⟨v,z⟩:=I.cell x c e;exact⟨v,cellK x c e v z⟩
 ·obtain⟨m,⟨o,_,_,ho,_⟩,_⟩:=I.loc;exact free _ o (λz=>(hch _ z).2.1 rfl) ho I.free
 ·obtain⟨v,o,ho,hd⟩:=I.cell x c e;exact free c o (λz=>(hch c z).2.2.1 x c e rfl) ho (I.freeC x c e)
 ·obtain⟨e,n,ne,nf,d⟩:=I.pin p hp;have nch:p.1∉ch:=λz=>(hch p.1 z).2.2.2 p hp rfl;exact⟨keep p.1 p.2 ne nf nch e n,free p.1 p.2 nch e n,ne,nf,d⟩
theorem Inv.un{t':Nat}(I:Inv X pins σ H s)(u:Un X.fs [] H H' s.heap h')(hok:HOk X.prog X.w H' h'):Inv X pins σ H' {s with heap:=h',toks:=t'}:=by
 obtain⟨m,⟨o,es,ep,ho,r⟩,_⟩:=id I.loc;obtain⟨sl,hL⟩:=u.any ho I.free (by simp);exact I.step (g':=s.gens) (d':=s.drawn) (ch:=[]) (λ_ z=>nomatch z) (λb o _ hb _ e n=>u.keep b o e n hb (by simp)) (λb o _ hb _ e n=>u.slot b o e n hb (by simp)) (λb o _ e n=>u.free b o e n (by simp)) (λb o _ e=>u.there b o e (by simp)) u.tups u.frzs u.tbls (λm' hm=>by obtain⟨o',es',ep',ho',r'⟩:=hm;rw[ho]at ho';cases ho';exact⟨_,es',ep',hL,r'⟩) hok I.bare
theorem Inv.call{g':Array GenState}{t':Nat}{d':Drawn}{ch:List Addr}(I:Inv X pins σ H s)(u:Un (frs X.stack) ch H H' s.heap h')(hok:HOk X.prog X.w H' h')(hg:fE g')(hch:∀b∈ch,(b∈X.ex\/X.s₀.heap.objs.size<=b)/\b≠X.env.locals/\(∀x c,X.env.cells.lookup x=some c->c≠b)/\∀p∈X.pn++pins,p.1≠b):Inv X pins σ H' {s with heap:=h',gens:=g',drawn:=d',toks:=t'}:=by
 obtain⟨m,⟨o,es,ep,ho,r⟩,_⟩:=id I.loc;obtain⟨sl,hL⟩:=u.any ho I.free λz=>(hch _ z).2.1 rfl;exact I.step (ch:=ch) hch (λb o hL hb hc e n=>u.keep b o e n (λz=>(ao.mp (I.stkSub b z)).elim hL hb) hc) (λb o _ _ hc e n=>u.any e n hc) (λb o hc e n=>u.free b o e n hc) (λb o hc e=>u.there b o e hc) u.tups u.frzs u.tbls (λm' hm=>by obtain⟨o',es',ep',ho',r'⟩:=hm;rw[ho]at ho';cases ho';exact⟨_,es',ep',hL,r'⟩) hok hg
theorem Inv.turned{t':Nat}{it:Addr}(I:Inv X pins σ H s)(k:∀b o,b≠it->s.heap.get? b=some o->h'.get? b=some o)(hn:H it=none)(hL:it≠X.env.locals)(h1:it∈X.ex\/X.s₀.heap.objs.size<=it)(h2:∀x c,X.env.cells.lookup x=some c->c≠it)(h3:∀p∈X.pn++pins,p.1≠it):Inv X pins σ H {s with heap:=h',toks:=t'}:=by
 have nit:∀b u,H b=some u->b≠it:=λb u e z=>by rw[z,hn]at e;cases e
 refine I.step (g':=s.gens) (d':=s.drawn) (ch:=[it]) (λb hb=>?_) (λb o _ _ hc e _=>k b o (λz=>hc (by simp[z])) e) (λb o _ _ hc e _=>⟨o.slots,k b o (λz=>hc (by simp[z])) e⟩) (λ_ _ _ _ n=>n) (λb o hc e=>⟨o,k b o (λz=>hc (by simp[z])) e⟩) (λ_ _ e=>e) (λ_ _ _ e=>e) (λb ps e=>⟨#[],by rw[e];simp⟩) (λm hm=>?_) (λb u e=>?_) I.bare
 ·have e:b=it:=by simpa using hb
  subst e;exact⟨h1,hL,h2,h3⟩
 ·obtain⟨o,es,ep,ho,r⟩:=hm;exact⟨o,es,ep,k _ o (bo hL) ho,r⟩
 ·refine(I.hok b u e).stay (λc v hc q=>k c v ?_ q) (λ_ q=>q) λ_ _ q=>q;rcases hc with z|z
  ·rw[z];exact nit b u e
  ·exact nit c _ z
theorem Inv.tok(I:Inv X pins σ H s)(t:Nat):Inv X pins σ H {s with toks:=t}:=I.un (h':=s.heap) (t':=t) Un.refl I.hok
theorem Inv.kept{t':Nat}(I:Inv X pins σ H s)(k:∀b u,s.heap.get? b=some u->h'.get? b=some u):Inv X pins σ H {s with heap:=h',toks:=t'}:=I.un (Un.kept k) (I.hok.kept k)
theorem Inv.laid{a:Addr}{o:HO}{t':Nat}(I:Inv X pins σ H s)(k:∀b u,s.heap.get? b=some u->h'.get? b=some u)(hp:s.heap.objs.size<=a)(new:ZR X.prog X.w (upd H a o) h' a o):Inv X pins σ (upd H a o) {s with heap:=h',toks:=t'}:=I.un (Un.laid k hp (I.hok.fresh hp)) (I.hok.laid k hp new)
theorem Inv.write{x e:Addr}{o:HO}{t':Nat}(I:Inv X pins σ H s)(mu:Mut (H x))(he:e=x\/H e=some (.own x))(k:∀b u,b≠e->s.heap.get? b=some u->h'.get? b=some u)(heo:∃u,h'.get? e=some u)(new:ZR X.prog X.w (upd H x o) h' x o):Inv X pins σ (upd H x o) {s with heap:=h',toks:=t'}:=I.un (Un.write mu he k heo) (I.hok.write mu he k heo new)
theorem Inv.pins_of{pins':List (Addr×Obj)}(I:Inv X pins σ H s)(h:∀p∈pins',s.heap.get? p.1=some p.2/\H p.1=none/\p.1≠X.env.locals/\p.1∉X.fs/\∀v,p.2.data≠.cell v):Inv X pins' σ H s:=⟨I.ok,I.os,I.bare,I.base,I.loc,I.cell,I.free,I.freeC,λp hp=>(aD.mp hp).elim (λz=>I.pin p (bh _ z)) (h p),I.hok,I.len⟩
theorem MV{N:List Str}(hN:N.Nodup){i j:Nat}{x:Str}(a:N[i]?=some x)(b:N[j]?=some x):i=j:=by obtain⟨h1,e1⟩:=ak.mp a;obtain⟨h2,e2⟩:=ak.mp b;exact(iz hN).mp (e1.trans e2.symm)
theorem NA{M:Model}{A:a9}{E:Value->ag->Prop}{i:Nat}{x:Str}{v:V}{u:Value}{Q:Unit->ag->Prop}(I:Inv X pins σ H s)(hN:X.N.Nodup)(hi:X.N[i]?=some x)(hx:Loc X.env.scope x)(r:RelV v u)(h:∀s',Inv X pins (σ.set i (some v)) H s'->(∃a,Heap.SameBut a s.heap s'.heap/\(a=X.env.locals\/X.env.cells.lookup x=some a))->Q () s')(hf:X.fn x=true\/X.env.scope.names.lookup x=some .local:=by first|exact .inl rfl|exact .inr rfl|assumption):wpAny M A (storeName X.env x u) Q E s:=by
 obtain⟨m,hn,hl⟩:=id I.loc;have hcls:(X.env.scope.kind==.class||(X.env.scope.kind==.module&&X.env.locals != X.env.globals))=false:=by rw[I.ok.kind];rfl
 have hiσ:i<σ.length:=by rw[I.len];exact(ak.mp hi).1
 have cne:=I.cne;have tracked:∀{a:Addr}{h':Heap},(∃o,s.heap.get? a=some o/\H a=none)->Heap.SameBut a s.heap h'->HOk X.prog X.w H h':=λ{a h'}ha hs b ob e=>by
  obtain⟨_,_,hfree⟩:=ha;refine(I.hok b ob e).stay (λc w' hc q=>(hs.2 c ?_).trans q) (λ_ q=>q) λ_ _ q=>q;rintro rfl;rcases hc with rfl|hc
  ·rw[hfree]at e;cases e
  ·rw[hfree]at hc;cases hc
 rcases hx with hk|hk
 ·refine wpAny_storeName_local hk hn (λh' hn' hs=>?_) hcls;obtain⟨oL,_,_,hoL,_⟩:=id hn;refine h _ ⟨I.ok,I.os,I.bare,⟨λb o e n hb hx=>?_,λb o e n hb hx=>?_,I.base.free,λb o e hx=>?_,I.base.tups,I.base.frzs,I.base.tbls⟩,⟨_,hn',λj y v' e1 e2 e3=>?_⟩,λy c e=>?_,I.free,I.freeC,λp hp=>?_,tracked ⟨oL,hoL,I.free⟩ hs,by simpa using I.len⟩ ⟨_,hs,.inl rfl⟩
  ·exact(hs.2 b (Nat.ne_of_lt (Nat.lt_of_lt_of_le (Heap.lt_size e) I.ok.above))).trans (I.base.keep b o e n hb hx)
  ·obtain⟨sl,e1⟩:=I.base.slot b o e n hb hx;exact⟨sl,(hs.2 b (Nat.ne_of_lt (Nat.lt_of_lt_of_le (Heap.lt_size e) I.ok.above))).trans e1⟩
  ·obtain⟨o',e1⟩:=I.base.there b o e hx;exact⟨o',(hs.2 b (Nat.ne_of_lt (Nat.lt_of_lt_of_le (Heap.lt_size e) I.ok.above))).trans e1⟩
  ·by_cases hj:j=i
   ·subst hj;rw[hi]at e1;cases e1;rw[fV hiσ]at e2;cases e2;exact⟨u,r,.inl ⟨hk,by simp⟩⟩
   ·rw[gw (bo hj)]at e2;obtain⟨u',r',q⟩:=hl j y v' e1 e2 e3;refine⟨u',r',?_⟩;rcases q with⟨k,e⟩|⟨k,c,e,z⟩
    ·refine .inl ⟨k,?_⟩;have:y≠x:=λe=>hj (MV hN e1 (e▸hi));simp[this,e]
    ·exact .inr ⟨k,c,e,z.sameBut hs (cne y c e)⟩
  ·obtain⟨w',z⟩:=I.cell y c e;exact⟨w',z.sameBut hs (cne y c e)⟩
  ·obtain⟨e,n,ne,nf,d⟩:=I.pin p hp;exact⟨(hs.2 p.1 ne).trans e,n,ne,nf,d⟩
 ·have hfn:X.fn x=true:=by
   rcases hf with z|z
   ·exact z
   ·rw[z]at hk;cases hk
  obtain⟨c,hc⟩:=I.ok.has x (.inl hk);obtain⟨w',z⟩:=I.cell x c hc;refine wpAny_storeName_cell I.ok.kind hk hc z (λh' hc' hs=>?_);obtain⟨oc,hoc,hocd⟩:=id z;refine h {s with heap:=h'} ⟨I.ok,I.os,I.bare,⟨λb o e n hb hx=>?_,λb o e n hb hx=>?_,I.base.free,λb o e hx=>?_,I.base.tups,I.base.frzs,I.base.tbls⟩,⟨m,hn.sameBut hs (bo (cne x c hc)),λj y v' e1 e2 e3=>?_⟩,λy c' e=>?_,I.free,I.freeC,λp hp=>?_,tracked ⟨oc,hoc,I.freeC x c hc⟩ hs,by simpa using I.len⟩ ⟨c,hs,.inr hc⟩
  ·exact(hs.2 b (Nat.ne_of_lt (Nat.lt_of_lt_of_le (Heap.lt_size e) (I.ok.cab x c hfn hc)))).trans (I.base.keep b o e n hb hx)
  ·obtain⟨sl,e1⟩:=I.base.slot b o e n hb hx;exact⟨sl,(hs.2 b (Nat.ne_of_lt (Nat.lt_of_lt_of_le (Heap.lt_size e) (I.ok.cab x c hfn hc)))).trans e1⟩
  ·obtain⟨o',e1⟩:=I.base.there b o e hx;exact⟨o',(hs.2 b (Nat.ne_of_lt (Nat.lt_of_lt_of_le (Heap.lt_size e) (I.ok.cab x c hfn hc)))).trans e1⟩
  ·by_cases hj:j=i
   ·subst hj;rw[hi]at e1;cases e1;rw[fV hiσ]at e2;cases e2;exact⟨u,r,.inr ⟨.inl hk,c,hc,hc'⟩⟩
   ·rw[gw (bo hj)]at e2;obtain⟨u',r',q⟩:=hl j y v' e1 e2 e3;refine⟨u',r',?_⟩;rcases q with q|⟨k,c',e,z'⟩
    ·exact .inl q
    ·refine .inr ⟨k,c',e,z'.sameBut hs ?_⟩;rintro rfl;exact hj (MV hN e1 (I.ok.inj _ _ _ e hc▸hi))
  ·by_cases hcc:c'=c
   ·subst hcc;exact⟨_,hc'⟩
   ·obtain⟨w2,z2⟩:=I.cell y c' e;exact⟨w2,z2.sameBut hs hcc⟩
  ·obtain⟨e,n,ne,nf,d⟩:=I.pin p hp;refine⟨(hs.2 p.1 ?_).trans e,n,ne,nf,d⟩;intro q;rw[q,hoc]at e;have q':oc=p.2:=au e;exact d w' (by rw[<-q'];exact hocd)
theorem MA{M:Model}{A:a9}{E:Value->ag->Prop}{i:Nat}{x:Str}{v:V}{u:Value}{Q:Unit->ag->Prop}(I:Inv X pins σ H s)(hN:X.N.Nodup)(hi:X.N[i]?=some x)(hx:Loc X.env.scope x)(r:RelV v u)(h:∀s',Inv X pins (σ.set i (some v)) H s'->Q () s')(hf:X.fn x=true\/X.env.scope.names.lookup x=some .local:=by first|exact .inl rfl|exact .inr rfl|assumption):wpAny M A (storeName X.env x u) Q E s:=NA I hN hi hx r (λs' I' _=>h s' I') hf
theorem Inv.call'{s':ag}{ch:List Addr}(I:Inv X pins σ H s)(ho:s'.os=s.os)(u:Un (frs X.stack) ch H H' s.heap s'.heap)(hok:HOk X.prog X.w H' s'.heap)(hg:fE s'.gens)(hch:∀b∈ch,(b∈X.ex\/X.s₀.heap.objs.size<=b)/\b≠X.env.locals/\(∀x c,X.env.cells.lookup x=some c->c≠b)/\∀p∈X.pn++pins,p.1≠b):Inv X pins σ H' s':=by obtain⟨h',g',d',t',o'⟩:=s';have e:o'=s.os:=ho;subst e;exact I.call (g':=g') (t':=t') (d':=d') u hok hg hch
end
noncomputable abbrev XK:=Value->Option Addr->Hp->Prop
noncomputable abbrev St:=List (Option V)
noncomputable abbrev VK:=V->Hp->Prop
noncomputable abbrev TE:=St->Hp->VK->Prop
noncomputable abbrev TT:=St->Hp->(Bool->Hp->Prop)->Prop
noncomputable abbrev TA:=St->Hp->(List V->Hp->Prop)->Prop
structure Ends where
 nx:St->Hp->Prop
 rt:VK
 bk:St->Hp->Prop:=λ_ _=>False
 ct:St->Hp->Prop:=λ_ _=>False
noncomputable abbrev TS:=Ends->St->Hp->Prop
def EP(X:Cx)(pins:List (Addr×Obj))(σ:St)(Q:VK)(u:Value)(s':ag):Prop:=∃v H',Inv X pins σ H' s'/\RelV v u/\Q v H'
def TP(X:Cx)(pins:List (Addr×Obj))(σ:St)(Q:Bool->Hp->Prop)(b:Bool)(s':ag):Prop:=∃H',Inv X pins σ H' s'/\Q b H'
def AP(X:Cx)(pins:List (Addr×Obj))(σ:St)(Q:List V->Hp->Prop)(us:List Value)(s':ag):Prop:=∃vs H',Inv X pins σ H' s'/\Vals vs us/\Q vs H'
def SP(X:Cx)(pins:List (Addr×Obj))(D:Ends)(f:Flow)(s':ag):Prop:=match f with
|.next=>∃σ' H',Inv X pins σ' H' s'/\D.nx σ' H'
|.brk=>∃σ' H',Inv X pins σ' H' s'/\D.bk σ' H'
|.cont=>∃σ' H',Inv X pins σ' H' s'/\D.ct σ' H'
|.ret u=>∃v σ' H',Inv X pins σ' H' s'/\RelV v u/\D.rt v H'
def PE(X:Cx)(e:Expr)(t:TE):Prop:=∀(pins:List (Addr×Obj))(s:ag)(σ:St)(H:Hp)(Q:VK),Inv X pins σ H s->t σ H Q->wpAny (model X.prog X.w) X.A (eval e X.env) (EP X pins σ Q) X.xe s
def PT(X:Cx)(e:Expr)(t:TT):Prop:=∀(pins:List (Addr×Obj))(s:ag)(σ:St)(H:Hp)(Q:Bool->Hp->Prop),Inv X pins σ H s->t σ H Q->wpAny (model X.prog X.w) X.A (isTrue e X.env (eval e X.env)) (TP X pins σ Q) X.xe s
def PW(X:Cx)(e:Expr)(t:TT):Prop:=∀(whole:Sem Value)(pins:List (Addr×Obj))(s:ag)(σ:St)(H:Hp)(Q:Bool->Hp->Prop),Inv X pins σ H s->t σ H Q->wpAny (model X.prog X.w) X.A (isTrue e X.env whole) (TP X pins σ Q) X.xe s
theorem PW.pt{X:Cx}{e:Expr}{t:TT}(h:PW X e t):PT X e t:=h _
def PA(X:Cx)(es:List Expr)(t:TA):Prop:=∀(pos:Pos)(pins:List (Addr×Obj))(s:ag)(σ:St)(H:Hp)(Q:List V->Hp->Prop),Inv X pins σ H s->t σ H Q->wpAny (model X.prog X.w) X.A (spliced (b8 pos (aI es X.env))) (AP X pins σ Q) X.xe s
def PS(X:Cx)(st:Stmt)(t:TS):Prop:=∀(pins:List (Addr×Obj))(s:ag)(σ:St)(H:Hp)(D:Ends),Inv X pins σ H s->t D σ H->wpAny (model X.prog X.w) X.A (exec st X.env) (SP X pins D) X.xe s
def PSs(X:Cx)(st:List Stmt)(t:TS):Prop:=∀(pins:List (Addr×Obj))(s:ag)(σ:St)(H:Hp)(D:Ends),Inv X pins σ H s->t D σ H->wpAny (model X.prog X.w) X.A (execs st X.env) (SP X pins D) X.xe s
theorem thn{α:Type}{t:Sem α}{Q Q':α->ag->Prop}{M:Model}{A:a9}{E:Value->ag->Prop}{s:ag}(h:wpAny M A t Q E s)(hQ:∀a s,Q a s->Q' a s):wpAny M A t Q' E s:=cj h hQ λ_ _ x=>x
open PySem PySem.Spec PyProof.Rows
section
variable {X:Cx}
theorem bin{a b:Expr}{ta tb:TE}(ha:PE X a ta)(hb:PE X b tb){pins:List (Addr×Obj)}{s:ag}{σ:St}{H:Hp}{R:V->V->Hp->Prop}(I:Inv X pins σ H s)(h:ta σ H λx H1=>tb σ H1 λy H2=>R x y H2){α:Type}{Q:α->ag->Prop}{f:Value->Value->Sem α}(hf:∀v u s2 x y H2,Inv X pins σ H2 s2->RelV x v->RelV y u->R x y H2->wpAny (model X.prog X.w) X.A (f v u) Q X.xe s2):wpAny (model X.prog X.w) X.A (eval a X.env) (λv s₁=>wpAny (model X.prog X.w) X.A (eval b X.env) (λu s₂=>wpAny (model X.prog X.w) X.A (f v u) Q X.xe s₂) X.xe s₁) X.xe s:=by refine thn (ha pins s σ H _ I h) λv s1 hZ=>?_;obtain⟨x,H1,I1,r1,q1⟩:=hZ;refine thn (hb pins s1 σ H1 _ I1 q1) λu s2 hZ=>?_;obtain⟨y,H2,I2,r2,q2⟩:=hZ;exact hf v u s2 x y H2 I2 r1 r2 q2
def tVar(i:Nat):TE:=λσ H Q=>∃v,σ[i]?=some (some v)/\Q v H
def tC(v:V):TE:=λ_ H Q=>Q v H
theorem Pu{i:Nat}{x:Str}{pos:Pos}(hN:X.N[i]?=some x)(hv:Vis X.env.scope x)(hd:(x==("__debug__":Str))=false:=by decide)(hcd:(x==("__classdict__":Str))=false:=by decide):PE X (.Name x pos) (tVar i):=by
 intro pins s σ H Q I h;obtain⟨v,e,h⟩:=h;obtain⟨m,hn,hl⟩:=I.loc;obtain⟨u,r,l⟩:=hl i x v hN e hv;have fin:EP X pins σ Q u s:=⟨v,H,I,r,h⟩;rcases l with⟨hk,hm⟩|⟨hk,c,hc,hcell⟩
 ·exact wpAny_Name (wpAny_loadName_local I.ok.kind hk hn hm fin) hd
 ·rcases hk with hk|hk
  ·exact wpAny_Name (wpAny_loadName_cell I.ok.kind hk hc hcell fin) hd
  ·exact wpAny_Name (wpAny_loadName_free I.ok.kind hk hc hcell fin hcd) hd
theorem Zb{i j pos}:PE X (.Constant (.int i) j pos) (tC (.int i)):=λ_ _ _ H _ I h=>wpAny_Constant_int ⟨.int i,H,I.tok _,⟨_,rfl⟩,h⟩
theorem JU{b j pos}:PE X (.Constant (.bool b) j pos) (tC (.bl b)):=λ_ _ _ H _ I h=>Constant_bool ⟨.bl b,H,I,rfl,h⟩
theorem ZF{j pos}:PE X (.Constant .none j pos) (tC .non):=λ_ _ _ H _ I h=>Constant_none ⟨.non,H,I,rfl,h⟩
theorem ZE{x j pos}:PE X (.Constant (.str x) j pos) (tC (.str x)):=λ_ _ _ H _ I h=>Calls.Constant_str ⟨.str x,H,I.tok _,⟨_,rfl⟩,h⟩
def Gl(X:Cx)(x:Str):Prop:=X.env.kindOf x=some .globalImplicit
theorem JN{E:Value->ag->Prop}{pins:List (Addr×Obj)}{s:ag}{σ:St}{H:Hp}{x:Str}{u:Value}{pos:Pos}{Q:Value->ag->Prop}(I:Inv X pins σ H s)(hg:Gl X x)(hm:X.mg x=some u)(h:Q u s)(hd:(x==("__debug__":Str))=false:=by decide):wpAny (model X.prog X.w) X.A (eval (.Name x pos) X.env) Q E s:=Calls.Name_function_global I.ok.kind hg (Calls.loadGlobal_global (by rw[I.ok.glob];exact I.mod.glob.keeps I.bk) hm h) hd
theorem Ua{E:Value->ag->Prop}{pins:List (Addr×Obj)}{s:ag}{σ:St}{H:Hp}{x:Str}{u:Value}{pos:Pos}{Q:Value->ag->Prop}(I:Inv X pins σ H s)(hg:Gl X x)(hm:X.mg x=none)(hv:bF x=some u)(h:Q u s)(hn:x≠"__name__":=by decide)(hd:(x==("__debug__":Str))=false:=by decide):wpAny (model X.prog X.w) X.A (eval (.Name x pos) X.env) Q E s:=by obtain⟨mb,h1,h2⟩:=I.mod.blt;exact Calls.Name_function_global I.ok.kind hg (Calls.loadGlobal_builtin (by rw[I.ok.glob];exact I.mod.glob.keeps I.bk) hm (by rw[I.ok.blt];exact h1.keeps I.bk) ((h2 x hn).trans hv) h) hd
theorem Z4{x:Str}{v:V}{u:Value}{pos:Pos}(hg:Gl X x)(hm:X.mg x=some u)(r:RelV v u)(hd:(x==("__debug__":Str))=false:=by decide):PE X (.Name x pos) (tC v):=λ_ _ _ H _ I h=>JN I hg hm ⟨v,H,I,r,h⟩ hd
theorem Py{x:Str}{v:V}{u:Value}{pos:Pos}(hg:Gl X x)(hm:X.mg x=none)(hv:bF x=some u)(r:RelV v u)(hn:x≠"__name__":=by decide)(hd:(x==("__debug__":Str))=false:=by decide):PE X (.Name x pos) (tC v):=λ_ _ _ H _ I h=>Ua I hg hm hv ⟨v,H,I,r,h⟩ hn hd
variable {a b:Expr}{ta tb:TE}{pos:Pos}
def PC(X:Cx)(op:CmpOp)(a b:Expr)(t:TE):Prop:=∀(pins:List (Addr×Obj))(s:ag)(σ:St)(H:Hp)(Q:VK),Inv X pins σ H s->t σ H Q ->wpAny (model X.prog X.w) X.A (eval a X.env) (λv s₁=>wpAny (model X.prog X.w) X.A (eval b X.env) (λu s₂=>wpAny (model X.prog X.w) X.A (br op v u) (EP X pins σ Q) X.xe s₂) X.xe s₁) X.xe s
theorem Qu(b:Expr){op:CmpOp}(h:op≠.In)(h2:op≠.NotIn):dz op b=false:=by
 have e1:(op==CmpOp.In)=false:=by cases op<;>first|rfl|exact absurd rfl h
 have e2:(op==CmpOp.NotIn)=false:=by cases op<;>first|rfl|exact absurd rfl h2
 cases b<;>simp[dz,e1,e2]
def tB(t:TE):TT:=λσ H Q=>t σ H λx H1=>∃c,x=.bl c/\Q c H1
theorem FQ{op:CmpOp}{t:TE}(h:PC X op a b t)(h1:dz op b=false:=by first|exact Qu _ (by decide) (by decide)|rfl):PE X (.Compare a [op] [b] pos) t:=λpins s σ H Q I hw=>wpAny_Compare1 (h pins s σ H Q I hw) h1
theorem FJ{op:CmpOp}{t:TE}(h:PC X op a b t)(h1:dz op b=false:=by first|exact Qu _ (by decide) (by decide)|rfl):PT X (.Compare a [op] [b] pos) (tB t):=by intro pins s σ H Q I hw;refine wpAny_isTrue_Compare1 (thn (h pins s σ H _ I hw) λv s1 h1=>thn h1 λu s2 h2=>thn h2 λc s3 hZ=>?_) h1;obtain⟨x,H1,I1,r1,q1⟩:=hZ;obtain⟨d,rfl,q⟩:=q1;cases r1;exact bt ⟨H1,I1,q⟩
theorem ZT{e:Expr}{t:TE}(h:PE X e t)(he:∀whole,isTrue e X.env whole=(do let v <-whole;ib e.pos;eV [v] (truthy v)):=by intro _;rfl):PT X e (tB t):=by
 intro pins s σ H Q I hw
 refine isTrue_plain (thn (h pins s σ H _ I hw) λv s1 hZ=>?_) (he _);obtain⟨x,H1,I1,r1,q1⟩:=hZ
 obtain⟨d,rfl,q⟩:=q1
 cases r1
 exact bt ⟨H1,I1,q⟩
variable {tA tB':TT}{rest:List Expr}
def tAnd(t u:TT):TT:=λσ H Q=>t σ H λc H1=>if c=true then u σ H1 Q else Q false H1
def tOr(t u:TT):TT:=λσ H Q=>t σ H λc H1=>if c=true then Q true H1 else u σ H1 Q
def tNot(t:TT):TT:=λσ H Q=>t σ H λc H1=>Q (!c) H1
theorem VA(ha:PT X a tA):PW X (.BoolOp .And [a] pos) tA:=by
 intro wh pins s σ H Q I h;refine isTrue_and (thn (ha pins s σ H Q I h) λc s1 e=>?_);cases c with
|true=>exact isTrue_and_nil e
|false=>exact e
theorem Xh(ha:PT X a tA):PW X (.BoolOp .Or [a] pos) tA:=by
 intro wh pins s σ H Q I h;refine isTrue_or (thn (ha pins s σ H Q I h) λc s1 e=>?_);cases c with
|false=>exact isTrue_or_nil e
|true=>exact e
theorem U8(ha:PT X a tA)(hb:PW X (.BoolOp .And (b::rest) pos) tB'):PW X (.BoolOp .And (a::b::rest) pos) (tAnd tA tB'):=by
 intro wh pins s σ H Q I h;refine isTrue_and (thn (ha pins s σ H _ I h) λc s1⟨H1,I1,q1⟩=>?_);cases c with
|true=>exact hb wh pins s1 σ H1 Q I1 q1
|false=>exact⟨H1,I1,q1⟩
theorem JT(ha:PT X a tA)(hb:PW X (.BoolOp .Or (b::rest) pos) tB'):PW X (.BoolOp .Or (a::b::rest) pos) (tOr tA tB'):=by
 intro wh pins s σ H Q I h;refine isTrue_or (thn (ha pins s σ H _ I h) λc s1⟨H1,I1,q1⟩=>?_);cases c with
|true=>exact⟨H1,I1,q1⟩
|false=>exact hb wh pins s1 σ H1 Q I1 q1
theorem ZY(ha:PT X a tA):PT X (.UnaryOp .Not a pos) (tNot tA):=by intro pins s σ H Q I h;exact isTrue_not (ha pins s σ H (λc H1=>Q (!c) H1) I h)
def Aq(ta tb:TE):TE:=λσ H Q=>ta σ H λx H1=>∃c,x=.bl c/\if c=true then tb σ H1 Q else Q (.bl false) H1
def Ak(ta:TE):TE:=λσ H Q=>ta σ H λx H1=>∃c,x=.bl c/\Q (.bl (!c)) H1
theorem YJ{op}{t:TE}(h:PE X a t):PE X (.BoolOp op [a] pos) t:=λpins s σ H Q I hw=>BoolOp_one (h pins s σ H Q I hw)
theorem Y3(ha:PE X a ta)(hb:PE X (.BoolOp .And (b::rest) pos) tb):PE X (.BoolOp .And (a::b::rest) pos) (Aq ta tb):=by
 intro pins s σ H Q I h;refine BoolOp_and (thn (ha pins s σ H _ I h) λv s1 hZ=>?_);obtain⟨x,H1,I1,r1,q1⟩:=hZ;obtain⟨c,rfl,q1⟩:=q1;cases r1;refine bt ?_;cases c with
|true=>exact hb pins s1 σ H1 Q I1 q1
|false=>exact⟨.bl false,H1,I1,rfl,q1⟩
theorem Li(ha:PE X a ta):PE X (.UnaryOp .Not a pos) (Ak ta):=by intro pins s σ H Q I h;refine UnaryOp_ (thn (ha pins s σ H _ I h) λv s1 hZ=>?_);obtain⟨x,H1,I1,r1,q1⟩:=hZ;obtain⟨c,rfl,q1⟩:=q1;cases r1;exact not_of (bt ⟨.bl (!c),H1,I1,rfl,q1⟩)
def tIf(t:TT)(ta tb:TE):TE:=λσ H Q=>t σ H λc H1=>if c=true then ta σ H1 Q else tb σ H1 Q
theorem Qn{c:Expr}(hc:PT X c tA)(ha:PE X a ta)(hb:PE X b tb):PE X (.IfExp c a b pos) (tIf tA ta tb):=by
 intro pins s σ H Q I h;refine wpAny_IfExp (thn (hc pins s σ H _ I h) λd s1⟨H1,I1,q1⟩=>?_);cases d with
|true=>exact ha pins s1 σ H1 Q I1 q1
|false=>exact hb pins s1 σ H1 Q I1 q1
end
open PySem PySem.Spec PyProof.Rows
def SqL(K:aa)(H:Hp)(a:Addr)(xs:List V):Prop:=Rd H a (.lst xs) \/∃(o:Obj)(its:Array Value)(n:Nat),K.lookup a=some o/\o.cls=.type "list"/\o.dict=none/\o.data=.seq its n/\its.size<=sizeLine/\Vals xs its.toList
def SqT(K:aa)(H:Hp)(a:Addr)(xs:List V):Prop:=Rd H a (.tup xs) \/∃(o:Obj)(its:Array Value)(n:Nat),K.lookup a=some o/\o.cls=.type "tuple"/\o.data=.seq its n/\its.size<=sizeLine/\Vals xs its.toList
noncomputable def absV:Value->Option V
|.none=>some .non
|.bool b=>some (.bl b)
|.int i _=>some (.int i)
|.str x _=>some (.str x)
|.bytes b _=>some (.byt b)
|.float b _=>some (.flt b)
|.ref a=>some (.ref a)
|.type n=>some (.ty n)
|_=>none
theorem RelV.abs{x:V}{u:Value}(r:RelV x u):absV u=some x:=by
 cases x with
|non=>cases r;rfl
|bl _=>cases r;rfl
|int _=>obtain⟨t,rfl⟩:=r;rfl
|str _=>obtain⟨t,rfl⟩:=r;rfl
|byt _=>obtain⟨t,rfl⟩:=r;rfl
|flt _=>obtain⟨t,rfl⟩:=r;rfl
|ref _=>cases r;rfl
|ty _=>cases r;rfl
theorem RelV.inj{x y:V}{u:Value}(r:RelV x u)(q:RelV y u):x=y:=au (r.abs.symm.trans q.abs)
theorem Vals.inj:∀{xs ys:List V}{us:List Value},Vals xs us->Vals ys us->xs=ys
|_,_,_,.nil,.nil=>rfl
|_,_,_,.cons r t,.cons r' t'=>by rw[r.inj r',Vals.inj t t']
section
variable {X:Cx}{pins:List (Addr×Obj)}{σ:St}{H:Hp}{s:ag}{a:Addr}{xs ys:List V}
theorem SqL.of{K:aa}(h:H a=some (.lst xs)):SqL K H a xs:=.inl (.inl h)
theorem SqT.of{K:aa}(h:H a=some (.tup xs)):SqT K H a xs:=.inl (.inl h)
theorem Inv.list(I:Inv X pins σ H s)(h:SqL X.K H a xs):∃its:List Value,Vals xs its/\PlainL s.heap a its.toArray/\xs.length<=sizeLine:=by
 rcases h with h|⟨o,its,n,hk,hc,hd,hs,hz,r⟩
 ·obtain⟨z,its,n,r,e⟩:=h.ok I.hok;exact⟨its,r,⟨_,n,e,rfl,rfl,rfl⟩,z⟩
 ·refine⟨its.toList,r,⟨o,n,I.kIn a o hk,hc,hd,by simpa using hs⟩,?_⟩;have e:=r.length;simp only[dI]at e;omega
theorem Inv.tuple(I:Inv X pins σ H s)(h:SqT X.K H a xs):∃its:List Value,Vals xs its/\IsTup s.heap a its.toArray/\xs.length<=sizeLine:=by
 rcases h with h|⟨o,its,n,hk,hc,hs,hz,r⟩
 ·obtain⟨z,its,r,p⟩:=h.ok I.hok;exact⟨its,r,p,z⟩
 ·refine⟨its.toList,r,⟨o,I.kIn a o hk,hc,n,by simpa using hs⟩,?_⟩;have e:=r.length;simp only[dI]at e;omega
theorem Inv.list_inj(I:Inv X pins σ H s)(h:SqL X.K H a xs)(h':SqL X.K H a ys):xs=ys:=by
 obtain⟨its,r,⟨o,n,e,_,_,d⟩,_⟩:=I.list h;obtain⟨its',r',⟨o',n',e',_,_,d'⟩,_⟩:=I.list h';rw[e]at e';cases e';rw[d]at d';injection d' with d1 _;have:its=its':=by simpa using congrArg Array.toList d1
 subst this;exact r.inj r'
theorem Inv.tuple_inj(I:Inv X pins σ H s)(h:SqT X.K H a xs)(h':SqT X.K H a ys):xs=ys:=by
 obtain⟨its,r,⟨o,e,_,n,d⟩,_⟩:=I.tuple h;obtain⟨its',r',⟨o',e',_,n',d'⟩,_⟩:=I.tuple h';rw[e]at e';cases e';rw[d]at d';injection d' with d1 _;have:its=its':=by simpa using congrArg Array.toList d1
 subst this;exact r.inj r'
end
noncomputable abbrev Cx.wish(X:Cx)(E:Value->ag->Prop):Cx:={X with xe:=E}
noncomputable abbrev Cx.nox(X:Cx):Cx:=X.wish λ_ _=>False
theorem Cx.Ok.wish{X:Cx}(ok:X.Ok)(E:Value->ag->Prop):(X.wish E).Ok:=⟨ok.mod,ok.kind,ok.glob,ok.blt,ok.above,ok.inj,ok.has,ok.cab,ok.hd,ok.frames,ok.stk,ok.exf,ok.bs,ok.bsz,ok.noex,ok.exfs,ok.funs,ok.frf⟩
theorem Cx.Ok.unwish{X:Cx}{E:Value->ag->Prop}(ok:(X.wish E).Ok):X.Ok:=⟨ok.mod,ok.kind,ok.glob,ok.blt,ok.above,ok.inj,ok.has,ok.cab,ok.hd,ok.frames,ok.stk,ok.exf,ok.bs,ok.bsz,ok.noex,ok.exfs,ok.funs,ok.frf⟩
section
variable {X:Cx}{pins:List (Addr×Obj)}{σ:St}{H:Hp}{s:ag}{E:Value->ag->Prop}
theorem Inv.wish(I:Inv X pins σ H s)(E:Value->ag->Prop):Inv (X.wish E) pins σ H s:=⟨I.ok.wish E,I.os,I.bare,I.base,I.loc,I.cell,I.free,I.freeC,I.pin,I.hok,I.len⟩
theorem Inv.unwish(I:Inv (X.wish E) pins σ H s):Inv X pins σ H s:=⟨I.ok.unwish,I.os,I.bare,I.base,I.loc,I.cell,I.free,I.freeC,I.pin,I.hok,I.len⟩
theorem SP.unwish{D:Ends}{f:Flow}{s':ag}(h:SP (X.wish E) pins D f s'):SP X pins D f s':=by
 cases f with
|next=>obtain⟨σ',H',I,q⟩:=h;exact⟨σ',H',I.unwish,q⟩
|brk=>obtain⟨σ',H',I,q⟩:=h;exact⟨σ',H',I.unwish,q⟩
|cont=>obtain⟨σ',H',I,q⟩:=h;exact⟨σ',H',I.unwish,q⟩
|ret u=>obtain⟨v,σ',H',I,r,q⟩:=h;exact⟨v,σ',H',I.unwish,r,q⟩
theorem PSs.nox{st:List Stmt}{t:TS}(h:PSs X.nox st t):PSs X st t:=λpins s σ H D I hw=>cj (h pins s σ H D (I.wish _) hw) (λ_ _ q=>q.unwish) λ_ _ z=>bK z
end
section
variable {X:Cx}{st:Stmt}{rest:List Stmt}{t u:TS}{e:Expr}{te:TE}{pos:Pos}
def Al:TS:=λD σ H=>D.nx σ H
def tSeq(t u:TS):TS:=λD σ H=>t {D with nx:=u D} σ H
theorem Zp:PSs X [] Al:=λ_ _ σ H _ I h=>gG ⟨σ,H,I,h⟩
theorem Za(h1:PS X st t)(h2:PSs X rest u):PSs X (st::rest) (tSeq t u):=by
 intro pins s σ H D I h;refine wpAny_execs_cons (thn (h1 pins s σ H {D with nx:=u D} I h) λf s1 q=>?_);cases f with
|next=>obtain⟨σ',H',I',q⟩:=q;exact h2 pins s1 σ' H' D I' q
|ret v=>exact q
|brk=>exact q
|cont=>exact q
theorem Zd(h1:PS X st t):PSs X [st] t:=by
 intro pins s σ H D I h;refine wpAny_execs_cons (thn (h1 pins s σ H D I h) λf s1 q=>?_);cases f with
|next=>exact gG q
|ret v=>exact q
|brk=>exact q
|cont=>exact q
theorem Inv.quiet{pins:List (Addr×Obj)}{σ:St}{H:Hp}{s:ag}(I:Inv X pins σ H s):interactive X.env=false:=by simp[interactive,I.ok.kind]
def ER(te:TE):TS:=λD σ H=>te σ H λ_ H1=>D.nx σ H1
theorem Z7(he:PE X e te)(hs:fH e none pos.line X.env=pure false:=by rfl):PS X (.Expr e pos) (ER te):=by intro pins s σ H D I h;exact wpAny_Expr_any (thn (he pins s σ H _ I h) λv s1⟨x,H1,I1,r1,q1⟩=>⟨σ,H1,I1,q1⟩) I.quiet hs
def tRet(te:TE):TS:=λD σ H=>te σ H D.rt
theorem Zl(he:PE X e te):PS X (.Return (some e) pos) (tRet te):=by intro pins s σ H D I h;exact wpAny_Return_some (thn (he pins s σ H _ I h) λv s1⟨x,H1,I1,r1,q1⟩=>⟨x,σ,H1,I1,r1,q1⟩)
def tIfS(c:TT)(t u:TS):TS:=λD σ H=>c σ H λb H1=>if b=true then t D σ H1 else u D σ H1
theorem ZG{c:Expr}{a b:List Stmt}{tc:TT}(hc:PT X c tc)(ha:PSs X a t)(hb:PSs X b u):PS X (.If c a b pos) (tIfS tc t u):=by
 intro pins s σ H D I h;refine wpAny_If (thn (hc pins s σ H _ I h) λd s1⟨H1,I1,q1⟩=>?_);cases d with
|true=>exact ha pins s1 σ H1 D I1 q1
|false=>exact hb pins s1 σ H1 D I1 q1
def Ft:TS:=λ_ _ _=>False
theorem Jl:PS X st Ft:=λ_ _ _ _ _ _ h=>h.elim
end
noncomputable abbrev TG:=V->St->Hp->(St->Hp->Prop)->Prop
noncomputable abbrev TGs:=List V->St->Hp->(St->Hp->Prop)->Prop
def PG(X:Cx)(target:Expr)(t:TG):Prop:=∀(pins:List (Addr×Obj))(s:ag)(σ:St)(H:Hp)(v:V)(u:Value)(Q:St->Hp->Prop),Inv X pins σ H s->RelV v u->t v σ H Q ->wpAny (model X.prog X.w) X.A (assign target X.env u) (λ_ s'=>∃σ' H',Inv X pins σ' H' s'/\Q σ' H') X.xe s
def PGs(X:Cx)(ts:List Expr)(t:TGs):Prop:=∀(pins:List (Addr×Obj))(s:ag)(σ:St)(H:Hp)(vs:List V)(us:List Value)(Q:St->Hp->Prop),Inv X pins σ H s->Vals vs us->t vs σ H Q ->wpAny (model X.prog X.w) X.A (assignInOrder ((cD ts X.env).map (·.2)) us) (λ_ s'=>∃σ' H',Inv X pins σ' H' s'/\Q σ' H') X.xe s
noncomputable abbrev TSet:=V->V->V->Hp->(Hp->Prop)->Prop
def PSet(X:Cx)(t:TSet):Prop:=∀(pins:List (Addr×Obj))(s:ag)(σ:St)(H:Hp)(o i v:V)(ov iv u:Value)(Q:Hp->Prop),Inv X pins σ H s->RelV o ov->RelV i iv->RelV v u->t o i v H Q ->wpAny (model X.prog X.w) X.A (setItem ov iv u) (λ_ s'=>∃H',Inv X pins σ H' s'/\Q H') X.xe s
section
variable {X:Cx}{pos:Pos}
def Zq(i:Nat):TG:=λv σ H Q=>Q (σ.set i (some v)) H
theorem VC{i:Nat}{x:Str}(hN:X.N.Nodup)(hi:X.N[i]?=some x)(hx:Loc X.env.scope x)(hf:X.fn x=true\/X.env.scope.names.lookup x=some .local:=by first|exact .inl rfl|exact .inr rfl|assumption):PG X (.Name x pos) (Zq i):=by intro pins s σ H v u Q I r h;exact wpAny_assign_Name (MA I hN hi hx r (λs' I'=>⟨_,H,I',h⟩) hf)
noncomputable def gNil:TGs:=λvs σ H Q=>vs=[]/\Q σ H
noncomputable def LR(t:TG)(u:TGs):TGs:=λvs σ H Q=>∃v r,vs=v::r/\t v σ H λσ' H'=>u r σ' H' Q
theorem Yd:PGs X [] gNil:=by intro pins s σ H vs us Q I r h;obtain⟨e,h⟩:=h;subst e;cases r;exact assignInOrder_nil ⟨σ,H,I,h⟩
theorem Zn{e:Expr}{es:List Expr}{t:TG}{u:TGs}(h1:PG X e t)(h2:PGs X es u)(hs:(cD (e::es) X.env).map (·.2)=assign e X.env::(cD es X.env).map (·.2):=by rfl):PGs X (e::es) (LR t u):=by
 intro pins s σ H vs us Q I r h;obtain⟨v,vr,e1,h⟩:=h;subst e1;cases r with
|cons r rr=>rw[hs];refine assignInOrder_cons (thn (h1 pins s σ H _ _ _ I r h) λ_ s1 hZ=>?_);obtain⟨σ1,H1,I1,q1⟩:=hZ;exact h2 pins s1 σ1 H1 _ _ Q I1 rr q1
def gTup(K:aa)(n:Nat)(t:TGs):TG:=λv σ H Q=>∃a xs,v=.ref a/\SqT K H a xs/\xs.length=n/\t xs σ H Q
theorem YN{es:List Expr}{k:Nat}{t:TGs}{n:Nat}(hc:X.calm=true)(h:PGs X es t)(hn:(cD es X.env).length=n:=by rfl)(hst:(cD es X.env).findIdx? (·.1)=none:=by rfl):PG X (.Tuple es k pos) (gTup X.K n t):=by intro pins s σ H v u Q I r hw;obtain⟨a,xs,e1,hq,hl,hw⟩:=hw;subst e1;cases r;obtain⟨its,rv,ht,hz⟩:=I.tuple hq;refine assign_Tuple_tuple (I.ok.hd hc) ht (by simp[hn,<-hl,rv.length]) hst λh' hx=>?_;have I1:Inv X pins σ H {s with heap:=h'}:=I.kept (t':=s.toks) λb o e=>hx b o (Nat.ne_of_lt (Heap.lt_size e)) e;exact h pins _ σ H xs _ Q I1 (by simpa using rv) hw
def gSub(to ti:TE)(t:TSet):TG:=λv σ H Q=>to σ H λo H1=>ti σ H1 λi H2=>t o i v H2 λH3=>Q σ H3
theorem Rv{o i:Expr}{to ti:TE}{t:TSet}(ho:PE X o to)(hi:PE X i ti)(hs:PSet X t)
  (ha:∀v,assign (.Subscript o i pos) X.env v=(do
   let ov <-eV [v] (eval o X.env)
   let iv <-eV [v,ov] (eval i X.env)
   ib pos
   eV [v,ov,iv] (setItem ov iv v)
   release [v,ov,iv] []):=by intro _;rfl):PG X (.Subscript o i pos) (gSub to ti t):=by
 intro pins s σ H v u Q I r h
 rw[ha]
 refine ae (a8 (thn (ho pins s σ H _ I h) λov s1 hZ=>?_));obtain⟨x,H1,I1,r1,q1⟩:=hZ
 refine ae (a8 (thn (hi pins s1 σ H1 _ I1 q1) λiv s2 hZ=>?_));obtain⟨y,H2,I2,r2,q2⟩:=hZ
 refine ae (e_ (ae (a8 (thn (hs pins s2 σ H2 x y v ov iv u _ I2 r1 r2 r q2) λ_ s3⟨H3,I3,q3⟩=>?_))))
 exact wpAny_release ⟨σ,H3,I3,q3⟩
def tAsg(te:TE)(g:TG):TS:=λD σ H=>te σ H λx H1=>g x σ H1 D.nx
theorem V9{tg e:Expr}{te:TE}{g:TG}(he:PE X e te)(hg:PG X tg g)(hs:swapsWithSole [tg] e pos.line X.env=pure false:=by rfl)(hw:swappedStores [tg] e X.env=pure none:=by rfl)(h1:(cD [tg] X.env).map (·.2)=[assign tg X.env]:=by rfl):PS X (.Assign [tg] e pos) (tAsg te g):=by intro pins s σ H D I h;refine wpAny_Assign_stores (thn (he pins s σ H _ I h) λv s1 hZ=>?_) hs hw;obtain⟨x,H1,I1,r1,q1⟩:=hZ;rw[h1];exact thn (hg pins s1 σ H1 x v _ I1 r1 q1) λ_ s2 q=>q
theorem Yn{i:Nat}{x:Str}{e:Expr}{te:TE}{pos':Pos}(hN:X.N.Nodup)(hi:X.N[i]?=some x)(hx:Loc X.env.scope x)(he:PE X e te)(hs:fH e (some (.Name x pos')) pos.line X.env=pure false:=by rfl)(hf:X.fn x=true\/X.env.scope.names.lookup x=some .local:=by first|exact .inl rfl|exact .inr rfl|assumption):PS X (.Assign [.Name x pos'] e pos) (tAsg te (Zq i)):=by intro pins s σ H D I h;refine wpAny_Assign_Name (thn (he pins s σ H _ I h) λv s1 hZ=>?_) hs;obtain⟨y,H1,I1,r1,q1⟩:=hZ;exact MA I1 hN hi hx r1 (λs2 I2=>⟨_,H1,I2,q1⟩) hf
end
structure It where
 go:Nat->Hp->Prop
 yld:Nat->Hp->V->Hp->Prop
 stop:Nat->Hp->Prop
def FpOk(X:Cx)(pins:List (Addr×Obj))(H:Hp)(b:Addr):Prop:=H b=none/\b≠X.env.locals/\b∉X.fs/\(b∈X.ex\/X.s₀.heap.objs.size<=b)/\(∀x c,X.env.cells.lookup x=some c->c≠b)/\∀p∈X.pn++pins,p.1≠b
theorem Inv.fpOk{X:Cx}{pins:List (Addr×Obj)}{σ:St}{H H':Hp}{s:ag}{b:Addr}(I:Inv X pins σ H s)(hb:s.heap.objs.size<=b)(hn:H' b=none):FpOk X pins H' b:=by
 refine⟨hn,Nat.ne_of_gt (Nat.lt_of_lt_of_le I.lt hb),I.nofs hb,.inr (Nat.le_trans I.sz hb),λx c e z=>?_,λp hp z=>?_⟩
 ·obtain⟨v,q⟩:=I.cell x c e;exact absurd (Nat.lt_of_lt_of_le q.lt (by rw[z];exact hb)) (Nat.lt_irrefl _)
 ·exact absurd (Nat.lt_of_lt_of_le (Heap.lt_size (I.pin p hp).1) (by rw[z];exact hb)) (Nat.lt_irrefl _)
structure Turn(P:Program)(w:World)(K:aa)(tg:Expr)(J:It)(fp:List Addr)(it:Addr)(tn:Nat->Heap->Prop):Prop where
 mem:it∈fp
 obj:∀i h,tn i h->∀b∈fp,∃o,h.get? b=some o/\∀v,o.data≠.cell v
 keep:∀i h h',tn i h->(∀b∈fp,∀o,h.get? b=some o->h'.get? b=some o)->tn i h'
 item:∀(X:Cx),X.prog=P->X.w=w->X.K=K->X.calm=true->∀(i:Nat)(pins:List (Addr×Obj))(s:ag)(σ:St)(H:Hp)(E:Value->ag->Prop),Inv X pins σ H s->(∀b∈fp,FpOk X pins H b)->tn i s.heap->J.go i H ->
  wpAny (model P w) X.A (pyNext (.ref it)) (λr s1=>∃u,r=some u /\
   wpAny (model P w) X.A (gI tg (.ref it) u) (λ_ s2=>∃x H',Inv X pins σ H' s2/\RelV x u/\J.yld i H x H'/\tn (i+1) s2.heap/\∀b∈fp,H' b=none) E s1) E s
 done:∀(X:Cx),X.prog=P->X.w=w->X.K=K->X.calm=true->∀(i:Nat)(pins:List (Addr×Obj))(s:ag)(σ:St)(H:Hp)(E:Value->ag->Prop),Inv X pins σ H s->(∀b∈fp,FpOk X pins H b)->tn i s.heap->J.stop i H ->
  wpAny (model P w) X.A (pyNext (.ref it)) (λr s1=>r=none/\Inv X pins σ H s1) E s
 self:∀(A:a9)(i:Nat)(s:ag)(Q:Value->ag->Prop)(E:Value->ag->Prop),tn i s.heap->Q (.ref it) s->wpAny (model P w) A (pyIter (.ref it)) Q E s
noncomputable abbrev TI:=St->Hp->(It->Hp->Prop)->Prop
def PIE(X:Cx)(pins:List (Addr×Obj))(σ:St)(tg:Expr)(R:It->Hp->Prop)(itv:Value)(s2:ag):Prop:=∃(it:Addr)(fp:List Addr)(tn:Nat->Heap->Prop)(J:It)(H':Hp),itv=.ref it/\Inv X pins σ H' s2/\Turn X.prog X.w X.K tg J fp it tn/\tn 0 s2.heap/\(∀b∈fp,FpOk X pins H' b)/\R J H'
def PI(X:Cx)(tg iter:Expr)(wi:TI):Prop:=∀(pins:List (Addr×Obj))(s:ag)(σ:St)(H:Hp)(R:It->Hp->Prop),Inv X pins σ H s->wi σ H R ->wpAny (model X.prog X.w) X.A (eval iter X.env) (λv s1=>wpAny (model X.prog X.w) X.A (pyIter v) (PIE X pins σ tg R) X.xe s1) X.xe s
theorem QM{M:Model}{A:a9}{E:Value->ag->Prop}{s:ag}{tg:Expr}{it:Addr}{u:Value}{o:Obj}{n:String}{vs:Array Value}{Q:Unit->ag->Prop}(ho:s.heap.get? it=some o)(hc:o.cls=.type n)(hd:o.data=.fields vs)(hn:["enumerate","zip","dict_itemiterator","dict_reverseitemiterator","odict_iterator","itertools.zip_longest","itertools.pairwise"].contains n=false)(hQ:Q () s):wpAny M A (gI tg (.ref it) u) Q E s:=by
 unfold gI;cases tg<;>first
 |exact ai hQ
 |(cases u<;>first
   |exact ai hQ
   |(refine ae (wpAny_load ho ?_);rw[hc,hd];show wpAny M A (if(["enumerate","zip","dict_itemiterator","dict_reverseitemiterator","odict_iterator","itertools.zip_longest","itertools.pairwise"].contains n&&vs[0]?==some (dh _))=true then _ else _) Q E s;rw[if_neg (by intro h;rw[hn,Bool.false_and]at h;cases h)];exact ai hQ))
noncomputable def Itl(K:aa)(a:Addr):It:=⟨λi H=>∃xs x,SqL K H a xs/\xs[i]?=some x,λi H x H'=>H'=H/\∀xs,SqL K H a xs->xs[i]?=some x,λi H=>∃xs,SqL K H a xs/\xs.length<=i⟩
noncomputable def Itt(K:aa)(a:Addr):It:=⟨λi H=>∃xs x,SqT K H a xs/\xs[i]?=some x,λi H x H'=>H'=H/\∀xs,SqT K H a xs->xs[i]?=some x,λi H=>∃xs,SqT K H a xs/\xs.length<=i⟩
noncomputable def Itr(lo:Int)(n:Nat):It:=⟨λi _=>i<n,λi H x H'=>H'=H/\x=.int (lo+i),λi _=>n<=i⟩
theorem TR{P:Program}{w:World}{K:aa}{tg:Expr}(a it:Addr):Turn P w K tg (Itl K a) [it] it (λi h=>h.IsListIter it a i) where
 mem:=by simp
 obj:=λi h st b hb=>by
  have e:b=it:=by simpa using hb
  subst e
  obtain⟨o,e,c,d⟩:=st
  exact⟨o,e,λv z=>by rw[d]at z;cases z⟩
 keep:=λi h h' st k=>st.at λo e=>k it (by simp) o e
 item:=by
  intro X hP hw hK hc i pins s σ H E I hf st hg
  subst hP hw hK
  obtain⟨xs,x,hq,hx⟩:=hg
  obtain⟨its,rv,p,hz⟩:=I.list hq
  obtain⟨u,hu,ru⟩:=rv.get hx
  obtain⟨f0,f1,f2,f3,f4,f5⟩:=hf it (by simp)
  refine wpAny_pyNext_list_item st p.isList (x:=u) (by simpa using hu) λh' st' sb=>?_
  have I1:Inv X pins σ H {s with heap:=h'}:=I.turned (t':=s.toks) (λb o hb e=>(sb.2 b hb).trans e) f0 f1 f3 f4 f5
  obtain⟨o,e,c,d⟩:=id st'
  exact⟨u,rfl,QM (s:={s with heap:=h'}) e c d (by decide) ⟨x,H,I1,ru,⟨rfl,λys hy=>by rw[I.list_inj hy hq];exact hx⟩,st',λb hb=>(hf b hb).1⟩⟩
 done:=by
  intro X hP hw hK hc i pins s σ H E I hf st hg
  subst hP hw hK
  obtain⟨xs,hq,hx⟩:=hg
  obtain⟨its,rv,p,hz⟩:=I.list hq
  obtain⟨f0,f1,f2,f3,f4,f5⟩:=hf it (by simp)
  have hl:=rv.length
  exact wpAny_pyNext_list_end (I.ok.hd hc) st p.isList (by simp;omega) λh' eb=>⟨rfl,I.turned (t':=s.toks) (λb o hb e=>eb b o hb e) f0 f1 f3 f4 f5⟩
 self:=λ_ _ _ _ _ st h=>wpAny_pyIter_listiter st h
theorem Q5{P:Program}{w:World}{K:aa}{tg:Expr}(a it:Addr):Turn P w K tg (Itt K a) [it] it (λi h=>h.IsTupleIter it a i) where
 mem:=by simp
 obj:=λi h st b hb=>by
  have e:b=it:=by simpa using hb
  subst e
  obtain⟨o,e,c,d⟩:=st
  exact⟨o,e,λv z=>by rw[d]at z;cases z⟩
 keep:=λi h h' st k=>st.at λo e=>k it (by simp) o e
 item:=by
  intro X hP hw hK hc i pins s σ H E I hf st hg
  subst hP hw hK
  obtain⟨xs,x,hq,hx⟩:=hg
  obtain⟨its,rv,p,hz⟩:=I.tuple hq
  obtain⟨u,hu,ru⟩:=rv.get hx
  obtain⟨f0,f1,f2,f3,f4,f5⟩:=hf it (by simp)
  refine wpAny_pyNext_tuple_item st (show s.heap.IsTuple a its.toArray from p) (x:=u) (by simpa using hu) λh' st' sb=>?_
  have I1:Inv X pins σ H {s with heap:=h'}:=I.turned (t':=s.toks) (λb o hb e=>(sb.2 b hb).trans e) f0 f1 f3 f4 f5
  obtain⟨o,e,c,d⟩:=id st'
  exact⟨u,rfl,QM (s:={s with heap:=h'}) e c d (by decide) ⟨x,H,I1,ru,⟨rfl,λys hy=>by rw[I.tuple_inj hy hq];exact hx⟩,st',λb hb=>(hf b hb).1⟩⟩
 done:=by
  intro X hP hw hK hc i pins s σ H E I hf st hg
  subst hP hw hK
  obtain⟨xs,hq,hx⟩:=hg
  obtain⟨its,rv,p,hz⟩:=I.tuple hq
  obtain⟨f0,f1,f2,f3,f4,f5⟩:=hf it (by simp)
  have hl:=rv.length
  exact wpAny_pyNext_tuple_end (I.ok.hd hc) st (show s.heap.IsTuple a its.toArray from p) (by simp;omega) λh' eb=>⟨rfl,I.turned (t':=s.toks) (λb o hb e=>eb b o hb e) f0 f1 f3 f4 f5⟩
 self:=λ_ _ _ _ _ st h=>wpAny_pyIter_tupleiter st h
theorem Q6{P:Program}{w:World}{K:aa}{tg:Expr}(it:Addr)(lo:Int)(n:Nat):Turn P w K tg (Itr lo n) [it] it (λi h=>IsRangeIter h it (lo+(i:Nat)*1) ((n:Int)-(i:Nat)) 1) where
 mem:=by simp
 obj:=λi h st b hb=>by
  have e:b=it:=by simpa using hb
  subst e
  exact⟨_,st,λv z=>by
   have z':Data.fields _=Data.cell v:=z
   cases z'⟩
 keep:=λi h h' st k=>k it (by simp) _ st
 item:=by
  intro X hP hw hK hc i pins s σ H E I hf st hg
  subst hP hw hK
  obtain⟨f0,f1,f2,f3,f4,f5⟩:=hf it (by simp)
  have W:=Walks.range (prog:=X.prog) (w:=X.w) (I.ok.hd hc) it lo 1 n
  refine W.item i s _ _ hg st λv h' tk hv st' kk=>?_
  obtain⟨t,rfl⟩:=hv
  have I1:Inv X pins σ H {s with heap:=h',toks:=tk}:=I.turned (λb o hb e=>kk b o (by simpa using hb) e) f0 f1 f3 f4 f5
  refine⟨_,rfl,QM (s:={s with heap:=h',toks:=tk}) (n:="range_iterator") st' rfl rfl (by decide) ⟨.int (lo+i),H,I1,⟨t,?_⟩,⟨rfl,rfl⟩,st',λb hb=>(hf b hb).1⟩⟩
  rw[Int.mul_one]
 done:=by
  intro X hP hw hK hc i pins s σ H E I hf st hg
  subst hP hw hK
  obtain⟨f0,f1,f2,f3,f4,f5⟩:=hf it (by simp)
  exact wpAny_pyNext_range_end (I.ok.hd hc) st (by have:n<=i:=hg;omega) λh' eb=>⟨rfl,I.turned (t':=s.toks) (λb o hb e=>eb b o hb e) f0 f1 f3 f4 f5⟩
 self:=λ_ _ _ _ _ st h=>wpAny_pyIter_rangeiter st h
open PySem PySem.Spec PyProof.Rows
section
variable {X:Cx}{tg:Expr}
noncomputable def AO(K:aa)(tl:TE):TI:=λσ H R=>tl σ H λx H1=>∃a,x=.ref a/\(∃xs,SqL K H1 a xs)/\R (Itl K a) H1
noncomputable def iTup(K:aa)(tl:TE):TI:=λσ H R=>tl σ H λx H1=>∃a,x=.ref a/\(∃xs,SqT K H1 a xs)/\R (Itt K a) H1
theorem ZW{l:Expr}{tl:TE}(hl:PE X l tl):PI X tg l (AO X.K tl):=by
 intro pins s σ H R I h;refine thn (hl pins s σ H _ I h) λv s1 hZ=>?_;obtain⟨x,H1,I1,r1,q1⟩:=hZ;obtain⟨a,e,⟨xs,hq⟩,q⟩:=q1;subst e;cases r1;obtain⟨its,rv,p,hz⟩:=I1.list hq;refine eJ p.isList ?_;refine⟨s1.heap.objs.size,[s1.heap.objs.size],_,_,H1,rfl,I1.kept (t':=s1.toks) λb o e=>Heap.get?_push_of_some _ e,TR a _,⟨_,Heap.get?_push_size _ rfl,rfl,rfl⟩,λb hb=>?_,q⟩;have e:b=s1.heap.objs.size:=by simpa using hb
 subst e;exact I1.fpOk (Nat.le_refl _) (I1.hok.fresh (Nat.le_refl _))
theorem MR{l:Expr}{tl:TE}(hl:PE X l tl):PI X tg l (iTup X.K tl):=by
 intro pins s σ H R I h;refine thn (hl pins s σ H _ I h) λv s1 hZ=>?_;obtain⟨x,H1,I1,r1,q1⟩:=hZ;obtain⟨a,e,⟨xs,hq⟩,q⟩:=q1;subst e;cases r1;obtain⟨its,rv,p,hz⟩:=I1.tuple hq;refine iE (show s1.heap.IsTuple a its.toArray from p) ?_;refine⟨s1.heap.objs.size,[s1.heap.objs.size],_,_,H1,rfl,I1.kept (t':=s1.toks) λb o e=>Heap.get?_push_of_some _ e,Q5 a _,⟨_,Heap.get?_push_size _ rfl,rfl,rfl⟩,λb hb=>?_,q⟩;have e:b=s1.heap.objs.size:=by simpa using hb
 subst e;exact I1.fpOk (Nat.le_refl _) (I1.hok.fresh (Nat.le_refl _))
theorem Qi{pins:List (Addr×Obj)}{σ:St}{H:Hp}{s:ag}{R:It->Hp->Prop}{E:Value->ag->Prop}{lo hi:Int}{t u v:Tok}{tk:Nat}(I:Inv X pins σ H s)(h1:-(2 ^ 62)<=lo)(h2:lo<2 ^ 62)(h3:-(2 ^ 62)<=hi)(h4:hi<2 ^ 62)(q:R (Itr lo (hi-lo).toNat) H):wpAny (model X.prog X.w) X.A (pyIter (.ref s.heap.objs.size)) (PIE X pins σ tg R) E {s with heap:=s.heap.push {cls:=.type "range",data:=.fields #[.int lo t,.int hi u,.int 1 v]},toks:=tk}:=by
 refine wpAny_pyIter_range (IsRange.new ..) (small_one h1 h2 h3 h4) ?_;have I1:Inv X pins σ H {s with heap:=s.heap.push {cls:=.type "range",data:=.fields #[.int lo t,.int hi u,.int 1 v]},toks:=tk}:=I.kept λb o e=>Heap.get?_push_of_some _ e;refine⟨(s.heap.push {cls:=.type "range",data:=.fields #[.int lo t,.int hi u,.int 1 v]}).objs.size,[(s.heap.push {cls:=.type "range",data:=.fields #[.int lo t,.int hi u,.int 1 v]}).objs.size],_,_,H,rfl,I1.kept (t':=tk) λb o e=>Heap.get?_push_of_some _ e,Q6 _ lo (hi-lo).toNat,?_,λb hb=>?_,q⟩
 ·have e1:lo+((0:Nat):Int)*1=lo:=by simp
  have e2:(((hi-lo).toNat:Nat):Int)-((0:Nat):Int)=Builtin.Range.rangeSize lo hi 1:=by rw[rangeSize_one];split<;>omega
  show IsRangeIter _ _ (lo+((0:Nat):Int)*1) ((((hi-lo).toNat:Nat):Int)-((0:Nat):Int)) 1;rw[e1,e2];exact Heap.get?_push_size _ rfl
 ·have e:b=(s.heap.push {cls:=.type "range",data:=.fields #[.int lo t,.int hi u,.int 1 v]}).objs.size:=by simpa using hb
  subst e;exact I1.fpOk (Nat.le_refl _) (I1.hok.fresh (Nat.le_refl _))
noncomputable def AN(ta:TA):TI:=λσ H R=>ta σ H λvs H1=>∃j:Int,vs=[.int j]/\-(2 ^ 62)<=j/\j<2 ^ 62/\R (Itr 0 j.toNat) H1
noncomputable def AM(ta:TA):TI:=λσ H R=>ta σ H λvs H1=>∃i j:Int,vs=[.int i,.int j]/\(-(2 ^ 62)<=i/\i<2 ^ 62/\-(2 ^ 62)<=j/\j<2 ^ 62)/\R (Itr i (j-i).toNat) H1
theorem YD{a:Expr}{ta:TA}{p pos:Pos}(hg:Gl X "range")(hm:X.mg "range"=none)(ha:PA X [a] ta)(hs:aI [a] X.env=[(false,eval a X.env)]:=by rfl):PI X tg (.Call (.Name "range" p) [a] [] pos) (AN ta):=by
 intro pins s σ H R I h;refine Call_ (Ua I hg hm boot_range (b7 (thn (ha pos pins s σ H _ I h) λus s1 hZ=>?_) hs rfl));obtain⟨vs,H1,I1,r1,q1⟩:=hZ;obtain⟨j,e,q1,q2,q⟩:=q1;subst e;cases r1 with
|cons r rr=>cases rr;obtain⟨t,rfl⟩:=r;exact call_range_1 (Qi I1 (by omega) (by omega) q1 q2 (by simpa using q))
theorem Xp{a b:Expr}{ta:TA}{p pos:Pos}(hg:Gl X "range")(hm:X.mg "range"=none)(ha:PA X [a,b] ta)(hs:aI [a,b] X.env=[(false,eval a X.env),(false,eval b X.env)]:=by rfl)(hs2:aI [b] X.env=[(false,eval b X.env)]:=by rfl):PI X tg (.Call (.Name "range" p) [a,b] [] pos) (AM ta):=by
 intro pins s σ H R I h;refine Call_ (Ua I hg hm boot_range (b7 (thn (ha pos pins s σ H _ I h) λus s1⟨vs,H1,I1,r1,q1⟩=>?_) (by rw[hs,hs2]) (by rw[hs2];rfl)));obtain⟨i,j,e,⟨q1,q2,q3,q4⟩,q⟩:=q1;subst e;cases r1 with
|cons r rr=>
  cases rr with
 |cons r' rr=>cases rr;obtain⟨t,rfl⟩:=r;obtain⟨t',rfl⟩:=r';exact call_range_2 (Qi I1 q1 q2 q3 q4 q)
def tFor(wi:TI)(g:TG)(tb:TS):TS:=λD σ H=>wi σ H λJ H1=>∃W:Nat->Nat->St->Hp->Prop,(∃m,W 0 m σ H1)/\∀i m σ H,W i m σ H ->(J.stop i H/\D.nx σ H)\/(J.go i H/\∃N:St->Hp->Prop,(∀σ' H',N σ' H'->∃m',m'<m/\W (i+1) m' σ' H')/\∀x H',J.yld i H x H'->g x σ H' λσ2 H2=>tb {D with nx:=N,ct:=N,bk:=D.nx} σ2 H2)
noncomputable def MQ(fp:List Addr)(h:Heap):List (Addr×Obj):=fp.filterMap λb=>(h.get? b).map λo=>(b,o)
theorem mem_pinsAt{fp:List Addr}{h:Heap}{b:Addr}{o:Obj}(hb:b∈fp)(e:h.get? b=some o):(b,o)∈MQ fp h:=gY.mpr ⟨b,hb,by rw[e];rfl⟩
theorem We{fp:List Addr}{h:Heap}{p:Addr×Obj}(hp:p∈MQ fp h):p.1∈fp/\h.get? p.1=some p.2:=by
 obtain⟨b,hb,e⟩:=gY.mp hp;cases q:h.get? b with
|none=>rw[q]at e;cases e
|some o=>rw[q]at e;have e':(b,o)=p:=au e;subst e';exact⟨hb,q⟩
theorem Inv.pinned{pins:List (Addr×Obj)}{σ:St}{H:Hp}{s:ag}{fp:List Addr}(I:Inv X pins σ H s)(hf:∀b∈fp,FpOk X pins H b)(ho:∀b∈fp,∃o,s.heap.get? b=some o/\∀v,o.data≠.cell v):Inv X (pins++MQ fp s.heap) σ H s:=I.pins_of λp hp=>(aD.mp hp).elim (λz=>I.pin p (aU _ z)) λz=>by obtain⟨hb,e⟩:=We z;obtain⟨f0,f1,f2,_⟩:=hf p.1 hb;obtain⟨o,e',d⟩:=ho p.1 hb;rw[e]at e';cases e';exact⟨e,f0,f1,f2,d⟩
theorem Inv.unpinned{pins pl:List (Addr×Obj)}{σ:St}{H:Hp}{s:ag}(I:Inv X (pins++pl) σ H s):Inv X pins σ H s:=I.pins_of λp hp=>I.pin p (aU _ (bh _ hp))
theorem Yc{iter:Expr}{body:List Stmt}{wi:TI}{g:TG}{tb:TS}{pos:Pos}(hp:PassesOwn (model X.prog X.w) X.A X.env X.xe)(hc:X.calm=true)(hi:PI X tg iter wi)(hg:PG X tg g)(hb:PSs X body tb)(hs:∀x,fU iter X.env x=pure x:=by intro _;rfl):PS X (.For tg iter body [] pos) (tFor wi g tb):=by
 intro pins s σ H D I h;refine wpAny_For (thn (hi pins s σ H _ I h) λv s1 h1=>thn h1 λitv s2 h2=>?_) hs;obtain⟨it,fp,tn,J,H2,e,I2,T,st2,f2,W,⟨m0,w0⟩,turn⟩:=h2;subst e;have stat:∀{H':Hp},(∀b∈fp,H' b=none)->∀b∈fp,FpOk X pins H' b:=λhn b hb=>⟨hn b hb,(f2 b hb).2⟩;refine codeAny_forLoop_any (λn s'=>∃i σ' H',Inv X pins σ' H' s'/\tn i s'.heap/\(∀b∈fp,H' b=none)/\W i n σ' H') ?_ m0 ⟨0,σ,H2,I2,st2,λb hb=>(f2 b hb).1,w0⟩;rintro n s3 ⟨i,σ3,H3,I3,st3,fr3,w3⟩;rcases turn i n σ3 H3 w3 with⟨stop,qn⟩|⟨go,N,hN,step⟩
 ·refine fu hp (thn (T.done X rfl rfl rfl hc i pins s3 σ3 H3 X.xe I3 (stat fr3) st3 stop) λr s4⟨hr,I4⟩=>?_);subst hr;exact gG ⟨σ3,H3,I4,qn⟩
 ·refine fu hp (thn (T.item X rfl rfl rfl hc i pins s3 σ3 H3 X.xe I3 (stat fr3) st3 go) λr s4⟨u,hr,h4⟩=>?_);subst hr;refine fu hp (thn h4 λ_ s5 hZ=>?_);obtain⟨x,H5,I5,r5,y5,st5,fr5⟩:=hZ;have I5':=I5.pinned (stat fr5) (T.obj _ _ st5);refine fu hp (thn (hg _ s5 σ3 H5 x u _ I5' r5 (step x H5 y5)) λ_ s6 hZ=>?_);obtain⟨σ6,H6,I6,q6⟩:=hZ;refine fu hp (thn (hb _ s6 σ6 H6 _ I6 q6) λf s7 q7=>?_);have again:∀{σ7:St}{H7:Hp},Inv X (pins++MQ fp s5.heap) σ7 H7 s7->N σ7 H7->∃m,m<n/\∃i σ' H',Inv X pins σ' H' s7/\tn i s7.heap/\(∀b∈fp,H' b=none)/\W i m σ' H':=λ{σ7 H7}I7 n7=>by obtain⟨m',hm,w7⟩:=hN σ7 H7 n7;refine⟨m',hm,i+1,σ7,H7,I7.unpinned,T.keep _ _ _ st5 λb hb o e=>(I7.pin (b,o) (aU _ (aU _ (mem_pinsAt hb e)))).1,λb hb=>?_,w7⟩;obtain⟨o,e,d⟩:=T.obj _ _ st5 b hb;exact(I7.pin (b,o) (aU _ (aU _ (mem_pinsAt hb e)))).2.1
  cases f with
 |next=>obtain⟨σ7,H7,I7,n7⟩:=q7;exact again I7 n7
 |cont=>obtain⟨σ7,H7,I7,n7⟩:=q7;exact again I7 n7
 |brk=>obtain⟨σ7,H7,I7,q7⟩:=q7;exact⟨σ7,H7,I7.unpinned,q7⟩
 |ret v=>obtain⟨x7,σ7,H7,I7,r7,q7⟩:=q7;exact⟨x7,σ7,H7,I7.unpinned,r7,q7⟩
end
theorem Gf{lo:Int}{n:Nat}{g:TG}{tb:TS}{D:Ends}{σ:St}{H:Hp}(Pv:Nat->St->Hp->Prop)(h0:Pv 0 σ H)(hs:∀i σ H,i<n->Pv i σ H->g (.int (lo+i)) σ H λσ2 H2=>tb {D with nx:=Pv (i+1),ct:=Pv (i+1),bk:=D.nx} σ2 H2)(hd:∀σ H,Pv n σ H->D.nx σ H):∃W:Nat->Nat->St->Hp->Prop,(∃m,W 0 m σ H)/\∀i m σ H,W i m σ H ->((Itr lo n).stop i H/\D.nx σ H)\/((Itr lo n).go i H/\∃N:St->Hp->Prop,(∀σ' H',N σ' H'->∃m',m'<m/\W (i+1) m' σ' H')/\∀x H',(Itr lo n).yld i H x H'->g x σ H' λσ2 H2=>tb {D with nx:=N,ct:=N,bk:=D.nx} σ2 H2):=by
 refine⟨λi m σ H=>m=n-i/\i<=n/\Pv i σ H,⟨n,by simp,Nat.zero_le _,h0⟩,?_⟩;rintro i m σ H ⟨rfl,hi,p⟩;by_cases hlt:i<n
 ·refine .inr ⟨hlt,Pv (i+1),λσ' H' p'=>⟨n-(i+1),by omega,rfl,hlt,p'⟩,λx H' y=>?_⟩;obtain⟨e,y⟩:=y;subst e y;exact hs i σ _ hlt p
 ·have e:i=n:=by omega
  subst e;exact .inl ⟨Nat.le_refl _,hd σ H p⟩
open PySem PySem.Spec PyProof.Rows
noncomputable abbrev R2:=V->V->Hp->VK->Prop
def OpR(X:Cx)(f:Value->Value->Sem Value)(r:R2):Prop:=∀(pins:List (Addr×Obj))(s:ag)(σ:St)(H:Hp)(x y:V)(v u:Value)(Q:VK),Inv X pins σ H s->RelV x v->RelV y u->r x y H Q ->wpAny (model X.prog X.w) X.A (f v u) (EP X pins σ Q) X.xe s
def UnR(X:Cx)(f:Value->Sem Value)(r:V->Hp->VK->Prop):Prop:=∀(pins:List (Addr×Obj))(s:ag)(σ:St)(H:Hp)(x:V)(v:Value)(Q:VK),Inv X pins σ H s->RelV x v->r x H Q ->wpAny (model X.prog X.w) X.A (f v) (EP X pins σ Q) X.xe s
def YI(X:Cx)(f:Value)(r:List V->Hp->VK->Prop):Prop:=∀(pins:List (Addr×Obj))(s:ag)(σ:St)(H:Hp)(xs:List V)(us:List Value)(Q:VK),Inv X pins σ H s->Vals xs us->r xs H Q ->wpAny (model X.prog X.w) X.A (call f us) (EP X pins σ Q) X.xe s
def TruR(X:Cx)(r:V->Hp->(Bool->Hp->Prop)->Prop):Prop:=∀(pins:List (Addr×Obj))(s:ag)(σ:St)(H:Hp)(x:V)(v:Value)(Q:Bool->Hp->Prop),Inv X pins σ H s->RelV x v->r x H Q ->wpAny (model X.prog X.w) X.A (truthy v) (TP X pins σ Q) X.xe s
def tOp(r:R2)(ta tb:TE):TE:=λσ H Q=>ta σ H λx H1=>tb σ H1 λy H2=>r x y H2 Q
def tUn(r:V->Hp->VK->Prop)(ta:TE):TE:=λσ H Q=>ta σ H λx H1=>r x H1 Q
def rI(C:Int->Int->Prop)(g:Int->Int->V):R2:=λx y H Q=>∃i j,x=.int i/\y=.int j/\C i j/\Q (g i j) H
def rI0(g:Int->Int->V):R2:=λx y H Q=>∃i j,x=.int i/\y=.int j/\Q (g i j) H
noncomputable def rU(g:Int->V):V->Hp->VK->Prop:=λx H Q=>∃i,x=.int i/\Q (g i) H
section
variable {X:Cx}{a b c:Expr}{ta tb tc:TE}{pos:Pos}
theorem binT(ha:PE X a ta)(hb:PE X b tb){pins:List (Addr×Obj)}{s:ag}{σ:St}{H:Hp}{R:V->V->Hp->Prop}(I:Inv X pins σ H s)(h:ta σ H λx H1=>tb σ H1 λy H2=>R x y H2){Q:Value->ag->Prop}{f:Value->Value->Sem Value}(hf:∀v u s2 x y H2,Inv X pins σ H2 s2->RelV x v->RelV y u->R x y H2->wpAny (model X.prog X.w) X.A (f v u) Q X.xe s2):wpAny (model X.prog X.w) X.A (eval a X.env) (λv s₁=>wpAny (model X.prog X.w) X.A (eval b X.env) (λu s₂=>wpAny (model X.prog X.w) X.A (f v u) Q X.xe s₂) X.xe s₁) X.xe s:=by refine thn (ha pins s σ H _ I h) λv s1 hZ=>?_;obtain⟨x,H1,I1,r1,q1⟩:=hZ;refine thn (hb pins s1 σ H1 _ I1 q1) λu s2 hZ=>?_;obtain⟨y,H2,I2,r2,q2⟩:=hZ;exact hf v u s2 x y H2 I2 r1 r2 q2
theorem Zo{op:Operator}{r:R2}(ho:OpR X (et op) r)(ha:PE X a ta)(hb:PE X b tb):PE X (.BinOp a op b pos) (tOp r ta tb):=by intro pins s σ H Q I h;exact wpAny_BinOp (binT ha hb I h λv u s2 x y H2 I2 rx ry q=>ho pins s2 σ H2 x y v u Q I2 rx ry q)
theorem Qm{op:UnaryOp}{r:V->Hp->VK->Prop}(ho:UnR X (unaryOp op) r)(ha:PE X a ta):PE X (.UnaryOp op a pos) (tUn r ta):=by intro pins s σ H Q I h;exact UnaryOp_ (thn (ha pins s σ H _ I h) λv s1⟨x,H1,I1,r1,q1⟩=>ho pins s1 σ H1 x v Q I1 r1 q1)
theorem opI{f:Value->Value->Sem Value}{C:Int->Int->Prop}{g:Int->Int->Int}(rule:∀(i j:Int)(t u:Tok)(s:ag)(Q:Value->ag->Prop)(E:Value->ag->Prop),C i j->Q (.int (g i j) s.toks) {s with toks:=s.toks+1}->wpAny (model X.prog X.w) X.A (f (.int i t) (.int j u)) Q E s):OpR X f (rI C λi j=>.int (g i j)):=by intro pins s σ H x y v u Q I rx ry h;obtain⟨i,j,rfl,rfl,hc,q⟩:=h;obtain⟨t,rfl⟩:=rx;obtain⟨t',rfl⟩:=ry;exact rule i j t t' s _ _ hc ⟨.int (g i j),H,I.tok _,⟨_,rfl⟩,q⟩
theorem opI0{f:Value->Value->Sem Value}{g:Int->Int->Int}(rule:∀(i j:Int)(t u:Tok)(s:ag)(Q:Value->ag->Prop)(E:Value->ag->Prop),Q (.int (g i j) s.toks) {s with toks:=s.toks+1}->wpAny (model X.prog X.w) X.A (f (.int i t) (.int j u)) Q E s):OpR X f (rI0 λi j=>.int (g i j)):=by intro pins s σ H x y v u Q I rx ry h;obtain⟨i,j,rfl,rfl,q⟩:=h;obtain⟨t,rfl⟩:=rx;obtain⟨t',rfl⟩:=ry;exact rule i j t t' s _ _ ⟨.int (g i j),H,I.tok _,⟨_,rfl⟩,q⟩
theorem opB0{f:Value->Value->Sem Value}{g:Int->Int->Bool}(rule:∀(i j:Int)(t u:Tok)(s:ag)(Q:Value->ag->Prop)(E:Value->ag->Prop),Q (.bool (g i j)) s->wpAny (model X.prog X.w) X.A (f (.int i t) (.int j u)) Q E s):OpR X f (rI0 λi j=>.bl (g i j)):=by intro pins s σ H x y v u Q I rx ry h;obtain⟨i,j,rfl,rfl,q⟩:=h;obtain⟨t,rfl⟩:=rx;obtain⟨t',rfl⟩:=ry;exact rule i j t t' s _ _ ⟨.bl (g i j),H,I,rfl,q⟩
def CDiv(i j:Int):Prop:=0<j/\j<1073741824
def CPow(i j:Int):Prop:=0<=j/\j<=1000000/\i.natAbs<2 ^ 64
def CMul(i j:Int):Prop:=(-(2 ^ 64)<i/\i<2 ^ 64)\/(-(2 ^ 64)<j/\j<2 ^ 64)
theorem CMul.ok{i j:Int}(h:CMul i j):IntMulOk i j:=by
 rcases h with⟨h1,h2⟩|⟨h1,h2⟩
 ·exact .of_left (intBits_le_64 h1 h2)
 ·exact .of_right (intBits_le_64 h1 h2)
theorem ZI:OpR X (et .Add) (rI0 λi j=>.int (i+j)):=opI0 λ_ _ _ _ _ _ _ q=>add_int q
theorem XZ:OpR X (et .Sub) (rI0 λi j=>.int (i-j)):=opI0 λ_ _ _ _ _ _ _ q=>sub_int q
theorem JJ:OpR X (et .Mult) (rI CMul λi j=>.int (i*j)):=opI λ_ _ _ _ _ _ _ hc q=>mul_int q hc.ok
theorem PD:OpR X (et .FloorDiv) (rI CDiv λi j=>.int (i / j)):=opI λi j _ _ _ _ _ hc q=>by have h1:(0:Int)<j:=hc.1;have h2:j<1073741824:=hc.2;exact floordiv_int (by omega) (by rw[Int.fdiv_eq_ediv_of_nonneg i (by omega)];exact q) (.inl (PyProof.noPylong_small (by omega)))
theorem Xi:OpR X (et .Mod) (rI (λ_ j=>0<j) λi j=>.int (i % j)):=opI λi j _ _ _ _ _ hc q=>by have h1:(0:Int)<j:=hc;exact mod_int' (by omega) (by rw[Int.fmod_eq_emod_of_nonneg i (by omega)];exact q)
theorem FT:OpR X (et .Pow) (rI CPow λi j=>.int (i ^ j.toNat)):=opI λ_ _ _ _ _ _ _ hc q=>pow_int_small hc.1 hc.2.1 hc.2.2 q
theorem unI{f:Value->Sem Value}{g:Int->Int}(rule:∀(i:Int)(t:Tok)(s:ag)(Q:Value->ag->Prop)(E:Value->ag->Prop),Q (.int (g i) s.toks) {s with toks:=s.toks+1}->wpAny (model X.prog X.w) X.A (f (.int i t)) Q E s):UnR X f (rU λi=>.int (g i)):=by intro pins s σ H x v Q I rx h;obtain⟨i,rfl,q⟩:=h;obtain⟨t,rfl⟩:=rx;exact rule i t s _ _ ⟨.int (g i),H,I.tok _,⟨_,rfl⟩,q⟩
theorem Mx:UnR X (unaryOp .USub) (rU λi=>.int (-i)):=unI λ_ _ _ _ _ q=>neg_int q
noncomputable def scal:V->V->Bool
|.non,.non=>true|.non,.int _=>true|.int _,.non=>true|.non,.bl _=>true|.bl _,.non=>true|.non,.str _=>true|.str _,.non=>true
|.int _,.int _=>true|.bl _,.bl _=>true|.str _,.str _=>true|.byt _,.byt _=>true
|.int _,.str _=>true|.str _,.int _=>true|.bl _,.str _=>true|.str _,.bl _=>true
|_,_=>false
def rEq:R2:=λx y H Q=>scal x y=true/\Q (.bl (decide (x=y))) H
def rNe:R2:=λx y H Q=>scal x y=true/\Q (.bl (!decide (x=y))) H
theorem TC{i j:Int}:decide (V.int i=V.int j)=(i==j):=by rw[Bool.eq_iff_iff];simp
theorem LY{i j:Bool}:decide (V.bl i=V.bl j)=(i==j):=by rw[Bool.eq_iff_iff];simp
theorem Tz{i j:Str}:decide (V.str i=V.str j)=(i==j):=by rw[Bool.eq_iff_iff];simp
theorem TF{i j:Array UInt8}:decide (V.byt i=V.byt j)=(i.toList==j.toList):=by rw[Bool.eq_iff_iff];cases i;cases j;simp
theorem ZN{pins:List (Addr×Obj)}{σ:St}{H:Hp}{s:ag}{Q:VK}{k k':Bool}(I:Inv X pins σ H s)(q:Q (.bl k) H)(e:k=k'):EP X pins σ Q (.bool k') s:=by subst e;exact⟨.bl k,H,I,rfl,q⟩
theorem Xw:OpR X (br .Eq) rEq:=by
 intro pins s σ H x y v u Q I rx ry h;obtain⟨hs,q⟩:=h;cases x with
|non=>
  cases rx;cases y with
 |non=>cases ry;exact PySem.EqNone.eq_none_none (ZN I q (by simp))
 |bl j=>cases ry;exact PySem.EqNone.eq_none_bool (ZN I q (by simp))
 |int j=>obtain⟨t',rfl⟩:=ry;exact PySem.EqNone.eq_none_int (ZN I q (by simp))
 |str j=>obtain⟨t',rfl⟩:=ry;exact PySem.EqNone.eq_none_str (ZN I q (by simp))
 |_=>exact absurd (show false=true from hs) Bool.false_ne_true
|bl i=>
  cases rx;cases y with
 |non=>cases ry;exact PySem.EqNone.eq_bool_none (ZN I q (by simp))
 |bl j=>cases ry;exact eq_bool (ZN I q LY)
 |str j=>obtain⟨t',rfl⟩:=ry;exact PySem.EqMixed.eq_bool_str (ZN I q (by simp))
 |_=>exact absurd (show false=true from hs) Bool.false_ne_true
|int i=>
  obtain⟨t,rfl⟩:=rx;cases y with
 |non=>cases ry;exact PySem.EqNone.eq_int_none (ZN I q (by simp))
 |int j=>obtain⟨t',rfl⟩:=ry;exact eq_int (ZN I q TC)
 |str j=>obtain⟨t',rfl⟩:=ry;exact PySem.EqMixed.eq_int_str (ZN I q (by simp))
 |_=>exact absurd (show false=true from hs) Bool.false_ne_true
|str i=>
  obtain⟨t,rfl⟩:=rx;cases y with
 |non=>cases ry;exact PySem.EqNone.eq_str_none (ZN I q (by simp))
 |bl j=>cases ry;exact PySem.EqMixed.eq_str_bool (ZN I q (by simp))
 |int j=>obtain⟨t',rfl⟩:=ry;exact PySem.EqMixed.eq_str_int (ZN I q (by simp))
 |str j=>obtain⟨t',rfl⟩:=ry;exact eq_str (ZN I q Tz)
 |_=>exact absurd (show false=true from hs) Bool.false_ne_true
|byt i=>
  obtain⟨t,rfl⟩:=rx;cases y with
 |byt j=>obtain⟨t',rfl⟩:=ry;exact PySem.W.eq_bytes (ZN I q TF)
 |_=>exact absurd (show false=true from hs) Bool.false_ne_true
|_=>cases y<;>exact absurd (show false=true from hs) Bool.false_ne_true
theorem NG:OpR X (br .NotEq) rNe:=by
 intro pins s σ H x y v u Q I rx ry h;obtain⟨hs,q⟩:=h;cases x with
|non=>
  cases rx;cases y with
 |non=>cases ry;exact PySem.EqNone.ne_none_none (ZN I q (by simp))
 |bl j=>cases ry;exact PySem.EqNone.ne_none_bool (ZN I q (by simp))
 |int j=>obtain⟨t',rfl⟩:=ry;exact PySem.EqNone.ne_none_int (ZN I q (by simp))
 |str j=>obtain⟨t',rfl⟩:=ry;exact PySem.EqNone.ne_none_str (ZN I q (by simp))
 |_=>exact absurd (show false=true from hs) Bool.false_ne_true
|bl i=>
  cases rx;cases y with
 |non=>cases ry;exact PySem.EqNone.ne_bool_none (ZN I q (by simp))
 |bl j=>cases ry;exact ne_bool (ZN I q (congrArg not LY))
 |str j=>obtain⟨t',rfl⟩:=ry;exact PySem.EqMixed.ne_bool_str (ZN I q (by simp))
 |_=>exact absurd (show false=true from hs) Bool.false_ne_true
|int i=>
  obtain⟨t,rfl⟩:=rx;cases y with
 |non=>cases ry;exact PySem.EqNone.ne_int_none (ZN I q (by simp))
 |int j=>obtain⟨t',rfl⟩:=ry;exact ne_int (ZN I q (congrArg not TC))
 |str j=>obtain⟨t',rfl⟩:=ry;exact PySem.EqMixed.ne_int_str (ZN I q (by simp))
 |_=>exact absurd (show false=true from hs) Bool.false_ne_true
|str i=>
  obtain⟨t,rfl⟩:=rx;cases y with
 |non=>cases ry;exact PySem.EqNone.ne_str_none (ZN I q (by simp))
 |bl j=>cases ry;exact PySem.EqMixed.ne_str_bool (ZN I q (by simp))
 |int j=>obtain⟨t',rfl⟩:=ry;exact PySem.EqMixed.ne_str_int (ZN I q (by simp))
 |str j=>obtain⟨t',rfl⟩:=ry;exact ne_str (ZN I q (congrArg not Tz))
 |_=>exact absurd (show false=true from hs) Bool.false_ne_true
|byt i=>
  obtain⟨t,rfl⟩:=rx;cases y with
 |byt j=>obtain⟨t',rfl⟩:=ry;exact PySem.W.ne_bytes (ZN I q (congrArg not TF))
 |_=>exact absurd (show false=true from hs) Bool.false_ne_true
|_=>cases y<;>exact absurd (show false=true from hs) Bool.false_ne_true
theorem SW:OpR X (br .Lt) (rI0 λi j=>.bl (decide (i<j))):=opB0 λ_ _ _ _ _ _ _ q=>lt_int q
theorem MU:OpR X (br .LtE) (rI0 λi j=>.bl (decide (i<=j))):=opB0 λ_ _ _ _ _ _ _ q=>le_int q
theorem NH:OpR X (br .Gt) (rI0 λi j=>.bl (decide (j<i))):=opB0 λ_ _ _ _ _ _ _ q=>gt_int q
theorem U9:OpR X (br .In) (λx y H Q=>∃i j,x=.str i/\y=.str j/\Q (.bl (!(iC j i 0 j.length 1).isEmpty)) H):=by intro pins s σ H x y v u Q I rx ry h;obtain⟨i,j,rfl,rfl,q⟩:=h;obtain⟨t,rfl⟩:=rx;obtain⟨t',rfl⟩:=ry;exact in_str (ZN I q rfl)
theorem X3:OpR X (br .Is) (λx y H Q=>y=.non/\Q (.bl (decide (x=.non))) H):=by
 intro pins s σ H x y v u Q I rx ry h;obtain⟨rfl,q⟩:=h;cases ry;refine is_none_gen (ZN I q ?_);cases x<;>first
 |(cases rx;rfl)
 |(obtain⟨t,rfl⟩:=rx;rfl)
theorem VD:OpR X (br .IsNot) (λx y H Q=>y=.non/\Q (.bl (!decide (x=.non))) H):=by
 intro pins s σ H x y v u Q I rx ry h;obtain⟨rfl,q⟩:=h;cases ry;refine isnot_none_gen (ZN I q ?_);cases x<;>first
 |(cases rx;rfl)
 |(obtain⟨t,rfl⟩:=rx;rfl)
theorem ZC(b:Expr){op:CmpOp}(h:op≠.In:=by decide)(h2:op≠.NotIn:=by decide):dz op b=false:=by
 have e1:(op==CmpOp.In)=false:=by cases op<;>first|rfl|exact absurd rfl h
 have e2:(op==CmpOp.NotIn)=false:=by cases op<;>first|rfl|exact absurd rfl h2
 cases b<;>simp[dz,e1,e2]
theorem YE{op:CmpOp}{r:R2}(ho:OpR X (br op) r)(ha:PE X a ta)(hb:PE X b tb)(hm:dz op b=false):PE X (.Compare a [op] [b] pos) (tOp r ta tb):=by intro pins s σ H Q I h;exact wpAny_Compare1 (binT ha hb I h λv u s2 x y H2 I2 rx ry q=>ho pins s2 σ H2 x y v u Q I2 rx ry q) hm
def EO(t:TE):TT:=λσ H Q=>t σ H λx H'=>∃k,x=.bl k/\Q k H'
theorem Zt{op:CmpOp}{r:R2}(ho:OpR X (br op) r)(ha:PE X a ta)(hb:PE X b tb)(hm:dz op b=false):PT X (.Compare a [op] [b] pos) (EO (tOp r ta tb)):=by
 intro pins s σ H Q I h;refine wpAny_isTrue_Compare1 (thn (ha pins s σ H _ I h) λv s1⟨x,H1,I1,r1,q1⟩=>thn (hb pins s1 σ H1 _ I1 q1) λu s2⟨y,H2,I2,r2,q2⟩=>thn (ho pins s2 σ H2 x y v u _ I2 r1 r2 q2) λc s3 hZ=>?_) hm;obtain⟨z,H3,I3,r3,k,e,q3⟩:=hZ;subst e;cases r3;exact bt ⟨H3,I3,q3⟩
def Kf(r r':R2)(ta tb tc:TE):TE:=λσ H Q=>ta σ H λx H1=>tb σ H1 λy H2=>r x y H2 λz H3=>∃k,z=.bl k /\(if k=true then tc σ H3 λw' H4=>r' y w' H4 Q else Q (.bl false) H3)
theorem Lm{op op':CmpOp}{r r':R2}(ho:OpR X (br op) r)(ho':OpR X (br op') r')(ha:PE X a ta)(hb:PE X b tb)(hc:PE X c tc)(hm:lastMarks [op,op'] [b,c]=false:=by with_unfolding_all rfl):PE X (.Compare a [op,op'] [b,c] pos) (Kf r r' ta tb tc):=by
 intro pins s σ H Q I h;refine Compare_chain (thn (ha pins s σ H _ I h) λv s1⟨x,H1,I1,r1,q1⟩=>chain_link (thn (hb pins s1 σ H1 _ I1 q1) λu s2⟨y,H2,I2,r2,q2⟩=>
  thn (ho pins s2 σ H2 x y v u _ I2 r1 r2 q2) λd s3⟨z,H3,I3,r3,k,e,q3⟩=>?_)) hm;subst e;cases r3;refine bt ?_;cases k with
|false=>exact ite_ff ⟨.bl false,H3,I3,rfl,q3⟩
|true=>exact ite_tt (chain_last (thn (hc pins s3 σ H3 _ I3 q3) λw' s4⟨z',H4,I4,r4,q4⟩=>ho' pins s4 σ H4 y z' u w' Q I4 r2 r4 q4))
theorem Lb{op op':CmpOp}{r r':R2}(ho:OpR X (br op) r)(ho':OpR X (br op') r')(ha:PE X a ta)(hb:PE X b tb)(hc:PE X c tc)(hm:lastMarks [op,op'] [b,c]=false:=by with_unfolding_all rfl):PT X (.Compare a [op,op'] [b,c] pos) (EO (Kf r r' ta tb tc)):=by
 intro pins s σ H Q I h;refine isTrue_chain (thn (ha pins s σ H _ I h) λv s1⟨x,H1,I1,r1,q1⟩=>test_link (thn (hb pins s1 σ H1 _ I1 q1) λu s2⟨y,H2,I2,r2,q2⟩=>
  thn (ho pins s2 σ H2 x y v u _ I2 r1 r2 q2) λd s3⟨z,H3,I3,r3,k,e,q3⟩=>?_)) hm;subst e;cases r3;refine bt ?_;cases k with
|false=>obtain⟨k',e',q'⟩:=q3;cases e';exact ite_ff ⟨H3,I3,q'⟩
|true=>refine ite_tt (test_last (thn (hc pins s3 σ H3 _ I3 q3) λw' s4⟨z',H4,I4,r4,q4⟩=>thn (ho' pins s4 σ H4 y z' u w' _ I4 r2 r4 q4) λd' s5⟨z2,H5,I5,r5,k2,e2,q5⟩=>?_));subst e2;cases r5;exact bt ⟨H5,I5,q5⟩
def TruV(K:aa)(x:V)(H:Hp)(k:Bool):Prop:=match x with
|.non=>k=false
|.bl b=>k=b
|.int i=>k=(i != 0)
|.str y=>y.length<=sizeLine/\k=((y.length:Int) != 0)
|.byt y=>y.size<=sizeLine/\k=((y.size:Int) != 0)
|.ref p=>(∃xs,SqL K H p xs/\k=!xs.isEmpty)\/(∃xs,SqT K H p xs/\k=!xs.isEmpty)\/∃kvs,H p=some (.dK kvs)/\k=!kvs.isEmpty
|_=>False
theorem RJ{κ:Type}{kvs:List (κ×V)}{vs:List (κ×Value)}(r:KV kvs vs):(!vs.isEmpty)=!kvs.isEmpty:=by cases r<;>rfl
theorem M5{xs:List V}{its:List Value}(r:Vals xs its):(!its.toArray.isEmpty)=!xs.isEmpty:=by cases r<;>simp
theorem JM:(sizeLine:Nat)<2 ^ 63:=by rw[fh];decide
theorem Fs:TruR X (λx H Q=>∃k,TruV X.K x H k/\Q k H):=by
 intro pins s σ H x v Q I rx h;obtain⟨k,e,q⟩:=h;have hl:=JM;have hs:sizeLine=16777216:=fh;cases x with
|non=>cases rx;have e':k=false:=e;subst e';exact truthy_none ⟨H,I,q⟩
|bl b=>cases rx;have e':k=b:=e;subst e';exact bt ⟨H,I,q⟩
|int i=>obtain⟨t,rfl⟩:=rx;have e':k=(i != 0):=e;subst e';exact PySem.P.truthy_int ⟨H,I,q⟩
|str y=>obtain⟨t,rfl⟩:=rx;obtain⟨hy,e'⟩:y.length<=sizeLine/\k=((y.length:Int) != 0):=e;subst e';exact PySem.P.truthy_str (by omega) ⟨H,I.tok _,q⟩
|byt y=>obtain⟨t,rfl⟩:=rx;obtain⟨hy,e'⟩:y.size<=sizeLine/\k=((y.size:Int) != 0):=e;subst e';exact PySem.W.truthy_bytes (by omega) ⟨H,I.tok _,q⟩
|ref p=>
  cases rx;have e':(∃xs,SqL X.K H p xs/\k=!xs.isEmpty)\/(∃xs,SqT X.K H p xs/\k=!xs.isEmpty)\/∃kvs,H p=some (.dK kvs)/\k=!kvs.isEmpty:=e;rcases e' with⟨xs,hx,e'⟩|⟨xs,hx,e'⟩|⟨kvs,hx,e'⟩
  ·subst e';obtain⟨its,r,pl,hz⟩:=I.list hx;have hlen:=r.length;exact wpAny_truthy_list pl.isList (by simp only[aq];omega) ⟨H,I.tok _,by rw[M5 r];exact q⟩
  ·subst e';obtain⟨its,r,pl,hz⟩:=I.tuple hx;have hlen:=r.length;exact truthy_tuple pl (by simp only[aq];omega) ⟨H,I.tok _,by rw[M5 r];exact q⟩
  ·subst e';obtain⟨hz,hS,vs,r,m⟩:kvs.length<=sizeLine/\(p==sysModules)=false/\∃vs,KV kvs vs/\s.heap.DictOf (ZH X.prog X.w) p vs:=I.hok p _ hx;have hlen:kvs.length=vs.length:=aK r;exact wpAny_truthy_dict hS m (by omega) ⟨H,I.tok _,by rw[RJ r];exact q⟩
|_=>exact(show False from e).elim
theorem JK:OpR X (et .Add) (λx y H Q=>∃i j,x=.str i/\y=.str j/\i.length+j.length<=sizeLine/\Q (.str (i++j)) H):=by intro pins s σ H x y v u Q I rx ry h;obtain⟨i,j,rfl,rfl,hz,q⟩:=h;obtain⟨t,rfl⟩:=rx;obtain⟨t',rfl⟩:=ry;exact add_str (λt' tk=>⟨.str (i++j),H,I.tok _,⟨_,rfl⟩,q⟩) hz
theorem vals1{x:V}{us:List Value}(r:Vals [x] us):∃u,us=[u]/\RelV x u:=by
 cases r with
|cons r1 r2=>cases r2;exact⟨_,rfl,r1⟩
theorem vals2{x y:V}{us:List Value}(r:Vals [x,y] us):∃u w',us=[u,w']/\RelV x u/\RelV y w':=by
 cases r with
|cons r1 r2=>
  cases r2 with
 |cons r3 r4=>cases r4;exact⟨_,_,rfl,r1,r3⟩
theorem GX(hc:X.calm=true):YI X (.builtin "max") (λxs H Q=>∃i j,xs=[.int i,.int j]/\Q (.int (if j>i then j else i)) H):=by
 intro pins s σ H xs us Q I r h;obtain⟨i,j,rfl,q⟩:=h;obtain⟨u,w',rfl,⟨t,rfl⟩,⟨t',rfl⟩⟩:=vals2 r;refine max_two_ints (I.ok.hd hc) λh' tk k=>⟨_,H,I.kept k,?_,q⟩;by_cases hj:j>i
 ·rw[if_pos hj,if_pos hj];exact⟨_,rfl⟩
 ·rw[if_neg hj,if_neg hj];exact⟨_,rfl⟩
theorem NZ(hc:X.calm=true):YI X (.builtin "min") (λxs H Q=>∃i j,xs=[.int i,.int j]/\Q (.int (if j<i then j else i)) H):=by
 intro pins s σ H xs us Q I r h;obtain⟨i,j,rfl,q⟩:=h;obtain⟨u,w',rfl,⟨t,rfl⟩,⟨t',rfl⟩⟩:=vals2 r;refine min_two_ints (I.ok.hd hc) λh' tk k=>⟨_,H,I.kept k,?_,q⟩;by_cases hj:j<i
 ·rw[if_pos hj,if_pos hj];exact⟨_,rfl⟩
 ·rw[if_neg hj,if_neg hj];exact⟨_,rfl⟩
theorem N3:YI X (.type "int") (λxs H Q=>(∃i,xs=[.int i]/\Q (.int i) H)\/∃k,xs=[.bl k]/\Q (.int (if k then 1 else 0)) H):=by
 intro pins s σ H xs us Q I r h;rcases h with⟨i,rfl,q⟩|⟨k,rfl,q⟩
 ·obtain⟨u,rfl,t,rfl⟩:=vals1 r;exact call_int_int ⟨.int i,H,I,⟨_,rfl⟩,q⟩
 ·obtain⟨u,rfl,r1⟩:=vals1 r;cases r1;exact call_int_bool ⟨.int (if k then 1 else 0),H,I.tok _,⟨_,rfl⟩,q⟩
def LenV(K:aa)(x:V)(H:Hp)(n:Nat):Prop:=match x with
|.str y=>y.length<=sizeLine/\n=y.length
|.byt y=>y.size<=sizeLine/\n=y.size
|.ref p=>(∃xs,SqL K H p xs/\n=xs.length)\/∃xs,SqT K H p xs/\n=xs.length
|_=>False
theorem Dq:YI X (.builtin "len") (λxs H Q=>∃x n,xs=[x]/\LenV X.K x H n/\Q (.int n) H):=by
 intro pins s σ H xs us Q I r h;obtain⟨x,n,rfl,e,q⟩:=h;obtain⟨u,rfl,rx⟩:=vals1 r;have hl:=JM;have hs:sizeLine=16777216:=fh;cases x with
|str y=>obtain⟨t,rfl⟩:=rx;obtain⟨hy,e'⟩:y.length<=sizeLine/\n=y.length:=e;subst e';exact len_str (by omega) ⟨.int _,H,I.tok _,⟨_,rfl⟩,q⟩
|byt y=>obtain⟨t,rfl⟩:=rx;obtain⟨hy,e'⟩:y.size<=sizeLine/\n=y.size:=e;subst e';exact PySem.W.len_bytes (by omega) ⟨.int _,H,I.tok _,⟨_,rfl⟩,q⟩
|ref p=>
  cases rx;have e':(∃xs,SqL X.K H p xs/\n=xs.length)\/∃xs,SqT X.K H p xs/\n=xs.length:=e;rcases e' with⟨xs,hx,e'⟩|⟨xs,hx,e'⟩
  ·subst e';obtain⟨its,r',pl,hz⟩:=I.list hx;have hlen:=r'.length;exact Calls.call_len_list pl.isList (by simp only[aq];omega) ⟨.int xs.length,H,I.tok _,⟨_,by simp only[aq];rw[hlen]⟩,q⟩
  ·subst e';obtain⟨its,r',pl,hz⟩:=I.tuple hx;have hlen:=r'.length;exact len_tuple pl (by simp only[aq];omega) ⟨.int xs.length,H,I.tok _,⟨_,by simp only[aq];rw[hlen]⟩,q⟩
|_=>exact(show False from e).elim
end
open PySem PySem.Spec PyProof.Rows
structure ObjM(h:Heap)(x dx C:Addr)(mA:Str->Option Value):Prop where
 obj:h.get? x=some (cy C dx)
 ns:h.Ns1 dx mA
 ne:dx≠x
theorem NM{h:Heap}{dx:Addr}{mA:Str->Option Value}(n:h.Ns1 dx mA):∃od,h.get? dx=some od/\∀name,f6 name od=some (mA name):=by
 obtain⟨o,es,ep,ho,hd,hk,_,hm⟩:=n;refine⟨o,ho,λname=>?_⟩;have e:=hm name;unfold nsFind findBy at e;rw[<-Array.find?_toList]at e;unfold f6;rw[hd];dsimp only;split
 ·rename_i y q;rw[q]at e;exact congrArg some e
 ·rename_i q;rw[q]at e;have a:es.toList.any (·.refKey)=false:=by rw[ik];intro y hy;obtain⟨z,t,hkey⟩:=hk y (gi.mp hy);simp[DictEntry.refKey,hkey]
  have a':¬es.toList.any (·.refKey)=true:=by rw[a];exact Bool.false_ne_true
  rw[if_neg a'];exact congrArg some e
theorem ObjM.look{h:Heap}{x dx C:Addr}{mA:Str->Option Value}(I:ObjM h x dx C mA):∃od,iI h x (cy C dx) C (some od)/\∀name,f6 name od=some (mA name):=let ⟨od,ho,hl⟩:=NM I.ns
 ⟨od,⟨I.obj,rfl,rfl,ho⟩,hl⟩
section
variable {prog:Program}{w:World}{A:a9}{E:Value->ag->Prop}{s:ag}{K:aa}{x dx C f:Addr}{mA:Str->Option Value}{name:Str}{v:Value}
theorem get_map{expr:Bool}{Q:Value->ag->Prop}(X:K.In s.heap)(I:ObjM s.heap x dx C mA)(hg:dv K C name=true)(hh:cA K C=true)(ha:az K (.ref C) name=some none)(hv:mA name=some v)(hv':h_ v=true)(h:Q v {s with toks:=s.toks+1}):wpAny (model prog w) A (getAttr (.ref x) name expr) Q E s:=by obtain⟨od,J,hl⟩:=I.look;exact PySem.W.get_value X J (gh hg).1 (PySem.W.findObj_own hh ha rfl (by rw[hl,hv])) hv' h
theorem LQ{pl:Sem Bool}{Q:Value×List Value->ag->Prop}(X:K.In s.heap)(I:ObjM s.heap x dx C mA)(hg:dv K C name=true)(hf:az K (.ref C) name=some (some (.ref f)))(ht:eO K (.ref f)=true)(hv:mA name=none)(h:Q (.ref f,[.ref x]) s):wpAny (model prog w) A (fJ (.ref x) name pl) Q E s:=by obtain⟨od,J,hl⟩:=I.look;exact PySem.W.method_fn X J (gh hg).1 (gh hg).2 hf (beq_iff_eq.mp ht) (by show(f6 name od).map (·.isSome)=some false;rw[hl,hv];rfl) h
theorem DR{ns:List Str}{Q:Unit->ag->Prop}(X:K.In s.heap)(I:ObjM s.heap x dx C mA)(hs:az K (.ref C) "__setattr__"=some (some (.builtin "object.__setattr__")))(hp:ft K C=true)(ht:ir K C name=some none)(hh:cA K C=true)(hw:dB mA ns)(hsz:ns.length<=sizeLine)(h:∀h',ObjM h' x dx C (λy=>if y=name then some v else mA y)->Heap.SameBut dx s.heap h'->Q () {s with heap:=h',toks:=s.toks+2}):wpAny (model prog w) A (setAttr (.ref x) name v) Q E s:=by obtain⟨od,J,hl⟩:=I.look;refine PySem.W.set_plain X J hs (PySem.W.osa_open (s:={s with toks:=s.toks+1}) (r:=none) X J hp ht λb=>?_);obtain⟨cd,hc,hd'⟩:=PySem.W.any_some hh;have hx:s.heap.get? x=some ⟨.ref C,some dx,.plain,#[]⟩:=I.obj;refine ae (ai (ae (ae (wpAny_loadPart hx (ae (PySem.W.Looks.here (s:={s with toks:=s.toks+1}) (PySem.W.looks_clsIn X hc) ?_))))));rw[hd'];refine ai (a:=some dx) (ae (ai (ae ?_)));refine wpAny_nsSet1 (s:={s with toks:=s.toks+1}) I.ns λh' hn2 hs2=>?_;obtain⟨oD,esD,epD,hoD,hdD,hcD⟩:=hn2.count (PySem.Within.cons name v hw);refine ae (wpAny_lookBehind hoD (by rw[hdD];exact pastItsLine_dict (Nat.le_trans hcD (by rw[aR];omega))) ?_);exact ai (h _ ⟨(hs2.2 _ (bo I.ne)).trans I.obj,hn2,I.ne⟩ hs2)
theorem LB{R:Result->ag->Prop}{vs:List Value}{kw:List (Str×Value)}(X:K.In s.heap)(hm:fN K C=true)(hi:az K (.ref C) "__init__"=some (some (.ref f)))(hf:PySem.W.typeIn K (.ref f)=some (.type "function"))(h:gy (model prog w) (A.under (.builtin "type.__call__" ⟨.ref C::vs,kw⟩)) (.call (.ref f) ⟨.ref (s.heap.objs.size+1)::vs,kw⟩) (PySem.W.InitBack (s.heap.objs.size+1) R) {s with heap:=(s.heap.push bS).push (cy C s.heap.objs.size)}):gy (model prog w) A (.call (.ref C) ⟨vs,kw⟩) R s:=by obtain⟨hh,g,d,t,os⟩:=s;exact PySem.W.make_core (PySem.W.makes_of X hm) (ej X hi) (λself=>PySem.W.bind_fn X self hf) (.inl rfl) h
end
noncomputable def putF(f:Str)(v:V):List (Str×V)->List (Str×V)
|[]=>[(f,v)]
|(g,x)::r=>if g=f then(g,v)::r else(g,x)::putF f v r
theorem Ye(f g:Str)(v:V):∀fs:List (Str×V),(putF f v fs).lookup g=if g=f then some v else fs.lookup g
|[]=>by
  show eM g [(f,v)]=_;by_cases h:g=f
  ·have hb:(g==f)=true:=beq_iff_eq.mpr h;simp only[eM,hb,if_pos h]
  ·have hb:(g==f)=false:=beq_eq_false_iff_ne.mpr h;simp only[eM,hb,if_neg h]
|(k,x)::r=>by
  have ih:=Ye f g v r;rw[show putF f v ((k,x)::r)=(if k=f then(k,v)::r else(k,x)::putF f v r)from rfl];by_cases hk:k=f
  ·rw[if_pos hk];by_cases h:g=k
   ·have hb:(g==k)=true:=beq_iff_eq.mpr h;simp only[eM,hb,if_pos (h.trans hk)]
   ·have hb:(g==k)=false:=beq_eq_false_iff_ne.mpr h;simp only[eM,hb,if_neg (λe:g=f=>h (e.trans hk.symm))]
  ·rw[if_neg hk];by_cases h:g=k
   ·have hb:(g==k)=true:=beq_iff_eq.mpr h;simp only[eM,hb,if_neg (λe:g=f=>hk (h.symm.trans e))]
   ·have hb:(g==k)=false:=beq_eq_false_iff_ne.mpr h;simp only[eM,hb];exact ih
theorem Jp(f:Str)(v:V):∀fs:List (Str×V),f∈(putF f v fs).map (·.1)/\∀g,g∈fs.map (·.1)->g∈(putF f v fs).map (·.1)
|[]=>⟨by simp[putF],λg h=>by simp at h⟩
|(k,x)::r=>by
  obtain⟨i1,i2⟩:=Jp f v r;rw[show putF f v ((k,x)::r)=(if k=f then(k,v)::r else(k,x)::putF f v r)from rfl];by_cases hk:k=f
  ·rw[if_pos hk];subst hk;exact⟨by simp,λg h=>by simpa using h⟩
  ·rw[if_neg hk];refine⟨?_,λg h=>?_⟩
   ·rw[ar];exact av _ i1
   ·rw[ar]at h ⊢;rcases ao.mp h with e|e
    ·exact ao.mpr (.inl e)
    ·exact av _ (i2 g e)
theorem YR(f:Str)(v:V):∀fs:List (Str×V),(putF f v fs).length<=fs.length+1
|[]=>by simp[putF]
|(k,x)::r=>by
  have ih:=YR f v r;rw[show putF f v ((k,x)::r)=(if k=f then(k,v)::r else(k,x)::putF f v r)from rfl];by_cases hk:k=f
  ·rw[if_pos hk,aR,aR];omega
  ·rw[if_neg hk,aR,aR];omega
theorem RelO.some_of{v:V}{o:Option Value}(r:RelO (some v) o):∃u,o=some u/\RelV v u:=by
 cases o with
|none=>exact(show False from r).elim
|some u=>exact⟨u,rfl,r⟩
theorem RelO.none_of{o:Option Value}(r:RelO none o):o=none:=by
 cases o with
|none=>rfl
|some u=>exact(show False from r).elim
theorem NO{v:V}{u:Value}(r:RelV v u):h_ u=true:=by
 cases v with
|non=>cases(show u=Value.none from r);rfl
|bl b=>cases(show u=Value.bool b from r);rfl
|int i=>obtain⟨t,e⟩:=(show ∃t,u=Value.int i t from r);cases e;rfl
|str x=>obtain⟨t,e⟩:=(show ∃t,u=Value.str x t from r);cases e;rfl
|byt b=>obtain⟨t,e⟩:=(show ∃t,u=Value.bytes b t from r);cases e;rfl
|flt b=>obtain⟨t,e⟩:=(show ∃t,u=Value.float b t from r);cases e;rfl
|ref a=>cases(show u=Value.ref a from r);rfl
|ty n=>cases(show u=Value.type n from r);rfl
section
variable {P:Program}{w:World}{H H':Hp}{h h':Heap}{a C dx:Addr}{fs fs':List (Str×V)}
theorem Ms(hok:HOk P w H h)(e:H a=some (.ins C dx fs)):∃mA,ObjM h a dx C mA/\(∀f,RelO (fs.lookup f) (mA f))/\dB mA (fs.map (·.1))/\fs.length<=1000/\H dx=some (.own a):=by obtain⟨d,z,ne,ob,mA,n,r,q⟩:=(show ZR P w H h a (.ins C dx fs)from hok a _ e);exact⟨mA,⟨ob,n,ne⟩,r,q,z,d⟩
end
structure Cls(K:aa)(C:Addr):Prop where
 pg:dv K C Str.empty=true
 hd:cA K C=true
 po:ft K C=true
 sa:az K (.ref C) "__setattr__"=some (some (.builtin "object.__setattr__"))
theorem Cls.get{K:aa}{C:Addr}(c:Cls K C)(f:Str):dv K C f=true:=c.pg
def Xk(K:aa)(C:Addr)(f:Str):Prop:=az K (.ref C) f=some none
theorem Xk.taker{K:aa}{C:Addr}{f:Str}(n:Xk K C f):ir K C f=some none:=by unfold ir;rw[show az K (.ref C) f=some none from n];rfl
structure Meth(K:aa)(C:Addr)(m:Str)(f:Addr):Prop where
 at_:az K (.ref C) m=some (some (.ref f))
 fn:eO K (.ref f)=true
 kp:aZ K (.ref f)=true
section
variable {X:Cx}{pins:List (Addr×Obj)}{σ:St}{H:Hp}{s:ag}{a C dx:Addr}{fs:List (Str×V)}{f:Str}{v:V}{A:a9}{E:Value->ag->Prop}
theorem RN{b:Bool}{Q:Value->ag->Prop}(I:Inv X pins σ H s)(e:H a=some (.ins C dx fs))(c:Cls X.K C)(n:Xk X.K C f)(l:fs.lookup f=some v)(h:∀u s',Inv X pins σ H s'->RelV v u->Q u s'):wpAny (model X.prog X.w) A (getAttr (.ref a) f b) Q E s:=by obtain⟨mA,O,r,_,_,_⟩:=Ms I.hok e;obtain⟨u,hu,ru⟩:=RelO.some_of (v:=v) (o:=mA f) (by rw[<-l];exact r f);exact get_map I.kIn O (c.get f) c.hd n hu (NO ru) (h u _ (I.tok _) ru)
theorem Ub{m:Str}{g:Addr}{pl:Sem Bool}{Q:Value×List Value->ag->Prop}(I:Inv X pins σ H s)(e:H a=some (.ins C dx fs))(c:Cls X.K C)(k:Meth X.K C m g)(l:fs.lookup m=none)(h:Q (.ref g,[.ref a]) s):wpAny (model X.prog X.w) A (fJ (.ref a) m pl) Q E s:=by obtain⟨mA,O,r,_,_,_⟩:=Ms I.hok e;have hn:mA m=none:=RelO.none_of (by rw[<-l];exact r m);exact LQ I.kIn O (c.get m) k.at_ k.fn hn h
theorem Rk{y:V}{u:Value}{Q:Unit->ag->Prop}(I:Inv X pins σ H s)(e:H a=some (.ins C dx fs))(c:Cls X.K C)(n:Xk X.K C f)(hl:fs.length<1000)(ry:RelV y u)(h:∀s',Inv X pins σ (upd H a (.ins C dx (putF f y fs))) s'->Q () s'):wpAny (model X.prog X.w) A (setAttr (.ref a) f u) Q E s:=by
 obtain⟨mA,O,r,wi,_,ho⟩:=Ms I.hok e;have hz:(fs.map (·.1)).length<=sizeLine:=by rw[bq,fh];omega
 refine DR I.kIn O c.sa c.po n.taker c.hd wi hz λh' O' sb=>h _ ?_;have hd:∃o,h'.get? dx=some o:=let ⟨o,_,_,e',_⟩:=O'.ns;⟨o,e'⟩
 refine I.write (x:=a) (e:=dx) (by rw[e];exact bG) (.inr ho) (λb q hb z=>(sb.2 b hb).trans z) hd ?_;refine⟨by rw[Zg O.ne];exact ho,?_,O.ne,O'.obj,_,O'.ns,λg=>?_,λg hg=>?_⟩
 ·have:=YR f y fs;omega
 ·show RelO ((putF f y fs).lookup g) (if g=f then some u else mA g);rw[Ye];by_cases q:g=f
  ·rw[if_pos q,if_pos q];exact ry
  ·rw[if_neg q,if_neg q];exact r g
 ·by_cases q:g=f
  ·rw[q];exact(Jp f y fs).1
  ·refine(Jp f y fs).2 g (wi g λz=>hg ?_);show(if g=f then some u else mA g)=none;rw[if_neg q];exact z
theorem Inv.made(I:Inv X pins σ H s):Inv X pins σ (upd (upd H s.heap.objs.size (.own (s.heap.objs.size+1))) (s.heap.objs.size+1) (.ins C s.heap.objs.size [])) {s with heap:=(s.heap.push bS).push (cy C s.heap.objs.size)}:=by
 have e1:(s.heap.push bS).get? s.heap.objs.size=some bS:=Heap.get?_push_size s.heap rfl;have e2:((s.heap.push bS).push (cy C s.heap.objs.size)).get? (s.heap.objs.size+1)=some (cy C s.heap.objs.size):=by have:=Heap.get?_push_size (s.heap.push bS) (o:=cy C s.heap.objs.size) rfl;rwa [Heap.size_push]at this
 have e3:(s.heap.push bS).Ns s.heap.objs.size (λ_=>none):=⟨bS,#[],_,e1,rfl,(λe he=>absurd he (by simp)),λ_=>rfl⟩;have I1:=I.laid (a:=s.heap.objs.size) (o:=.own (s.heap.objs.size+1)) (h':=s.heap.push bS) (t':=s.toks) (λb u q=>Heap.get?_push_of_some _ q) (Nat.le_refl _) ⟨_,e1⟩;refine I1.laid (a:=s.heap.objs.size+1) (o:=.ins C s.heap.objs.size []) (t':=s.toks) (λb u q=>Heap.get?_push_of_some _ q) (Nat.le_of_eq (Heap.size_push _ _)) ?_;have ne:s.heap.objs.size≠s.heap.objs.size+1:=Nat.ne_of_lt (Nat.lt_succ_self _);refine⟨by rw[Zg ne,Zf],Nat.zero_le _,ne,e2,λ_=>none,(Heap.Ns1.of_empty e3).at λo q=>Heap.get?_push_of_some _ q,λ_=>bG,λy hy=>absurd rfl hy⟩
theorem TJ{prog:Program}{w:World}{env:Env}{e:Expr}{f:Str}{pos:Pos}{s:ag}{Q:Value->ag->Prop}(hb:fe e f env (eval e env)=eval e env)(h:wpAny (model prog w) A (eval e env) (λo s₁=>wpAny (model prog w) A (getAttr o f true) Q E s₁) E s):wpAny (model prog w) A (eval (.Attribute e f pos) env) Q E s:=Attribute_any_ h (by rw[arm_eval_Attribute,hb])
end
def tFld(K:aa)(ta:TE)(f:Str):TE:=λσ H Q=>ta σ H λx H1=>∃a C dx fs v,x=.ref a/\H1 a=some (.ins C dx fs)/\Cls K C/\Xk K C f/\fs.lookup f=some v/\Q v H1
def sFld(K:aa)(ta tv:TE)(f:Str):TS:=λD σ H=>tv σ H λy H1=>ta σ H1 λx H2=>∃a C dx fs,x=.ref a/\H2 a=some (.ins C dx fs)/\Cls K C/\Xk K C f/\fs.length<1000 /\D.nx σ (upd H2 a (.ins C dx (putF f y fs)))
section
variable {X:Cx}{o e value:Expr}{f:Str}{pos pos' tpos:Pos}{ta tv:TE}
theorem ZZ(he:PE X e ta)(hb:fe e f X.env (eval e X.env)=eval e X.env):PE X (.Attribute e f pos) (tFld X.K ta f):=by intro pins s σ H Q I h;refine TJ hb (thn (he pins s σ H _ I h) λu s1 hZ=>?_);obtain⟨x,H1,I1,rx,a,C,dx,fs,v,ex,ea,c,n,l,q⟩:=hZ;subst ex;obtain rfl:u=Value.ref a:=rx;exact RN I1 ea c n l λu' s2 I2 ru=>⟨v,H1,I2,ru,q⟩
theorem YW(ha:PE X o ta)(hv:PE X value tv)(hs:fH value (some (.Attribute o f pos')) pos.line X.env=pure false):PS X (.Assign [.Attribute o f pos'] value pos) (sFld X.K ta tv f):=by intro pins s σ H D I h;refine plainObj_wpAny_Assign_Attribute (thn (hv pins s σ H _ I h) λu s1⟨y,H1,I1,ry,q⟩=>thn (ha pins s1 σ H1 _ I1 q) λov s2 hZ=>?_) hs;obtain⟨x,H2,I2,rx,a,C,dx,fs,ex,ea,c,n,l,q2⟩:=hZ;subst ex;obtain rfl:ov=Value.ref a:=rx;exact Rk I2 ea c n l ry λs3 I3=>⟨σ,_,I3,q2⟩
theorem E8{pl:Sem Bool}{m:Str}{apos:Pos}{args:List Expr}{pins:List (Addr×Obj)}{s:ag}{σ:St}{H:Hp}{Q:Value->ag->Prop}{te:TE}(he:PE X e te)(I:Inv X pins σ H s)
  (h:te σ H λx H1=>∃a C dx fs g,x=.ref a/\H1 a=some (.ins C dx fs)/\Cls X.K C/\Meth X.K C m g/\fs.lookup m=none /\
   ∀s1,Inv X pins σ H1 s1->wpAny (model X.prog X.w) X.A (g9 pos (.ref g) [.ref a] (b8 pos (aI args X.env)) (fg pos (da [] X.env))) Q X.xe s1)
  (ht:eval (.Call (.Attribute e m apos) args [] pos) X.env=(do
   let ov <-eval e X.env
   ib apos.atName
   let (f,first) <-eV [ov] (fJ ov m pl)
   g9 pos f first (b8 pos (aI args X.env)) (fg pos (da [] X.env)))):
  wpAny (model X.prog X.w) X.A (eval (.Call (.Attribute e m apos) args [] pos) X.env) Q X.xe s:=by
 refine d8 (pl:=pl) (thn (he pins s σ H _ I h) λu s1 hZ=>?_) ht;obtain⟨x,H1,I1,rx,a,C,dx,fs,g,ex,ea,c,k,l,q⟩:=hZ
 subst ex
 obtain rfl:u=Value.ref a:=rx
 exact Ub I1 ea c k l (q s1 I1)
end
section
variable {X:Cx}{pins:List (Addr×Obj)}{σ:St}{H:Hp}{s:ag}{A:a9}{E:Value->ag->Prop}{Q:Value->ag->Prop}{c:Value}{b:Bool}
inductive TyOf(K:aa)(H:Hp):V->Value->Prop where
|non:TyOf K H .non (.type "NoneType")
|bl (x:Bool):TyOf K H (.bl x) (.type "bool")
|int (i:Int):TyOf K H (.int i) (.type "int")
|str (x:Str):TyOf K H (.str x) (.type "str")
|flt (x:UInt64):TyOf K H (.flt x) (.type "float")
|lst {a:Addr}{xs:List V} (e:H a=some (.lst xs)):TyOf K H (.ref a) (.type "list")
|frz {a:Addr}{o:Obj}{xs:List V} (e:H a=some (.frz o (.lst xs))):TyOf K H (.ref a) (.type "list")
|tup {a:Addr}{xs:List V} (e:H a=some (.tup xs)):TyOf K H (.ref a) (.type "tuple")
|dK {a:Addr}{kvs:List (Key×V)} (e:H a=some (.dK kvs)):TyOf K H (.ref a) (.type "dict")
|dT {a:Addr}{kvs:List (List Key×V)} (e:H a=some (.dT kvs)):TyOf K H (.ref a) (.type "dict")
|ins {a C dx:Addr}{fs:List (Str×V)} (e:H a=some (.ins C dx fs)) (cl:Cls K C) (ha:az K (.ref C) "__class__"=some (some (.builtin "object.__class__")))
   (hn:gR K (.builtin "object.__class__") "__get__"=some (some (.builtin "getset_descriptor.__get__"))) (htk:PySem.W.takesIn K (.builtin "object.__class__")=some true)
   (hm:fv K C (.type "object")=some true):TyOf K H (.ref a) (.ref C)
theorem Wo{x:V}{u t:Value}(I:Inv X pins σ H s)(rx:RelV x u)(ty:TyOf X.K H x t)(e:aH X.K t c=some b)(h:∀tk,Q (.bool b) {s with toks:=tk}):wpAny (model X.prog X.w) A (call (.builtin "isinstance") [u,c]) Q E s:=by
 cases ty with
|non=>cases(show u=Value.none from rx);exact bN PySem.W.kitx_none I.kIn bG e (λz=>nomatch z) h
|bl y=>cases(show u=Value.bool y from rx);exact bN PySem.W.kitx_bool I.kIn bG e (λz=>nomatch z) h
|int i=>obtain⟨t,q⟩:=(show ∃t,u=Value.int i t from rx);cases q;exact bN PySem.W.kitx_int I.kIn bG e (λz=>nomatch z) h
|str y=>obtain⟨t,q⟩:=(show ∃t,u=Value.str y t from rx);cases q;exact bN PySem.W.kitx_str I.kIn bG e (λz=>nomatch z) h
|flt y=>obtain⟨t,q⟩:=(show ∃t,u=Value.float y t from rx);cases q;exact bN PySem.W.kitx_float I.kIn bG e (λz=>nomatch z) h
|@lst a xs ea=>cases(show u=Value.ref a from rx);obtain⟨_,_,n,_,h1⟩:=(show ZR X.prog X.w H s.heap a (.lst xs)from I.hok a _ ea);exact bN gT I.kIn ⟨_,h1,rfl⟩ e (λz=>nomatch z) h
|@frz a ob xs ea=>cases(show u=Value.ref a from rx);obtain⟨_,_,_,n,_,h1⟩:=(show ZR X.prog X.w H s.heap a (.frz ob (.lst xs))from I.hok a _ ea);exact bN gT I.kIn ⟨_,h1,rfl⟩ e (λz=>nomatch z) h
|@tup a xs ea=>cases(show u=Value.ref a from rx);obtain⟨_,_,_,p⟩:=(show ZR X.prog X.w H s.heap a (.tup xs)from I.hok a _ ea);obtain⟨o,h1,h2,_⟩:=p;exact bN PySem.W.kitx_tuple I.kIn ⟨o,h1,h2⟩ e (λz=>nomatch z) h
|@dK a kvs ea=>cases(show u=Value.ref a from rx);obtain⟨_,_,vs,_,p⟩:=(show ZR X.prog X.w H s.heap a (.dK kvs)from I.hok a _ ea);obtain⟨o,es,ep,h1,h2,_⟩:=p;exact bN gU I.kIn ⟨o,h1,h2.1⟩ e (λz=>nomatch z) h
|@dT a kvs ea=>cases(show u=Value.ref a from rx);obtain⟨_,_,xs,_,o,es,ep,h1,h2,_⟩:=(show ZR X.prog X.w H s.heap a (.dT kvs)from I.hok a _ ea);exact bN gU I.kIn ⟨o,h1,h2.1⟩ e (λz=>nomatch z) h
|@ins a C dx fs ea cl ha hn htk hm=>cases(show u=Value.ref a from rx);obtain⟨mA,O,_⟩:=Ms I.hok ea;obtain⟨od,J,_⟩:=O.look;exact bN (PySem.W.kitx_own (cl.get _) cl.hd ha hn htk hm) I.kIn J e (λz=>nomatch z) h
end
open PySem PySem.Spec PyProof.Rows
structure Room(k:Nat)(A:a9):Prop where
 hd:A.handled=none
 dp:A.depth+3*k+5<recursionLimit
 un:A.units+16*k+200<cLine
 gd:A.guards=some []
theorem Room.mono{j k:Nat}{A:a9}(r:Room k A)(h:j<=k):Room j A:=⟨r.hd,by have:=r.dp;omega,by have:=r.un;omega,r.gd⟩
theorem Room.deeper{k:Nat}{A:a9}(r:Room (k+1) A)(env:Env):Room k (A.deeper env):=⟨r.hd,by have:=r.dp;show A.depth+1+3*k+5<_;omega,by have:=r.un;show A.units+3+16*k+200<_;omega,r.gd⟩
theorem RC{A:a9}{C:Addr}{us:List Value}{kw:List (Str×Value)}:(A.under (.builtin "type.__call__" ⟨.ref C::us,kw⟩)).depth=A.depth+1:=by first|rfl|simp[gV,Code.weight,Code.isCreation,Code.isGuard,Code.isCaller,Code.frames,Code.isFrame,guardIds]
theorem RB{A:a9}{C:Addr}{us:List Value}{kw:List (Str×Value)}:(A.under (.builtin "type.__call__" ⟨.ref C::us,kw⟩)).units=A.units+1:=by first|rfl|simp[gV,Code.cUnits,Code.frames,Code.isFrame]
theorem QA{A:a9}{C:Addr}{us:List Value}{kw:List (Str×Value)}:(A.under (.builtin "type.__call__" ⟨.ref C::us,kw⟩)).guards=A.guards:=by first|rfl|simp[gV,Code.guards,Code.isGuard,pushGuards,guardIds]
theorem Room.make{k:Nat}{A:a9}(r:Room (k+1) A)(C:Addr)(us:List Value)(kw:List (Str×Value)):Room k (A.under (.builtin "type.__call__" ⟨.ref C::us,kw⟩)):=⟨r.hd,by have:=r.dp;rw[RC];omega,by have:=r.un;rw[RB];omega,by rw[QA];exact r.gd⟩
theorem Room.depth{k:Nat}{A:a9}(r:Room k A):A.depth<recursionLimit:=by have:=r.dp;omega
theorem Room.units{k:Nat}{A:a9}(r:Room k A):A.units+64<cLine:=by have:=r.un;omega
def tNil:TA:=λ_ H Q=>Q [] H
def Yo(ta:TE)(tr:TA):TA:=λσ H Q=>ta σ H λx H1=>tr σ H1 λxs H2=>Q (x::xs) H2
section
variable {X:Cx}{e:Expr}{es:List Expr}{te:TE}{t:TA}{pos:Pos}
theorem Zk:PA X [] tNil:=λ_ _ _ _ H Q I h=>Calls.spliced_nil ⟨[],H,I,.nil,h⟩
theorem Zh(ha:PE X e te)(hr:PA X es t)(hs:aI (e::es) X.env=(false,eval e X.env)::aI es X.env:=by rfl):PA X (e::es) (Yo te t):=by intro pos pins s σ H Q I h;rw[hs];show wpAny _ _ (spliced ((false,eval e X.env)::b8 pos (aI es X.env))) _ _ s;refine Calls.spliced_cons (thn (ha pins s σ H _ I h) λu s1 hZ=>?_);obtain⟨x,H1,I1,r1,q1⟩:=hZ;exact thn (hr pos pins s1 σ H1 _ I1 q1) λus s2⟨xs,H2,I2,r2,q2⟩=>⟨x::xs,H2,I2,.cons r1 r2,q2⟩
def tTup(t:TA):TE:=λσ H Q=>t σ H λxs H1=>xs.length<=sizeLine/\∀p,H1 p=none->Q (.ref p) (upd H1 p (.tup xs))
def tLst(t:TA):TE:=λσ H Q=>t σ H λxs H1=>xs.length<=sizeLine/\∀p,H1 p=none->Q (.ref p) (upd H1 p (.lst xs))
theorem Zu{x1}(h:PA X es t):PE X (.Tuple es x1 pos) (tTup t):=by intro pins s σ H Q I hq;refine wpAny_Tuple_spliced (thn (h pos pins s σ H _ I hq) λus s1⟨xs,H1,I1,r,z,q⟩=>⟨by rw[<-r.length];exact z,?_⟩);have hf:H1 s1.heap.objs.size=none:=I1.hok.fresh (Nat.le_refl _);refine⟨.ref s1.heap.objs.size,upd H1 s1.heap.objs.size (.tup xs),I1.laid (t':=s1.toks) (λb u e=>Heap.get?_push_of_some _ e) (Nat.le_refl _) ?_,rfl,q _ hf⟩;exact⟨z,us,r,⟨_,Heap.get?_push_size _ rfl,rfl,_,rfl⟩⟩
theorem Zy(h:PA X es t):PE X (.List es pos) (tLst t):=by intro pins s σ H Q I hq;refine wpAny_List_spliced (thn (h pos pins s σ H _ I hq) λus s1⟨xs,H1,I1,r,z,q⟩=>⟨by rw[<-r.length];exact z,?_⟩);have hf:H1 s1.heap.objs.size=none:=I1.hok.fresh (Nat.le_refl _);refine⟨.ref s1.heap.objs.size,upd H1 s1.heap.objs.size (.lst xs),I1.laid (t':=s1.toks) (λb u e=>Heap.get?_push_of_some _ e) (Nat.le_refl _) ?_,rfl,q _ hf⟩;exact⟨z,us,0,r,Heap.get?_push_size _ rfl⟩
end
noncomputable abbrev Sp:=List V->Hp->VK->XK->Prop
noncomputable abbrev CXT:=List Env->Hp->ag->XK->Value->ag->Prop
structure Env0(P:Program)(w:World)(K:aa)(mg:Str->Option Value)(base:Heap)(A:a9)(outer:List Env)(s:ag)(H:Hp):Prop where
 frames:A.frames=some outer
 mod:Mod K mg base
 bs:∀b o,base.get? b=some o->s.heap.get? b=some o/\H b=none
 bsz:base.objs.size<=s.heap.objs.size
 funs:s.heap.FunFrames base outer
 frf:∀b∈frs outer,H b=none
 hok:HOk P w H s.heap
 bare:fE s.gens
def CE(outer:List Env)(P:Program)(w:World)(H:Hp)(s:ag)(Q:VK)(u:Value)(s':ag):Prop:=∃v H',s'.os=s.os/\fE s'.gens/\Un (frs outer) [] H H' s.heap s'.heap/\HOk P w H' s'.heap/\RelV v u/\Q v H'
def CR(CX:CXT)(outer:List Env)(P:Program)(w:World)(H:Hp)(s:ag)(Q:VK)(E:XK)(r:Result)(s':ag):Prop:=match r with
|.ok (.ret u)=>CE outer P w H s Q u s'
|.ok _=>False
|.error e=>CX outer H s E e s'
structure FnOk(P:Program)(w:World)(K:aa)(mg:Str->Option Value)(base:Heap)(CX:CXT)(k:Nat)(f:Addr)(fd:bP)(ps:List Str)(sp:Sp):Prop where
 len:∀vs H Q E,sp vs H Q E->vs.length=ps.length
 run:∀(A:a9)(outer:List Env)(s:ag)(H:Hp)(args:Args)(us:List Value)(vs:List V)(Q:VK)(E:XK),Room k A->Env0 P w K mg base A outer s H->BindsTo s fd args (ps.zip us)->Vals vs us->sp vs H Q E ->
  gy (model P w) A (.call (.ref f) args) (CR CX outer P w H s Q E) s
theorem Env0.make{P:Program}{w:World}{K:aa}{mg:Str->Option Value}{base:Heap}{A:a9}{outer:List Env}{s:ag}{H:Hp}(e:Env0 P w K mg base A outer s H)(C:Addr)(us:List Value)(kw:List (Str×Value)):Env0 P w K mg base (A.under (.builtin "type.__call__" ⟨.ref C::us,kw⟩)) outer s H:=⟨by first|exact e.frames|(simpa[gV,Code.envs,Code.isFrame,pushEnvs]using e.frames),e.mod,e.bs,e.bsz,e.funs,e.frf,e.hok,e.bare⟩
section
variable {X:Cx}{pins:List (Addr×Obj)}{σ:St}{H:Hp}{s s':ag}
theorem Inv.env0(I:Inv X pins σ H s):Env0 X.prog X.w X.K X.mg X.base X.A X.stack s H:=⟨I.ok.frames,I.ok.mod,I.bs,Nat.le_trans I.ok.bsz I.sz,I.stack,I.stkFree,I.hok,I.bare⟩
theorem Inv.after{Q:VK}{u:Value}(I:Inv X pins σ H s)(h:CE X.stack X.prog X.w H s Q u s'):EP X pins σ Q u s':=by obtain⟨v,H',os,bare,un,hok,r,q⟩:=h;obtain⟨hh,g,d,t,os'⟩:=s';obtain rfl:os'=s.os:=os;exact⟨v,H',I.call (h':=hh) (g':=g) (d':=d) (t':=t) (ch:=[]) un hok bare (λb z=>absurd z (by simp)),r,q⟩
end
def G0(sp:Sp)(dvs:List V)(E:XK)(t:TA):TE:=λσ H Q=>t σ H λvs H1=>sp (vs++dvs) H1 Q E
def Ny(C:Addr)(m:Str)(sp:Sp)(dvs:List V)(E:XK)(ta:TE)(t:TA):TE:=λσ H Q=>ta σ H λx H1=>∃a dx fs,x=.ref a/\H1 a=some (.ins C dx fs)/\fs.lookup m=none /\t σ H1 λvs H2=>sp (x::(vs++dvs)) H2 Q E
def Am(C:Addr)(sp:Sp)(dvs:List V)(E:XK)(t:TA):TE:=λσ H Q=>t σ H λvs H1=>∀x dx,H1 x=none->H1 dx=none->dx≠x ->sp (.ref x::(vs++dvs)) (upd (upd H1 dx (.own x)) x (.ins C dx [])) (λv H2=>v=.non/\Q (.ref x) H2) E
def Binds(K:aa)(fd:bP)(ps:List Str)(ds:List Value):Prop:=∀(s:ag)(us:List Value),K.In s.heap->(us++ds).length=ps.length->BindsTo s fd ⟨us,[]⟩ (ps.zip (us++ds))
theorem Binds.all{K:aa}{fd:bP}{ps:List Str}(h:∀us:List Value,us.length=ps.length->bindArgs fd ⟨us,[]⟩=pure (ps.zip us)):Binds K fd ps []:=λs us _ hl=>by rw[bB]at hl ⊢;exact .of_eq (h us hl)
def Passes(CX:CXT)(X:Cx)(E:XK):Prop:=∀(pins:List (Addr×Obj))(σ:St)(H:Hp)(s:ag)(e:Value)(s':ag),Inv X pins σ H s->CX X.stack H s E e s'->X.xe e s'
section
variable {X:Cx}{CX:CXT}{k:Nat}{f C:Addr}{fd:bP}{ps:List Str}{sp:Sp}{dvs:List V}{ds:List Value}{E:XK}{x m:Str}{p pos apos:Pos}{e o:Expr}{es:List Expr}{ta:TE}{t:TA}
theorem MN{pins:List (Addr×Obj)}{σ:St}{H:Hp}{s:ag}{Q:VK}{us:List Value}{vs:List V}(F:FnOk X.prog X.w X.K X.mg X.base CX k f fd ps sp)(hr:Room k X.A)(hb:Binds X.K fd ps ds)(hd:Vals dvs ds)(hx:Passes CX X E)(I:Inv X pins σ H s)(r:Vals vs us)(h:sp (vs++dvs) H Q E):wpAny (model X.prog X.w) X.A (call (.ref f) us) (EP X pins σ Q) X.xe s:=by
 have r2:Vals (vs++dvs) (us++ds):=r.append hd;have hl:(us++ds).length=ps.length:=by rw[<-r2.length];exact F.len _ _ _ _ h
 refine gA (fF (F.run X.A X.stack s H ⟨us,[]⟩ (us++ds) (vs++dvs) Q E hr I.env0 (hb s us I.kIn hl) r2 h) λr s' hq=>?_);cases r with
|error e=>exact hx pins σ H s e s' I hq
|ok fl=>
  cases fl with
 |ret u=>exact I.after hq
 |next=>exact bK hq
 |brk=>exact bK hq
 |cont=>exact bK hq
theorem SU(F:FnOk X.prog X.w X.K X.mg X.base CX k f fd ps sp)(hr:Room k X.A)(hg:Gl X x)(hm:X.mg x=some (.ref f))(hk:aZ X.K (.ref f)=true)(hb:Binds X.K fd ps ds)(hd:Vals dvs ds)(hx:Passes CX X E)(ha:PA X (e::es) t)(hdb:(x==("__debug__":Str))=false:=by decide)(he:aI (e::es) X.env=(false,eval e X.env)::aI es X.env:=by rfl)(hpl:(b8 pos (aI es X.env)).any (·.1)=false:=by rfl):PE X (.Call (.Name x p) (e::es) [] pos) (G0 sp dvs E t):=by intro pins s σ H Q I h;refine cJ (JN I hg hm ?_ hdb);refine cv (h₀:=X.base) I.ok.mod.kin hk (thn (ha pos pins s σ H _ I h) λus s1⟨vs,H1,I1,r,q⟩=>⟨I1.kIn,?_⟩) he hpl;exact MN F hr hb hd hx I1 r q
theorem Ee{pl:Sem Bool}(he:PE X o ta)(c:Cls X.K C)(hm:Meth X.K C m f)(F:FnOk X.prog X.w X.K X.mg X.base CX k f fd ps sp)(hr:Room k X.A)(hb:Binds X.K fd ps ds)(hd:Vals dvs ds)(hx:Passes CX X E)(ha:PA X (e::es) t)
  (hst:aI (e::es) X.env=(false,eval e X.env)::aI es X.env:=by rfl) (hpl:(b8 pos (aI es X.env)).any (·.1)=false:=by rfl)
  (ht:eval (.Call (.Attribute o m apos) (e::es) [] pos) X.env=(do
   let ov <-eval o X.env
   ib apos.atName
   let (f,first) <-eV [ov] (fJ ov m pl)
   g9 pos f first (b8 pos (aI (e::es) X.env)) (fg pos (da [] X.env))):=by rfl):
  PE X (.Call (.Attribute o m apos) (e::es) [] pos) (Ny C m sp dvs E ta t):=by
 intro pins s σ H Q I h
 refine d8 (pl:=pl) (thn (he pins s σ H _ I h) λu s1 hZ=>?_) ht;obtain⟨x,H1,I1,rx,a,dx,fs,ex,ea,l,q⟩:=hZ
 subst ex
 obtain rfl:u=Value.ref a:=rx
 refine Ub I1 ea c hm l ?_
 refine cv (first:=[.ref a]) (h₀:=X.base) I.ok.mod.kin hm.kp (thn (ha pos pins s1 σ H1 _ I1 q) λus s2⟨vs,H2,I2,r,q2⟩=>⟨I2.kIn,?_⟩) hst hpl
 exact MN (us:=.ref a::us) (vs:=.ref a::vs) F hr hb hd hx I2 (.cons rfl r) q2
theorem Lj{pl:Sem Bool}(he:PE X o ta)(c:Cls X.K C)(hm:Meth X.K C m f)(F:FnOk X.prog X.w X.K X.mg X.base CX k f fd ps sp)(hr:Room k X.A)(hb:Binds X.K fd ps ds)(hd:Vals dvs ds)(hx:Passes CX X E)
  (ht:eval (.Call (.Attribute o m apos) [] [] pos) X.env=(do
   let ov <-eval o X.env
   ib apos.atName
   let (f,first) <-eV [ov] (fJ ov m pl)
   g9 pos f first (b8 pos (aI [] X.env)) (fg pos (da [] X.env))):=by rfl):
  PE X (.Call (.Attribute o m apos) [] [] pos) (Ny C m sp dvs E ta tNil):=by
 intro pins s σ H Q I h
 refine d8 (pl:=pl) (thn (he pins s σ H _ I h) λu s1 hZ=>?_) ht;obtain⟨x,H1,I1,rx,a,dx,fs,ex,ea,l,q⟩:=hZ
 subst ex
 obtain rfl:u=Value.ref a:=rx
 refine Ub I1 ea c hm l ?_
 exact PySem.W.callWith_K0 (first:=[.ref a]) I1.kIn hm.kp (MN (us:=[.ref a]) (vs:=[.ref a]) F hr hb hd hx I1 (.cons rfl .nil) q)
structure Mk(K:aa)(C f:Addr):Prop where
 makes:fN K C=true
 init:az K (.ref C) "__init__"=some (some (.ref f))
 fn:eO K (.ref f)=true
 kp:aZ K (.ref C)=true
theorem KY{pins:List (Addr×Obj)}{σ:St}{H:Hp}{s:ag}{Q:VK}{us:List Value}{vs:List V}(M:Mk X.K C f)(F:FnOk X.prog X.w X.K X.mg X.base CX k f fd ps sp)(hr:Room (k+1) X.A)(hb:Binds X.K fd ps ds)(hd:Vals dvs ds)(hx:Passes CX X E)(I:Inv X pins σ H s)(r:Vals vs us)(h:∀x dx,H x=none->H dx=none->dx≠x->sp (.ref x::(vs++dvs)) (upd (upd H dx (.own x)) x (.ins C dx [])) (λv H2=>v=.non/\Q (.ref x) H2) E):wpAny (model X.prog X.w) X.A (call (.ref C) us) (EP X pins σ Q) X.xe s:=by
 have hq:=h (s.heap.objs.size+1) s.heap.objs.size (I.hok.fresh (Nat.le_succ _)) (I.hok.fresh (Nat.le_refl _)) (Nat.ne_of_lt (Nat.lt_succ_self _));have I2:=Inv.made (C:=C) I;have r2:Vals (V.ref (s.heap.objs.size+1)::(vs++dvs)) (Value.ref (s.heap.objs.size+1)::(us++ds)):=.cons rfl (r.append hd);have hl:(Value.ref (s.heap.objs.size+1)::us++ds).length=ps.length:=by have e:=r2.length;rw[F.len _ _ _ _ hq]at e;exact e.symm
 refine gA (LB (f:=f) I.kIn M.makes M.init (beq_iff_eq.mp M.fn) (fF (F.run _ X.stack _ _ ⟨Value.ref (s.heap.objs.size+1)::us,[]⟩ (Value.ref (s.heap.objs.size+1)::(us++ds)) _ _ E (hr.make C us []) (I2.env0.make C us []) (hb _ (Value.ref (s.heap.objs.size+1)::us) I2.kIn hl) r2 hq) λr s' hq'=>?_));cases r with
|error e=>exact hx pins σ _ _ e s' I2 hq'
|ok fl=>
  cases fl with
 |ret u=>obtain⟨v,H',I3,rv,ev,q3⟩:=I2.after hq';subst ev;exact⟨rv,⟨V.ref (s.heap.objs.size+1),H',I3,rfl,q3⟩⟩
 |next=>exact bK hq'
 |brk=>exact bK hq'
 |cont=>exact bK hq'
theorem Ml(M:Mk X.K C f)(F:FnOk X.prog X.w X.K X.mg X.base CX k f fd ps sp)(hr:Room (k+1) X.A)(hg:Gl X x)(hm:X.mg x=some (.ref C))(hb:Binds X.K fd ps ds)(hd:Vals dvs ds)(hx:Passes CX X E)(ha:PA X (e::es) t)(hdb:(x==("__debug__":Str))=false:=by decide)(he:aI (e::es) X.env=(false,eval e X.env)::aI es X.env:=by rfl)(hpl:(b8 pos (aI es X.env)).any (·.1)=false:=by rfl):PE X (.Call (.Name x p) (e::es) [] pos) (Am C sp dvs E t):=by intro pins s σ H Q I h;refine cJ (JN I hg hm ?_ hdb);refine cv (h₀:=X.base) I.ok.mod.kin M.kp (thn (ha pos pins s σ H _ I h) λus s1⟨vs,H1,I1,r,q⟩=>⟨I1.kIn,?_⟩) he hpl;exact KY M F hr hb hd hx I1 r q
end
structure FnScope(N P:List Str)(sc:Scope):Prop where
 kind:sc.kind=.function
 co:sc.isCoroutine=false
 gen:sc.isGenerator=false
 nd:N.Nodup
 pre:N.take P.length=P
 par:∀x∈P,sc.names.lookup x=some .local\/sc.names.lookup x=some .cell
 nofree:∀y∈sc.names,y.2≠.free
theorem N4{kindOf:Str->Option dW}{x:Str}:∀{binds:List (Str×Value)}{m:Str->Option Value},(∀v,(x,v)∉binds)->bindL kindOf binds m x=m x
|[],_,_=>rfl
|(n,v)::r,m,h=>by
  unfold bindL;rw[N4 λw hw=>h w (av _ hw)];split
  ·have:x≠n:=by rintro rfl;exact h v aG
   simp[this]
  ·rfl
theorem N6{kindOf:Str->Option dW}{x:Str}:∀{binds:List (Str×Value)}{m:Str->Option Value},(∀v,(x,v)∉binds)->bindC kindOf binds m x=m x
|[],_,_=>rfl
|(n,v)::r,m,h=>by
  unfold bindC;rw[N6 λw hw=>h w (av _ hw)];split
  ·rfl
  ·have:x≠n:=by rintro rfl;exact h v aG
   simp[this]
theorem N5{kindOf:Str->Option dW}{x:Str}{v:Value}:∀{P:List Str}{vs:List Value}{i:Nat}{m:Str->Option Value},P.Nodup->P[i]?=some x->vs[i]?=some v->kindOf x=some .local ->bindL kindOf (P.zip vs) m x=some v
|[],_,_,_,_,h,_,_=>by simp at h
|_::_,[],_,_,_,_,h,_=>by simp at h
|p::P,w::vs,0,m,nd,h1,h2,hk=>by simp at h1 h2;subst h1;subst h2;show bindL kindOf ((p,w)::P.zip vs) m p=_;unfold bindL;rw[N4 λv hv=>(bz.mp nd).1 (f7 hv).1,if_pos hk];simp
|p::P,w::vs,i+1,m,nd,h1,h2,hk=>by show bindL kindOf ((p,w)::P.zip vs) m x=_;unfold bindL;exact N5 (i:=i) (bz.mp nd).2 (by simpa using h1) (by simpa using h2) hk
theorem N7{kindOf:Str->Option dW}{x:Str}{v:Value}:∀{P:List Str}{vs:List Value}{i:Nat}{m:Str->Option Value},P.Nodup->P[i]?=some x->vs[i]?=some v->kindOf x≠some .local ->bindC kindOf (P.zip vs) m x=some v
|[],_,_,_,_,h,_,_=>by simp at h
|_::_,[],_,_,_,_,h,_=>by simp at h
|p::P,w::vs,0,m,nd,h1,h2,hk=>by simp at h1 h2;subst h1;subst h2;show bindC kindOf ((p,w)::P.zip vs) m p=_;unfold bindC;rw[N6 λv hv=>(bz.mp nd).1 (f7 hv).1,if_neg hk];simp
|p::P,w::vs,i+1,m,nd,h1,h2,hk=>by show bindC kindOf ((p,w)::P.zip vs) m x=_;unfold bindC;exact N7 (i:=i) (bz.mp nd).2 (by simpa using h1) (by simpa using h2) hk
noncomputable def start(N:List Str)(vs:List V):St:=vs.map some++bC (N.length-vs.length) none
noncomputable def cxOf(CX:CXT)(P:Program)(w:World)(K:aa)(mg:Str->Option Value)(base:Heap)(N:List Str)(qual:Str)(scope:Scope)(f:Addr)(cd:Value)(A:a9)(outer:List Env)(s:ag)(H:Hp)(E:XK):Cx where
 prog:=P
 w:=w
 K:=K
 mg:=mg
 base:=base
 A:=A.deeper (dU qual scope s.heap.objs.size f cd)
 N:=N
 s₀:=s
 H₀:=H
 env:=dU qual scope s.heap.objs.size f cd
 outer:=outer
 stack:=dU qual scope s.heap.objs.size f cd::outer
 ex:=[]
 calm:=true
 fn:=λ_=>true
 pn:=[]
 xe:=λe s'=>wpAny (model P w) (A.deeper (dU qual scope s.heap.objs.size f cd)) (leaving (dU qual scope s.heap.objs.size f cd) e) (λ_ s''=>CX outer H s E e s'') (λe' s''=>CX outer H s E e' s'') s'
theorem QZ{sc:Scope}{n:Nat}{x:Str}(h:sc.names.lookup x=some .cell):∃c,(cellsFrom n sc.names []).lookup x=some c:=by have q:=PySem.W.cellsFrom_some sc.names n [] (.inl h);exact cM.mp q
theorem Wq{CX:CXT}{P:Program}{w:World}{K:aa}{mg:Str->Option Value}{base:Heap}{N ps:List Str}{qual:Str}{scope:Scope}{f:Addr}{cd:Value}{A:a9}{outer:List Env}{s s1:ag}{H:Hp}{E:XK}{us:List Value}{vs:List V}(S:FnScope N ps scope)(hd:A.handled=none)(e0:Env0 P w K mg base A outer s H)(hl:vs.length=ps.length)(r:Vals vs us)(x:InCallC s s.heap.objs.size (bindL (dU qual scope s.heap.objs.size f cd).kindOf (ps.zip us) λ_=>none) (cellsFrom (s.heap.objs.size+1) scope.names []) (bindC (dU qual scope s.heap.objs.size f cd).kindOf (ps.zip us) λ_=>none) s1):Inv (cxOf CX P w K mg base N qual scope f cd A outer s H E) [] (start N vs) H s1:=by
 have hpl:ps.length<=N.length:=by have:=congrArg List.length S.pre;rw[aN]at this;omega
 obtain⟨h1,tk,rfl,hk⟩:=x.done;have noA:∀b:Addr,b∉(cxOf CX P w K mg base N qual scope f cd A outer s H E).ex:=λb z=>absurd (show b∈([]:List Addr)from z) (by simp);refine⟨⟨e0.mod,S.kind,rfl,rfl,Nat.le_refl _,λy z c h1 h2=>?_,λy hy=>?_,λy c _ h=>?_,λ_=>hd,Around.frames_deeper e0.frames,.inr ⟨rfl,rfl⟩,λb z=>absurd z (noA b),e0.bs,e0.bsz,λb _ _=>noA b,λb z=>absurd z (noA b),e0.funs,e0.frf⟩,rfl,e0.bare,Un.kept hk,⟨_,x.toInCall.ns,λi y v h1 h2 h3=>?_⟩,λy c h=>⟨_,x.cell y c h⟩,e0.hok.fresh (Nat.le_refl _),λy c h=>?_,λp hp=>absurd (show p∈([]:List (Addr×Obj))from hp) (by simp),e0.hok.kept hk,?_⟩
 ·exact name_of_addr x.apart (cO h1) (cO h2)
 ·have hy:scope.names.lookup y=some .cell\/scope.names.lookup y=some .free:=hy;rcases hy with hy|hy
  ·exact QZ hy
  ·exact absurd rfl (S.nofree _ (cO hy))
 ·exact Nat.le_of_lt (x.above y c (cO h))
 ·have hi:i<vs.length:=by
   unfold start at h2;by_cases hi:i<vs.length
   ·exact hi
   ·rw[a6 (by simpa using hi)]at h2;rw[List.getElem?_replicate]at h2;split at h2<;>cases h2
  have ha:vs[i]?=some v:=by
   unfold start at h2;rw[a_ (by simpa using hi),aJ]at h2;cases e:vs[i]? with
  |none=>rw[e]at h2;cases h2
  |some a=>rw[e]at h2;cases h2;rfl
  obtain⟨u,hu,rv⟩:=r.get ha;have hp:ps[i]?=some y:=by rw[<-S.pre,fM (by omega)];exact h1
  have ndP:ps.Nodup:=by rw[<-S.pre];exact S.nd.sublist (List.take_sublist _ _)
  refine⟨u,rv,?_⟩;rcases S.par y (aA hp)with k|k
  ·exact .inl ⟨k,N5 ndP hp hu k⟩
  ·obtain⟨c,e⟩:=QZ (n:=s.heap.objs.size+1) k;refine .inr ⟨.inl k,c,e,?_⟩;have q:=x.cell y c e;rw[N7 ndP hp hu (by show scope.names.lookup y≠_;rw[k];decide)]at q;exact q
 ·exact e0.hok.fresh (Nat.le_of_lt (x.above y c (cO h)))
 ·unfold start;show _=N.length;rw[aj,bq,List.length_replicate];omega
theorem Fh{CX:CXT}{P:Program}{w:World}{K:aa}{mg:Str->Option Value}{base:Heap}{k:Nat}{f:Addr}{name qual:Str}{params:Arguments}{body:List Stmt}{scope:Scope}{dV kV doc pm cdv ct oc:Value}{an od:Option Addr}{osl:Array (Option Value)}{N ps:List Str}{sp:Sp}(lk:K.lookup f=some ⟨oc,od,.func (bw name qual params body scope dV kV doc pm an cdv ct),osl⟩)(hcd:bY K cdv qual=true)(S:FnScope N ps scope)(len:∀vs H Q E,sp vs H Q E->vs.length=ps.length)(hbody:∀(A:a9)(outer:List Env)(s:ag)(H:Hp)(vs:List V)(Q:VK)(E:XK),Room k (A.deeper (dU qual scope s.heap.objs.size f cdv))->sp vs H Q E ->∃t,PSs (cxOf CX P w K mg base N qual scope f cdv A outer s H E) body t/\t {nx:=λ_ H'=>Q .non H',rt:=Q} (start N vs) H):FnOk P w K mg base CX (k+1) f (bw name qual params body scope dV kV doc pm an cdv ct) ps sp:=by
 refine⟨len,λA outer s H args us vs Q E hr e0 hb r hsp=>?_⟩;have hl:=len _ _ _ _ hsp;have KX:K.In s.heap:=e0.mod.kin.keeps λb o e=>(e0.bs b o e).1;have lim:s.heap.NoLimit:=e0.mod.nolimit.keeps λb o e=>(e0.bs b o e).1;have hkind:∀y∈ps.zip us,scope.names.lookup y.1=some .local\/(scope.names.lookup y.1=some .cell/\((cellsFrom (s.heap.objs.size+1) scope.names []).lookup y.1).isSome=true):=λ⟨n,v⟩hy=>by
  rcases S.par n (f7 hy).1 with q|q
  ·exact .inl q
  ·exact .inr ⟨q,PySem.W.cellsFrom_some _ _ _ (.inl q)⟩
 refine codeAny_call_function hr.depth (KX _ _ lk) rfl S.co S.gen rfl (PySem.W.codeRec_of KX hcd) (hb _ _ _ _ ?_);refine wpAny_newFunctionEnv_cells S.kind hkind λenv he s1 x=>?_;subst he;refine⟨lim.keeps x.toInCall.keep,codeAny_func ?_⟩;obtain⟨t,ht,hq⟩:=hbody A outer s H vs Q E (hr.deeper _) hsp;have I:Inv (cxOf CX P w K mg base N qual scope f cdv A outer s H E) [] (start N vs) H s1:=Wq S hr.hd e0 hl r x;refine cj (ht [] s1 (start N vs) H _ I hq) (λfl s' hs=>?_) λe s' hs=>hs;have fin:∀{σ':St}{H':Hp}{v:V}{u:Value},Inv (cxOf CX P w K mg base N qual scope f cdv A outer s H E) [] σ' H' s'->RelV v u->Q v H'->CE outer P w H s Q u s':=λ{σ' H' v u}J rv q=>⟨v,H',J.os,J.bare,J.base,J.hok,rv,q⟩;cases fl with
|ret u=>obtain⟨v,σ',H',J,rv,q⟩:=hs;exact fin J rv q
|next=>obtain⟨σ',H',J,q⟩:=hs;exact fin (v:=V.non) (u:=Value.none) J rfl q
|brk=>obtain⟨_,_,_,q⟩:=hs;exact bK q
|cont=>obtain⟨_,_,_,q⟩:=hs;exact bK q
open PySem PySem.Spec PyProof.Rows
section
variable {X:Cx}{x:Str}{p pos:Pos}{e:Expr}{es:List Expr}{t:TA}{id T:String}{r:List V->Hp->VK->Prop}
def tCB(r:List V->Hp->VK->Prop)(t:TA):TE:=λσ H Q=>t σ H λvs H1=>r vs H1 Q
theorem Zv(hc:YI X (.builtin id) r)(hg:Gl X x)(hm:X.mg x=none)(hv:bF x=some (.builtin id))(ha:PA X (e::es) t)(hn:x≠"__name__":=by decide)(hdb:(x==("__debug__":Str))=false:=by decide)(he:aI (e::es) X.env=(false,eval e X.env)::aI es X.env:=by rfl)(hpl:(b8 pos (aI es X.env)).any (·.1)=false:=by rfl):PE X (.Call (.Name x p) (e::es) [] pos) (tCB r t):=by intro pins s σ H Q I h;refine cJ (Ua I hg hm hv ?_ hn hdb);exact PyProof.Rows.callWith_builtin1 (thn (ha pos pins s σ H _ I h) λus s1⟨vs,H1,I1,r1,q1⟩=>hc pins s1 σ H1 vs us Q I1 r1 q1) he hpl
theorem Yi(hc:YI X (.type T) r)(hg:Gl X x)(hm:X.mg x=none)(hv:bF x=some (.type T))(ha:PA X (e::es) t)(hn:x≠"__name__":=by decide)(hdb:(x==("__debug__":Str))=false:=by decide)(he:aI (e::es) X.env=(false,eval e X.env)::aI es X.env:=by rfl)(hpl:(b8 pos (aI es X.env)).any (·.1)=false:=by rfl):PE X (.Call (.Name x p) (e::es) [] pos) (tCB r t):=by intro pins s σ H Q I h;refine cJ (Ua I hg hm hv ?_ hn hdb);exact b7 (thn (ha pos pins s σ H _ I h) λus s1⟨vs,H1,I1,r1,q1⟩=>hc pins s1 σ H1 vs us Q I1 r1 q1) he hpl
end
end L2
namespace HT
open PySem PyProof.Rows
section
variable {prog:Program}{w:World}{A:a9}{E:Value->ag->Prop}{s:ag}
noncomputable def sIx(n d:Nat):Option Int->Nat
|none=>d
|some v=>if v<0 then(v+(n:Int)).toNat else min v.toNat n
theorem sIx_nat(n d k:Nat):sIx n d (some (k:Int))=min k n:=by show(if(k:Int)<0 then((k:Int)+(n:Int)).toNat else min (k:Int).toNat n)=min k n;rw[if_neg (by omega),Int.toNat_natCast]
end
end HT
namespace L2
open PySem PySem.Spec PyProof.Rows
noncomputable abbrev TO:=St->Hp->(Option Int->Hp->Prop)->Prop
def PO(X:Cx)(e:Option Expr)(t:TO):Prop:=∀(pins:List (Addr×Obj))(s:ag)(σ:St)(H:Hp)(Q:Option Int->Hp->Prop),Inv X pins σ H s->t σ H Q ->wpAny (model X.prog X.w) X.A (evalPart e X.env) (λu s'=>∃o H',Inv X pins σ H' s'/\IsPart u o/\Q o H') X.xe s
noncomputable def DJ:TO:=λ_ H Q=>Q none H
noncomputable def Aj(t:TE):TO:=λσ H Q=>t σ H λx H1=>∃i,x=.int i/\Q (some i) H1
theorem intsAre_of{ns:List Int}:∀{us:List Value},Vals (ns.map V.int) us->IntsAre us ns:=by
 induction ns with
|nil=>intro us r;rw[ff]at r;cases r;exact .nil
|cons n ns ih=>
  intro us r;rw[ar]at r;cases r with
 |cons r1 r2=>obtain⟨t,e⟩:=r1;subst e;exact .cons n t (ih r2)
section
variable {X:Cx}{e:Expr}{te:TE}{lo hi:Option Expr}{tl th:TO}{pos p2:Pos}
theorem XO:PO X none DJ:=by intro pins s σ H Q I h;rw[evalPart_none];exact ai ⟨none,H,I,.none,h⟩
theorem XN(h:PE X e te):PO X (some e) (Aj te):=by intro pins s σ H Q I hw;rw[evalPart_some];refine thn (h pins s σ H _ I hw) λu s1 hZ=>?_;obtain⟨x,H1,I1,r1,q1⟩:=hZ;obtain⟨i,rfl,q⟩:=q1;obtain⟨t,rfl⟩:=r1;exact⟨some i,H1,I1,.int i t,q⟩
def SlR(X:Cx)(r:V->Option Int->Option Int->Hp->VK->Prop):Prop:=∀(pins:List (Addr×Obj))(s:ag)(σ:St)(H:Hp)(x:V)(v vl vu:Value)(lo hi:Option Int)(sl:Addr)(Q:VK),Inv X pins σ H s->RelV x v->s.heap.IsSliceOf sl vl vu .none->IsPart vl lo->IsPart vu hi->r x lo hi H Q ->∃T id,typeLookup (.type T) "__getitem__"=pure (some (.builtin id))/\s.TypeIs v T/\wpAny (model X.prog X.w) X.A (getItem v (.ref sl)) (EP X pins σ Q) X.xe s
def tSl(r:V->Option Int->Option Int->Hp->VK->Prop)(te:TE)(tl th:TO):TE:=λσ H Q=>te σ H λx H1=>tl σ H1 λl H2=>th σ H2 λu H3=>r x l u H3 Q
theorem Xd{r:V->Option Int->Option Int->Hp->VK->Prop}(hr:SlR X r)(he:PE X e te)(hl:PO X lo tl)(hu:PO X hi th):PE X (.Subscript e (.Slice lo hi none p2) pos) (tSl r te tl th):=by intro pins s σ H Q I h;refine Subscript_ (thn (he pins s σ H _ I h) λv s1 hZ=>?_);obtain⟨x,H1,I1,r1,q1⟩:=hZ;refine wpAny_Slice (thn (hl pins s1 σ H1 _ I1 q1) λvl s2⟨l,H2,I2,pl,q2⟩=>thn (hu pins s2 σ H2 _ I2 q2) λvu s3 hZ=>?_);obtain⟨u,H3,I3,pu,q3⟩:=hZ;rw[evalPart_none];refine ai ?_;have I4:Inv X pins σ H3 {s3 with heap:=s3.heap.push {cls:=.type "slice",data:=.fields #[vl,vu,.none]}}:=I3.kept (t':=s3.toks) λb ob q=>Heap.get?_push_of_some _ q;obtain⟨T,id,hT,ht,hg⟩:=hr pins {s3 with heap:=s3.heap.push {cls:=.type "slice",data:=.fields #[vl,vu,.none]}} σ H3 x v vl vu l u s3.heap.objs.size Q I4 r1 (Heap.IsSliceOf.new ..) pl pu q3;show wpAny (model X.prog X.w) X.A (iy e (.Slice lo hi none p2) v (.ref s3.heap.objs.size)) (EP X pins σ Q) X.xe {s3 with heap:=s3.heap.push {cls:=.type "slice",data:=.fields #[vl,vu,.none]}};exact tail_any (ops:=[.ref s3.heap.objs.size,v]) ht hT hg (by with_unfolding_all rfl)
noncomputable def cutV(xs:List V)(lo hi:Option Int):List V:=(xs.drop (HT.sIx xs.length 0 lo)).take (HT.sIx xs.length xs.length hi-HT.sIx xs.length 0 lo)
theorem QW(xs:List V)(lo hi:Option Int):(cutV xs lo hi).length<=xs.length:=by unfold cutV;rw[aN,bD];omega
end
open PySem PySem.Spec PyProof.Rows
noncomputable def ixN(n:Nat)(i:Int):Option Nat:=if 0<=i then(if i<n then some i.toNat else none)else if -(n:Int)<=i then some (i+n).toNat else none
noncomputable def atI{α:Type}(xs:List α)(i:Int):Option α:=(ixN xs.length i).bind λj=>xs[j]?
theorem Tp{n:Nat}{i:Int}{j:Nat}(h:ixN n i=some j):seqIndex? i n=some j/\j<n/\-(n:Int)<=i/\i<n:=by
 unfold ixN at h;by_cases h0:0<=i
 ·rw[if_pos h0]at h;by_cases h1:i<n
  ·rw[if_pos h1]at h;have e:i.toNat=j:=au h;exact⟨by rw[seqIndex_of h0 h1,e],by omega,by omega,h1⟩
  ·rw[if_neg h1]at h;cases h
 ·rw[if_neg h0]at h;by_cases h1:-(n:Int)<=i
  ·rw[if_pos h1]at h;have e:(i+n).toNat=j:=au h;exact⟨by rw[seqIndex_neg (by omega) h1,e],by omega,h1,by omega⟩
  ·rw[if_neg h1]at h;cases h
theorem PX{α:Type}{xs:List α}{i:Int}{v:α}(h:atI xs i=some v):∃j,seqIndex? i xs.length=some j/\xs[j]?=some v/\j<xs.length/\-(xs.length:Int)<=i/\i<xs.length:=by
 unfold atI at h;cases e:ixN xs.length i with
|none=>rw[e]at h;cases h
|some j=>rw[e]at h;obtain⟨h1,h2,h3,h4⟩:=Tp e;exact⟨j,h1,h,h2,h3,h4⟩
theorem ZD{α:Type}{xs:List α}{j:Nat}{v:α}(h:xs[j]?=some v):atI xs (j:Int)=some v:=by
 have hj:j<xs.length:=(ak.mp h).1;have e:ixN xs.length (j:Int)=some j:=by unfold ixN;rw[if_pos (by omega),if_pos (by omega)];simp
 unfold atI;rw[e];exact h
def PZ(b:Expr):Prop:=∀o i,subscripted b false o i=operate [o,i] (getItem o i)
def IxR(X:Cx)(r:R2):Prop:=∀(value slice:Expr)(pins:List (Addr×Obj))(s:ag)(σ:St)(H:Hp)(x y:V)(v u:Value)(Q:VK),Inv X pins σ H s->RelV x v->RelV y u->r x y H Q ->subscripted slice false v u=operate [v,u] (getItem v u)->wpAny (model X.prog X.w) X.A (iy value slice v u) (EP X pins σ Q) X.xe s
def MtR(X:Cx)(id:String)(r:V->List V->Hp->VK->Prop):Prop:=∀(pins:List (Addr×Obj))(s:ag)(σ:St)(H:Hp)(x:V)(xs:List V)(v:Value)(us:List Value)(Q:VK),Inv X pins σ H s->RelV x v->Vals xs us->r x xs H Q ->wpAny (model X.prog X.w) X.A (call (.builtin id) (v::us)) (EP X pins σ Q) X.xe s
section
variable {X:Cx}{a b:Expr}{ta tb:TE}{pos:Pos}
theorem Yg{r:R2}(hr:IxR X r)(ha:PE X a ta)(hb:PE X b tb)(hs:PZ b):PE X (.Subscript a b pos) (tOp r ta tb):=by intro pins s σ H Q I h;exact Subscript_ (binT ha hb I h λv u s2 x y H2 I2 rx ry q=>hr a b pins s2 σ H2 x y v u Q I2 rx ry q (hs _ _))
def rIxL(K:aa):R2:=λx y H Q=>∃p xs i v,x=.ref p/\y=.int i/\SqL K H p xs/\atI xs i=some v/\Q v H
def rIxT(K:aa):R2:=λx y H Q=>∃p xs i v,x=.ref p/\y=.int i/\SqT K H p xs/\atI xs i=some v/\Q v H
def rIxS:R2:=λx y H Q=>∃z i c,x=.str z/\y=.int i/\z.length<=sizeLine/\atI z.cps.toList i=some c/\Q (.str ⟨#[c]⟩) H
theorem EA:IxR X (rIxL X.K):=by
 intro value slice pins s σ H x y v u Q I rx ry h hs;obtain⟨p,xs,i,z,rfl,rfl,hq,he,q⟩:=h;cases rx;obtain⟨t,rfl⟩:=ry;obtain⟨its,r,pl,hz⟩:=I.list hq;obtain⟨j,h1,h2,h3,h4,h5⟩:=PX he;obtain⟨w,ew,rw'⟩:=r.get h2;have hl:=r.length;have hn:=JM;have fin:EP X pins σ Q w s:=⟨z,H,I,rw',q⟩;by_cases h0:0<=i
 ·have hj:i.toNat=j:=by rw[seqIndex_of h0 h5]at h1;exact au h1
  exact item_listR pl.isList h0 (by omega) (by rw[hj];simpa using ew) fin hs
 ·have hj:(i+(its.toArray.size:Int)).toNat=j:=by rw[seqIndex_neg (by omega) h4]at h1;rw[aq,<-hl];exact au h1
  exact subscriptTail_builtinR (x:=w) pl.isList.typeIs slot_list_getitem.lookup (wpAny_getItem_list_neg (Q:=λr s'=>r=w/\EP X pins σ Q r s') pl.isList (by omega) (by rw[aq]<;>omega) (by omega) (by rw[hj];simpa using ew) ⟨rfl,fin⟩) hs
theorem Z9:IxR X (rIxT X.K):=by intro value slice pins s σ H x y v u Q I rx ry h hs;obtain⟨p,xs,i,z,rfl,rfl,hq,he,q⟩:=h;cases rx;obtain⟨t,rfl⟩:=ry;obtain⟨its,r,pl,hz⟩:=I.tuple hq;obtain⟨j,h1,h2,h3,h4,h5⟩:=PX he;obtain⟨w,ew,rw'⟩:=r.get h2;have hl:=r.length;have hn:=JM;have fin:EP X pins σ Q w s:=⟨z,H,I,rw',q⟩;exact subscriptTail_builtinR (x:=w) pl.typeIs slot_tuple_getitem.lookup (getItem_tuple (j:=j) (Q:=λr s'=>r=w/\EP X pins σ Q r s') pl (by omega) (by omega) (by rw[aq,<-hl];exact h1) (by simpa using ew) ⟨rfl,fin⟩) hs
theorem PK:IxR X rIxS:=by
 intro value slice pins s σ H x y v u Q I rx ry h hs;obtain⟨z,i,c,rfl,rfl,hz,he,q⟩:=h;obtain⟨t,rfl⟩:=rx;obtain⟨t',rfl⟩:=ry;obtain⟨j,h1,h2,h3,h4,h5⟩:=PX he;have hl:z.cps.toList.length=z.length:=by simp[Str.length]
 rw[hl]at h1 h4 h5;have hn:=JM;exact tail_any (typeIs_str s z t) slot_str_getitem.lookup (getItem_str (c:=c) (by have e1:decide (i < -(2 ^ 63:Int))=false:=decide_eq_false (by omega);have e2:decide (i >= 2 ^ 63)=false:=decide_eq_false (by omega);rw[e1,e2,Bool.or_false]) (by rw[h1];simpa using h2) ⟨.str ⟨#[c]⟩,H,I.tok _,⟨_,rfl⟩,q⟩) hs
theorem RA(its:List Value)(n j:Nat)(u:Value):Obj.mapSeq (·.setIfInBounds j u) {cls:=.type "list",data:=.seq its.toArray n}={cls:=.type "list",data:=.seq (its.set j u).toArray n}:=by simp[Obj.mapSeq]
theorem Inv.lst{pins:List (Addr×Obj)}{σ:St}{H:Hp}{s:ag}{p:Addr}{xs:List V}(I:Inv X pins σ H s)(h:H p=some (.lst xs)):∃(its:List Value)(n:Nat),Vals xs its/\s.heap.get? p=some {cls:=.type "list",data:=.seq its.toArray n}/\xs.length<=sizeLine:=by obtain⟨z,its,n,r,e⟩:=I.hok p _ h;exact⟨its,n,r,e,z⟩
theorem Inv.lstUpd{pins:List (Addr×Obj)}{σ:St}{H:Hp}{s:ag}{p:Addr}{xs ys:List V}{its its':List Value}{n n':Nat}{f:Obj->Obj}(I:Inv X pins σ H s)(h:H p=some (.lst xs))(ho:s.heap.get? p=some {cls:=.type "list",data:=.seq its.toArray n})(hf:f {cls:=.type "list",data:=.seq its.toArray n}={cls:=.type "list",data:=.seq its'.toArray n'})(r:Vals ys its')(hz:ys.length<=sizeLine)(t:Nat):Inv X pins σ (upd H p (.lst ys)) {s with heap:=s.heap.update p f,toks:=t}:=by
 have e:(s.heap.update p f).get? p=some {cls:=.type "list",data:=.seq its'.toArray n'}:=by rw[Heap.get?_update_self f ho (by rw[hf]<;>rfl),hf]
 refine I.write (x:=p) (e:=p) (by rw[h];trivial) (.inl rfl) (λb u hb q=>(Heap.get?_update_other _ _ (bo hb)).trans q) ⟨_,e⟩ ?_;exact⟨hz,its',n',r,e⟩
noncomputable def AA:V->V->V->Hp->(Hp->Prop)->Prop:=λo i v H Q=>∃p xs k j,o=.ref p/\i=.int k/\H p=some (.lst xs)/\ixN xs.length k=some j/\Q (upd H p (.lst (xs.set j v)))
theorem set_list:PSet X AA:=by
 intro pins s σ H o i v ov iv u Q I ro ri rv h;obtain⟨p,xs,k,j,rfl,rfl,hp,hj,q⟩:=h;cases ro;obtain⟨t,rfl⟩:=ri;obtain⟨its,n,r,ho,hz⟩:=I.lst hp;obtain⟨h1,h2,h3,h4⟩:=Tp hj;have hl:=r.length;have hn:=JM;have I':Inv X pins σ (upd H p (.lst (xs.set j v))) {s with heap:=s.heap.update p (Obj.mapSeq (·.setIfInBounds j u))}:=I.lstUpd hp ho (RA its n j u) (r.set rv j) (by rw[List.length_set];exact hz) s.toks;by_cases h0:0<=k
 ·have hk:k.toNat=j:=by rw[seqIndex_of h0 h4]at h1;exact au h1
  exact PySem.W.ki_setAt ho h0 (by omega) (by rw[aq,<-hl];exact h4) (by rw[hk];exact⟨_,I',q⟩)
 ·have hk:(k+(its.toArray.size:Int)).toNat=j:=by rw[seqIndex_neg (by omega) h3]at h1;rw[aq,<-hl];exact au h1
  exact PySem.W.ki_setBack ho (by omega) (by rw[aq,<-hl];exact h3) (by omega) (by rw[hk];exact⟨_,I',q⟩)
theorem Pj(lo hi:Option Int)(n:Nat):(dX lo hi none n).1=((HT.sIx n 0 lo:Nat):Int)/\(dX lo hi none n).2.1=((HT.sIx n n hi:Nat):Int)/\(dX lo hi none n).2.2=1:=by
 refine⟨?_,?_,rfl⟩
 ·cases lo with
 |none=>simp[dX,HT.sIx]
 |some i=>
   simp only[dX,HT.sIx,Option.getD_none,show(1:Int)>0 by decide,if_true];by_cases h:i<0
   ·simp only[h,if_true]<;>omega
   ·simp only[h,if_false]<;>omega
 ·cases hi with
 |none=>simp[dX,HT.sIx]
 |some i=>
   simp only[dX,HT.sIx,Option.getD_none,show(1:Int)>0 by decide,if_true];by_cases h:i<0
   ·simp only[h,if_true]<;>omega
   ·simp only[h,if_false]<;>omega
theorem Nh(its:List Value)(lo hi:Option Int):slicePick its.toArray lo hi none=((its.drop (HT.sIx its.length 0 lo)).take (HT.sIx its.length its.length hi-HT.sIx its.length 0 lo)).toArray:=by obtain⟨h1,h2,h3⟩:=Pj lo hi its.toArray.size;unfold slicePick;rw[h1,h2,h3];simp only[sliceRange_one,pick_run,aq]<;>rfl
noncomputable def rSlL(K:aa):V->Option Int->Option Int->Hp->VK->Prop:=λx lo hi H Q=>∃a xs,x=.ref a/\SqL K H a xs/\∀p,H p=none->Q (.ref p) (upd H p (.lst (cutV xs lo hi)))
theorem Uq:SlR X (rSlL X.K):=by intro pins s σ H x v vl vu lo hi sl Q I rx hs pl pu h;obtain⟨a,xs,rfl,hx,q⟩:=h;cases rx;obtain⟨its,r,ht,hz⟩:=I.list hx;have hlen:=r.length;refine⟨"list",_,slot_list_getitem.lookup,ht.isList.typeIs,?_⟩;refine wpAny_getItem_list_slice ht.isList hs pl pu .none (by simp) ?_ (by rw[aq]<;>omega);rw[Nh,<-hlen];refine⟨.ref s.heap.objs.size,_,I.laid (t':=s.toks) (o:=.lst (cutV xs lo hi)) (λb ob q=>Heap.get?_push_of_some _ q) (Nat.le_refl _) ?_,rfl,q _ (I.hok.fresh (Nat.le_refl _))⟩;exact⟨Nat.le_trans (QW xs lo hi) hz,_,0,(r.drop (HT.sIx xs.length 0 lo)).take (HT.sIx xs.length xs.length hi-HT.sIx xs.length 0 lo),Heap.get?_push_size _ rfl⟩
noncomputable def Yw:V->Bool
|.non=>true
|.bl _=>true
|.int _=>true
|.str _=>true
|_=>false
noncomputable def eqV:V->V->Bool
|.non,.non=>true
|.bl a,.bl b=>a==b
|.bl a,.int b=>(if a then 1 else 0)==b
|.int a,.bl b=>a==(if b then 1 else 0)
|.int a,.int b=>a==b
|.str a,.str b=>a==b
|_,_=>false
theorem RO{A:a9}{s:ag}{y x:V}{u v:Value}(ry:RelV y u)(rx:RelV x v)(fy:Yw y=true)(fx:Yw x=true):SeqAt.EqAt A s u v (eqV y x):=by
 cases y with
|non=>
  cases ry;cases x with
 |non=>cases rx;exact gW _
 |bl b=>cases rx;exact SeqAt.EqAt.none_bool b
 |int b=>obtain⟨t,rfl⟩:=rx;exact SeqAt.EqAt.none_int b t
 |str b=>obtain⟨t,rfl⟩:=rx;exact SeqAt.EqAt.none_str b t
 |_=>exact absurd (show false=true from fx) Bool.false_ne_true
|bl a=>
  cases ry;cases x with
 |non=>cases rx;exact SeqAt.EqAt.bool_none a
 |bl b=>cases rx;exact SeqAt.EqAt.bool_bool a b
 |int b=>obtain⟨t,rfl⟩:=rx;exact SeqAt.EqAt.bool_int a b t
 |str b=>obtain⟨t,rfl⟩:=rx;exact SeqAt.EqAt.bool_str a b t
 |_=>exact absurd (show false=true from fx) Bool.false_ne_true
|int a=>
  obtain⟨t',rfl⟩:=ry;cases x with
 |non=>cases rx;exact SeqAt.EqAt.int_none a t'
 |bl b=>cases rx;exact SeqAt.EqAt.int_bool a t' b
 |int b=>obtain⟨t,rfl⟩:=rx;exact SeqAt.EqAt.int_int a t' b t
 |str b=>obtain⟨t,rfl⟩:=rx;exact SeqAt.EqAt.int_str a t' b t
 |_=>exact absurd (show false=true from fx) Bool.false_ne_true
|str a=>
  obtain⟨t',rfl⟩:=ry;cases x with
 |non=>cases rx;exact SeqAt.EqAt.str_none a t'
 |bl b=>cases rx;exact SeqAt.EqAt.str_bool a t' b
 |int b=>obtain⟨t,rfl⟩:=rx;exact SeqAt.EqAt.str_int a t' b t
 |str b=>obtain⟨t,rfl⟩:=rx;exact SeqAt.EqAt.str_str a t' b t
 |_=>exact absurd (show false=true from fx) Bool.false_ne_true
|_=>exact absurd (show false=true from fy) Bool.false_ne_true
noncomputable def eqU(x:V)(u:Value):Bool:=match u with
|.none=>eqV .non x
|.bool b=>eqV (.bl b) x
|.int i _=>eqV (.int i) x
|.str z _=>eqV (.str z) x
|_=>false
theorem LU{x y:V}{u:Value}(r:RelV y u)(f:Yw y=true):eqU x u=eqV y x:=by
 cases y with
|non=>cases r;rfl
|bl b=>cases r;rfl
|int i=>obtain⟨t,rfl⟩:=r;rfl
|str z=>obtain⟨t,rfl⟩:=r;rfl
|_=>exact absurd (show false=true from f) Bool.false_ne_true
theorem UY{x:V}:∀{xs:List V}{us:List Value},Vals xs us->xs.all Yw=true->us.any (eqU x)=xs.any λy=>eqV y x
|_,_,.nil,_=>rfl
|y::xs,u::us,.cons r t,f=>by rw[List.all_cons,Bool.and_eq_true]at f;rw[cq,cq,LU r f.1,UY t f.2]
theorem Vc{A:a9}{s:ag}{x:V}{v:Value}(rx:RelV x v)(fx:Yw x=true):∀{xs:List V}{us:List Value},Vals xs us->xs.all Yw=true->∀u∈us,SeqAt.EqAt A s u v (eqU x u)
|_,_,.nil,_=>λu hu=>by cases hu
|y::xs,u::us,.cons r t,f=>λu' hu=>by
  rw[List.all_cons,Bool.and_eq_true]at f;rcases ao.mp hu with rfl|hu
  ·rw[LU r f.1];exact RO r rx f.1 fx
  ·exact Vc rx fx t f.2 u' hu
noncomputable def inV(x:V)(xs:List V):Bool:=xs.any λy=>eqV y x
def rIn(K:aa)(neg:Bool):R2:=λx y H Q=>∃p xs,y=.ref p/\(SqL K H p xs\/SqT K H p xs)/\Yw x=true/\xs.all Yw=true/\Q (.bl (if neg then !inV x xs else inV x xs)) H
theorem Wc:OpR X (br .In) (rIn X.K false):=by
 intro pins s σ H x y v u Q I rx ry h;obtain⟨p,xs,rfl,hq,fx,fs,q⟩:=h;cases ry;rcases hq with hq|hq
 ·obtain⟨its,r,pl,hz⟩:=I.list hq;refine SeqAt.in_listAt (eqU x) pl.isList (λw hw=>Vc rx fx r fs w (by simpa using hw)) ⟨.bl _,H,I,rfl,?_⟩;rw[show its.toArray.any (eqU x)=its.any (eqU x) by simp,UY r fs];exact q
 ·obtain⟨its,r,pl,hz⟩:=I.tuple hq;refine SeqAt.in_tupleAt (eqU x) pl (λw hw=>Vc rx fx r fs w (by simpa using hw)) ⟨.bl _,H,I,rfl,?_⟩;rw[show its.toArray.any (eqU x)=its.any (eqU x) by simp,UY r fs];exact q
theorem PB:OpR X (br .NotIn) (rIn X.K true):=by
 intro pins s σ H x y v u Q I rx ry h;obtain⟨p,xs,rfl,hq,fx,fs,q⟩:=h;cases ry;rcases hq with hq|hq
 ·obtain⟨its,r,pl,hz⟩:=I.list hq;refine SeqAt.notIn_listAt (eqU x) pl.isList (λw hw=>Vc rx fx r fs w (by simpa using hw)) ⟨.bl _,H,I,rfl,?_⟩;rw[show its.toArray.any (eqU x)=its.any (eqU x) by simp,UY r fs];exact q
 ·obtain⟨its,r,pl,hz⟩:=I.tuple hq;refine SeqAt.notIn_tupleAt (eqU x) pl (λw hw=>Vc rx fx r fs w (by simpa using hw)) ⟨.bl _,H,I,rfl,?_⟩;rw[show its.toArray.any (eqU x)=its.any (eqU x) by simp,UY r fs];exact q
theorem JQ:YI X (.builtin "len") (λxs H Q=>∃p ys,xs=[.ref p]/\(SqL X.K H p ys\/SqT X.K H p ys)/\Q (.int ys.length) H):=by
 intro pins s σ H xs us Q I r h;obtain⟨p,ys,rfl,hq,q⟩:=h;obtain⟨u,rfl,rx⟩:=vals1 r;cases rx;have hn:=JM;rcases hq with hq|hq
 ·obtain⟨its,r',pl,hz⟩:=I.list hq;have hlen:=r'.length;exact Calls.call_len_list pl.isList (by simp only[aq]<;>omega) ⟨.int ys.length,H,I.tok _,⟨s.toks+1,by rw[aq,hlen]⟩,q⟩
 ·obtain⟨its,r',pl,hz⟩:=I.tuple hq;have hlen:=r'.length;exact len_tuple pl (by simp only[aq]<;>omega) ⟨.int ys.length,H,I.tok _,⟨s.toks+1,by rw[aq,hlen]⟩,q⟩
theorem PQ:YI X (.builtin "len") (λxs H Q=>∃z,xs=[.str z]/\z.length<=sizeLine/\Q (.int z.length) H):=by intro pins s σ H xs us Q I r h;obtain⟨z,rfl,hz,q⟩:=h;obtain⟨u,rfl,t,rfl⟩:=vals1 r;have hn:=JM;exact len_str (by omega) ⟨.int z.length,H,I.tok _,⟨_,rfl⟩,q⟩
theorem YG:YI X (.type "list") (λxs H Q=>∃p ys,xs=[.ref p]/\(SqL X.K H p ys\/SqT X.K H p ys)/\∀l,H l=none->Q (.ref l) (upd H l (.lst ys))):=by
 intro pins s σ H xs us Q I r h;obtain⟨p,ys,rfl,hq,q⟩:=h;obtain⟨u,rfl,rx⟩:=vals1 r;cases rx;have fin:∀(its:List Value),Vals ys its->ys.length<=sizeLine->∀(h':Heap)(c':Nat),(∀b o',s.heap.get? b=some o'->h'.get? b=some o') ->h'.get? s.heap.objs.size=some {cls:=.type "list",dict:=none,data:=.seq its.toArray c',slots:=#[]}->EP X pins σ Q (.ref s.heap.objs.size) {s with heap:=h'}:=λits r' hz h' c' kp e=>⟨.ref s.heap.objs.size,_,I.laid (t':=s.toks) kp (Nat.le_refl _) (show ZR X.prog X.w _ h' _ (.lst ys)from⟨hz,its,c',r',e⟩),rfl,q _ (I.hok.fresh (Nat.le_refl _))⟩;rcases hq with hq|hq
 ·obtain⟨its,r',pl,hz⟩:=I.list hq;have hlen:=r'.length;obtain⟨o,ho,hc,n,hd⟩:=pl.isList;exact call_list_seq p (.inl rfl) ho hc hd (λh' c' kp e=>fin its r' hz h' c' kp e) (by simp only[aq]<;>omega)
 ·obtain⟨its,r',pl,hz⟩:=I.tuple hq;have hlen:=r'.length;obtain⟨o,ho,hc,n,hd⟩:=pl;exact call_list_seq p (.inr rfl) ho hc hd (λh' c' kp e=>fin its r' hz h' c' kp e) (by simp only[aq]<;>omega)
theorem Jd:YI X (.type "tuple") (λxs H Q=>∃p ys,xs=[.ref p]/\((SqL X.K H p ys/\∀l,H l=none->Q (.ref l) (upd H l (.tup ys)))\/(SqT X.K H p ys/\Q (.ref p) H))):=by
 intro pins s σ H xs us Q I r h;obtain⟨p,ys,rfl,h⟩:=h;obtain⟨u,rfl,rx⟩:=vals1 r;cases rx;rcases h with⟨hq,q⟩|⟨hq,q⟩
 ·obtain⟨its,r',pl,hz⟩:=I.list hq;have hlen:=r'.length;refine call_tuple_list pl.isList (λh' kp=>?_) (by simp only[aq]<;>omega);have I1:Inv X pins σ H {s with heap:=h'}:=I.kept (t':=s.toks) kp;have I2:Inv X pins σ (upd H h'.objs.size (.tup ys)) {s with heap:=h'.push {cls:=.type "tuple",data:=.seq its.toArray}}:=I1.laid (t':=s.toks) (λb o e=>Heap.get?_push_of_some _ e) (Nat.le_refl _) (show ZR X.prog X.w _ _ _ (.tup ys)from⟨hz,its,r',IsTup.new _ _⟩);exact⟨.ref h'.objs.size,_,I2,rfl,q _ (I1.hok.fresh (Nat.le_refl _))⟩
 ·obtain⟨its,r',pl,hz⟩:=I.tuple hq;exact call_tuple_same pl ⟨.ref p,H,I,rfl,q⟩
def tyV(K:aa)(T:String)(x:V)(H:Hp):Prop:=match x with
|.str _=>T="str"
|.int _=>T="int"
|.ref p=>(T="list"/\∃xs,SqL K H p xs)\/(T="tuple"/\∃o,K.lookup p=some o/\o.cls=.type "tuple"/\o.dict=none) \/(T="dict"/\((∃kvs,H p=some (.dK kvs))\/∃kvs,H p=some (.dT kvs)))\/(T="set"/\∃S n,H p=some (.set S n))
|_=>False
theorem Fq{pins:List (Addr×Obj)}{σ:St}{H:Hp}{s:ag}{T:String}{x:V}{v:Value}(I:Inv X pins σ H s)(r:RelV x v)(ty:tyV X.K T x H):s.TypeIs v T/\∀a,v=.ref a->∃ob,s.heap.get? a=some ob/\ob.dict=none:=by
 cases x with
|str z=>obtain⟨t,rfl⟩:=r;cases(show T="str" from ty);exact⟨typeIs_str s z t,λ_ e=>nomatch e⟩
|int i=>obtain⟨t,rfl⟩:=r;cases(show T="int" from ty);exact⟨typeIs_int s i t,λ_ e=>nomatch e⟩
|ref p=>
  cases r;rcases ty with⟨rfl,xs,hq⟩|⟨rfl,o,hk,hc,hd⟩|⟨rfl,hk⟩|⟨rfl,S,n,hk⟩
  ·obtain⟨its,_,pl,_⟩:=I.list hq;refine⟨pl.isList.typeIs,λa e=>?_⟩;cases e;obtain⟨o,n,e,c,hd,_⟩:=pl;exact⟨o,e,hd⟩
  ·refine⟨⟨o,I.kIn p o hk,hc⟩,λa e=>?_⟩;cases e;exact⟨o,I.kIn _ o hk,hd⟩
  ·have z:∃o,s.heap.get? p=some o/\o.ExactDict:=by
    rcases hk with⟨kvs,hk⟩|⟨kvs,hk⟩
    ·obtain⟨_,_,_,_,o,_,_,e,ex,_⟩:=I.hok p _ hk;exact⟨o,e,ex⟩
    ·obtain⟨_,_,_,_,o,_,_,e,ex,_⟩:=I.hok p _ hk;exact⟨o,e,ex⟩
   obtain⟨o,e,ex⟩:=z;refine⟨⟨o,e,ex.1⟩,λa e2=>?_⟩;cases e2;exact⟨o,e,ex.2.1⟩
  ·obtain⟨o,_,_,_,e,ex,_⟩:=I.hok p _ hk;refine⟨⟨o,e,ex.1⟩,λa e2=>?_⟩;cases e2;exact⟨o,e,ex.2.1⟩
|_=>exact bK ty
def tBM(K:aa)(T:String)(r:V->List V->Hp->VK->Prop)(to:TE)(t:TA):TE:=λσ H Q=>to σ H λx H1=>tyV K T x H1/\t σ H1 λxs H2=>r x xs H2 Q
variable {o e:Expr}{es:List Expr}{to:TE}{t:TA}{name:Str}{apos cpos:Pos}{T id:String}{r:V->List V->Hp->VK->Prop}
theorem MS(pa:PlainAttrs T)(slot:Slot T name id)(hty:typeOf (.builtin id)=pure (.type "method_descriptor"))(hm:MtR X id r)(ho:PE X o to)(ha:PA X (e::es) t)(hbase:fe o name X.env (eval o X.env)=eval o X.env:=by rfl)(hfew:((b8 cpos (aI (e::es) X.env)).all (λx=>!x.1)&&(fg cpos (da [] X.env)).all (λx=>x.1.isSome)&&decide ((e::es).length+([]:List Keyword).length+(if([]:List Keyword).isEmpty then 0 else 1)<30))=true:=by rfl)(hline:(apos.endLine==cpos.line)=true:=by rfl)(hs:aI (e::es) X.env=(false,eval e X.env)::aI es X.env:=by rfl)(hplain:(b8 cpos (aI es X.env)).any (·.1)=false:=by rfl):PE X (.Call (.Attribute o name apos) (e::es) [] cpos) (tBM X.K T r to t):=by
 intro pins s σ H Q I h;refine wpAny_Call_method_late hbase hfew hline rfl (thn (ho pins s σ H _ I h) λv s1 hZ=>?_);obtain⟨x,H1,I1,r1,ty,q1⟩:=hZ;obtain⟨h1,h2⟩:=Fq I1 r1 ty;refine⟨T,id,pa,slot,hty,h1,h2,?_⟩;have hA:=ha cpos pins s1 σ H1 _ I1 q1;rw[hs]at hA ⊢;refine Calls.callWith_builtin (by show(false||(b8 cpos (aI es X.env)).any (·.1))=false;rw[hplain]<;>rfl) (Calls.evalArgs_plain ?_)
 exact thn hA λus s2⟨vs,H2,I2,r2,q2⟩=>hm pins s2 σ H2 x vs v us Q I2 r1 r2 q2
end
open PySem PySem.Spec PyProof.Rows
def MtM(X:Cx)(id:String)(r:V->List V->Hp->VK->Prop):Prop:=∀(pins:List (Addr×Obj))(s:ag)(σ:St)(H:Hp)(x:V)(xs:List V)(v:Value)(us:List Value)(Q:VK),Inv X pins σ H s->RelV x v->Vals xs us->r x xs H Q ->wpAny (model X.prog X.w) X.A (call (.builtin id) (v::us)) (EP X pins σ Q) X.xe s
theorem Vals.one:∀{x:V}{us:List Value},Vals [x] us->∃u,us=[u]/\RelV x u
|_,_,.cons r .nil=>⟨_,rfl,r⟩
theorem Vals.zero:∀{us:List Value},Vals [] us->us=[]
|_,.nil=>rfl
theorem Vals.reverse{xs:List V}{us:List Value}(h:Vals xs us):Vals xs.reverse us.reverse:=by
 induction h with
|nil=>exact .nil
|cons r t ih=>rw[fG,fG];exact Vals.append ih (.cons r .nil)
theorem Vals.rep{xs:List V}{us:List Value}(h:Vals xs us):∀k:Nat,Vals (bC k xs).flatten (bC k us).flatten
|0=>.nil
|k+1=>by rw[dQ,dQ,dj,dj];exact Vals.append h (Vals.rep h k)
theorem foldl_rep(its:List Value):∀(k:Nat)(acc:List Value),List.foldl (λx1 x2=>x1++x2) acc.toArray (bC k its.toArray)=(acc++(bC k its).flatten).toArray
|0,acc=>by simp
|k+1,acc=>by
  have e:acc.toArray++its.toArray=(acc++its).toArray:=by simp
  have e2:(acc++its)++(bC k its).flatten=acc++(bC (k+1) its).flatten:=by rw[dQ,dj,bU]
  rw[<-e2,<-foldl_rep its k (acc++its),<-e,dQ,c_]
section
variable {X:Cx}{pins:List (Addr×Obj)}{σ:St}{H:Hp}{s:ag}{l b:Addr}{xs ys zs:List V}
theorem Inv.lset{its its':List Value}{n:Nat}{f:Array Value->Array Value}{t':Nat}(I:Inv X pins σ H s)(hH:H l=some (.lst xs))(e:s.heap.get? l=some {cls:=.type "list",data:=.seq its.toArray n})(hf:f its.toArray=its'.toArray)(hv:Vals ys its')(hz:ys.length<=sizeLine):Inv X pins σ (upd H l (.lst ys)) {s with heap:=s.heap.update l (Obj.mapSeq f),toks:=t'}:=by have q:=PySem.IsL.update e f;rw[hf]at q;refine I.write (x:=l) (e:=l) (by rw[hH];exact trivial) (.inl rfl) (λb' u hb hu=>(Heap.get?_update_other s.heap (Obj.mapSeq f) (bo hb)).trans hu) ⟨_,q⟩ ?_;exact⟨hz,its',_,hv,q⟩
theorem Inv.lnew{its:List Value}{t':Nat}(I:Inv X pins σ H s)(hv:Vals ys its)(hz:ys.length<=sizeLine):Inv X pins σ (upd H s.heap.objs.size (.lst ys)) {s with heap:=s.heap.push {cls:=.type "list",data:=.seq its.toArray},toks:=t'}:=I.laid (λ_ _ q=>Heap.get?_push_of_some _ q) (Nat.le_refl _) ⟨hz,its,0,hv,Heap.get?_push_size _ rfl⟩
theorem Inv.fresh(I:Inv X pins σ H s):H s.heap.objs.size=none:=I.hok.fresh (Nat.le_refl _)
theorem Inv.lstM(I:Inv X pins σ H s)(hH:H l=some (.lst xs)):xs.length<=sizeLine/\∃(its:List Value)(n:Nat),Vals xs its/\xs.length=its.length/\s.heap.get? l=some {cls:=.type "list",data:=.seq its.toArray n}:=by obtain⟨z,its,n,r,e⟩:=I.hok l _ hH;exact⟨z,its,n,r,r.length,e⟩
theorem Qt{n:Nat}(h:n<=sizeLine):du n=false:=by unfold du;exact decide_eq_false (by omega)
end
section
variable {X:Cx}
noncomputable def SN:V->List V->Hp->VK->Prop:=λx vs H Q=>∃l xs y,x=.ref l/\vs=[y]/\H l=some (.lst xs)/\xs.length<sizeLine/\Q .non (upd H l (.lst (xs++[y])))
theorem VF:MtM X "list.append" SN:=by intro pins s σ H x vs v us Q I rx rv h;obtain⟨l,xs,y,rfl,rfl,hH,hz,q⟩:=h;cases rx;obtain⟨u,rfl,ru⟩:=rv.one;obtain⟨z,its,n,r,hl,e⟩:=I.lstM hH;refine gB F.slot_list_append ⟨_,e,rfl⟩ F.entry_list_append (F.args_list_append_2 _ _) (PySem.list_append l its.toArray n u (by rw[aq];omega)) ⟨e,?_⟩;refine⟨.non,_,I.lset (its':=its++[u]) hH e (by simp) (r.append (.cons ru .nil)) ?_,rfl,q⟩;rw[aj,List.length_singleton];omega
noncomputable def DY:V->List V->Hp->VK->Prop:=λx vs H Q=>∃l b xs zs,x=.ref l/\vs=[.ref b]/\H l=some (.lst xs)/\H b=some (.lst zs)/\xs.length+zs.length<=sizeLine/\Q .non (upd H l (.lst (xs++zs)))
theorem NK:MtM X "list.extend" DY:=by
 intro pins s σ H x vs v us Q I rx rv h;obtain⟨l,b,xs,zs,rfl,rfl,hH,hB,hz,q⟩:=h;cases rx;obtain⟨u,rfl,ru⟩:=rv.one;cases ru;obtain⟨z,its,n,r,hl,e⟩:=I.lstM hH;obtain⟨z2,its2,n2,r2,hl2,e2⟩:=I.lstM hB;have hsz:its.toArray.size+its2.toArray.size<=sizeLine:=by rw[aq,aq];omega
 have hlong:¬(!its.toArray.isEmpty&&du (its.toArray.size+its2.toArray.size))=true:=by rw[Qt hsz,Bool.and_false];exact Bool.false_ne_true
 refine gB F.slot_list_extend ⟨_,e,rfl⟩ F.entry_list_extend (F.args_list_extend_2 _ _) (AutoSeq1.list_extend_list_list_0 l its.toArray n b its2.toArray n2 hlong (by rw[aq];omega) (by omega)) ⟨e,e2,?_⟩;refine⟨.non,_,I.lset (its':=its++its2) hH e (by simp) (r.append r2) ?_,rfl,q⟩;rw[aj];omega
def rCat:R2:=λx y H Q=>∃l b xs zs,x=.ref l/\y=.ref b/\H l=some (.lst xs)/\H b=some (.lst zs)/\xs.length+zs.length<=sizeLine/\∀p,H p=none->Q (.ref p) (upd H p (.lst (xs++zs)))
theorem Z6:OpR X (et .Add) rCat:=by
 intro pins s σ H x y v u Q I rx ry h;obtain⟨l,b,xs,zs,rfl,rfl,hH,hB,hz,q⟩:=h;cases rx;cases ry;obtain⟨z,its,n,r,hl,e⟩:=I.lstM hH;obtain⟨z2,its2,n2,r2,hl2,e2⟩:=I.lstM hB;refine PySem.P.add_list e e2 ?_ (by rw[aq,aq];omega);have ea:its.toArray++its2.toArray=(its++its2).toArray:=by simp
 rw[ea];exact⟨.ref _,_,I.lnew (t':=s.toks) (r.append r2) (by rw[aj];omega),rfl,q _ I.fresh⟩
def rRep:R2:=λx y H Q=>∃l k xs,x=.ref l/\y=.int k/\H l=some (.lst xs)/\-(2 ^ 63)<=k/\k<2 ^ 63/\xs.length*k.toNat<=sizeLine /\∀p,H p=none->Q (.ref p) (upd H p (.lst (bC k.toNat xs).flatten))
theorem len_rep{α:Type}(xs:List α)(k:Nat):(bC k xs).flatten.length=k*xs.length:=by
 induction k with
|zero=>simp
|succ k ih=>rw[dQ,dj,aj,ih,Nat.succ_mul,Nat.add_comm]
theorem FR:OpR X (et .Mult) rRep:=by
 intro pins s σ H x y v u Q I rx ry h;obtain⟨l,k,xs,rfl,rfl,hH,h1,h2,hz,q⟩:=h;cases rx;obtain⟨t,rfl⟩:=ry;obtain⟨z,its,n,r,hl,e⟩:=I.lstM hH;have hlen:its.toArray.size*k.toNat<=sizeLine:=by rw[aq,<-hl];exact hz
 have hcap:¬its.toArray.size*k.toNat>(2 ^ 63-1) / 8:=by
  have:(sizeLine:Nat)<=(2 ^ 63-1) / 8:=by decide
  omega
 have hfit:¬(!Builtin.List.listFitsIndex k)=true:=by rw[fitsIndex_both h1 h2];exact Bool.false_ne_true
 have hlong:¬du (its.toArray.size*k.toNat)=true:=by rw[Qt hlen];exact Bool.false_ne_true
 have hnew:List.foldl (λx1 x2=>x1++x2) #[] (bC (if its.toArray.isEmpty=true then 0 else k.toNat) its.toArray)=(bC k.toNat its).flatten.toArray:=by
  have f0:∀m:Nat,List.foldl (λx1 x2=>x1++x2) #[] (bC m its.toArray)=(bC m its).flatten.toArray:=λm=>by have:=foldl_rep its m [];rw[List.nil_append]at this;exact this
  rw[f0];cases its with
 |nil=>simp
 |cons a r'=>rw[if_neg (by simp)]
 refine wpAny_binaryOp_repeat_ref (T:="list") (U:="int") (by decide) ⟨_,e,rfl⟩ (λs'=>typeIs_int s' k t) noFill_list_mul F.fills_int_mul F.slot_int_rmul repeat_list F.slot_int_index.lookup (gB F.slot_int_rmul (typeIs_int s k t) F.entry_int_rmul (F.args_int_rmul_2 _ _) (int___rmul___int_list k t l its.toArray n) ⟨e,rfl,⟨_,e,rfl⟩,gB F.slot_list_mul ⟨_,e,rfl⟩ F.entry_list_mul (F.args_list_mul_2 _ _) (AutoListH.list___mul___list_int_3 l its.toArray n k t hfit hcap hlong) ⟨e,?_⟩⟩);rw[hnew];exact⟨.ref _,_,I.lnew (t':=s.toks) (r.rep k.toNat) (by rw[len_rep,Nat.mul_comm];exact hz),rfl,q _ I.fresh⟩
end
end L2
namespace Att
open PySem PySem.W PySem.Calls PyProof.Rows
theorem Md{P:Params}{h:Heap}:∀(ns:List Int)(vs:List Value),WellAll P h vs (ns.map WData.int)->IntsAre vs ns:=by
 intro ns;induction ns with
|nil=>intro vs w;rw[ff]at w;cases w;exact .nil
|cons n ns ih=>
  intro vs w;rw[ar]at w;cases w with
 |cons a b=>cases a;exact .cons _ _ (ih _ b)
theorem TU{l:OpenLaw}{n:Nat}(hn:l.most=some n){P:Params}{h:Heap}{args:List WData}{vals:List Value}(hpre:l.row.toRowW.claim.pre args=true)(hwl:WellAll P h vals args):∃a vs ns,vals=[Value.ref a]/\args=[WData.list (ns.map WData.int)]/\h.get? a=some {cls:=.type "list",data:=.seq vs.toArray}/\IntsAre vs ns/\ns.length<=n:=by
 have hsh:WShape.hasAll [] args [.list .int]=true:=(pre_splitW hpre).1;have hc:l.pre.holds [] {args:=args}=true:=(pre_splitW hpre).2;obtain⟨d,r,rfl,h1,h2⟩:=hasAllW_cons hsh;obtain rfl:=hasAllW_nil h2;obtain⟨xs,rfl,h3⟩:=hasW_list h1;obtain⟨ns,rfl⟩:=items_int h3;have hlen:ns.length<=n:=by
  unfold OpenLaw.pre at hc;have h4:(WTm.not (.lt (.lit (.int (n:Int))) (.len (.arg 0)))).holds [] {args:=[.list (ns.map .int)]}=true:=by have h4:=(holds_andW hc).1;rw[hn]at h4;exact h4
  have h5:=condW_of h4 (w_not (w_lt w_lit (w_len_list (w_arg rfl))));rw[bq]at h5;refine Nat.le_of_not_lt λq=>?_;have q':(n:Int)<((ns.length:Nat):Int):=by omega
  first
  |(rw[decide_eq_true q']at h5;exact absurd h5 (by decide))
  |(simp at h5;omega)
 cases hwl with
|cons w1 w2=>
  cases w2;cases w1 with
 |list ho hall=>exact⟨_,_,ns,rfl,rfl,ho,Md ns _ hall,hlen⟩
theorem T8(l:OpenLaw)(args:List WData):l.row.toRowW.claim.post args (.bool true) args=true:=postW_of (r:=l.row.toRowW) (X:=(true==true)) (show WShape.has [] (.bool true) .bool=true by first|rfl|decide|simp[WShape.has,WShape.arms,WShape.armsAll]) (show(WTm.eq .res (.lit (.bool true))).value [] {args:=args,res:=some (.bool true),after:=args}=some (.bool (true==true))from w_eq_bool (w_res rfl) w_lit) rfl
theorem attach_call{l:OpenLaw}{n:Nat}{q:Program}{loose:List Str}{XP:(Str->Option Value)->Heap->Prop}{YP:World->Heap->Prop}{d:DefRec}(hn:l.most=some n)(hdf:d.params.defaults=[])(call:∀(w:World)(s₀ s₁:ag)(mg mb:Str->Option Value)(fa:Addr)(o:Obj)(pm cd doc:Value)(a:Addr)(vs:List Value)(ns:List Int),Ground q loose [] XP w s₀ mg mb s₁.heap->YP w s₁.heap ->s₁.heap.get? fa=some o->o.data=.func (docDef d.name d.params d.body d.scope pm cd doc)->s₁.heap.CodeRec cd d.name->mg d.name=some (.ref fa) ->s₁.heap.get? a=some {cls:=.type "list",data:=.seq vs.toArray}->IntsAre vs ns->ns.length<=n->s₁.gens=#[] ->gy (model l.prog w) callerA (.call (.ref fa) ⟨[.ref a],[]⟩) (λr s'=>r=.ok (.ret (.bool true))/\OldK s₁.heap s'.heap/\s'.os=s₁.os/\fE s'.gens) s₁):WalkO q loose XP YP l.row.toRowW d [] (λf vs=>PySem.call f vs):=by intro w s₀ s₁ mg mb G Y fa o pm cd doc dV kV ho hd hcd hD hmg hg args vals as hpre hlay hrd hwl hlo;obtain rfl:dV=.none:=Dflts.none hD hdf;obtain rfl:kV=.none:=Dflts.noKw hD;obtain⟨a,vs,ns,rfl,rfl,hobj,hints,hlen⟩:=TU hn hpre hwl;refine enter_call (fF (call w s₀ s₁ mg mb fa o pm cd doc a vs ns G Y ho (fd_plain hd) hcd hmg hobj hints hlen hg) λr s' hq=>?_);obtain⟨rfl,h2,h3,h4⟩:=hq;exact⟨.inl ⟨.bool true,.bool true,[],rfl,λ_=>rfl,.bool true,T8 l _,λ_=>⟨List.Pairwise.nil,λ_ hm=>(nomatch hm)⟩⟩,h2,h3,h4⟩
end Att
namespace L2
open PySem PySem.Spec PyProof.Rows
theorem Nt:∀{vs:List Value}{ns:List Int},IntsAre vs ns->Vals (ns.map V.int) vs
|_,_,.nil=>.nil
|_,_,.cons n t h=>.cons ⟨t,rfl⟩ (Nt h)
def Only(H:Hp):Prop:=∀b,H b=none\/∃o xs,H b=some (.frz o (.lst xs))
theorem LF{P:Program}{w:World}{K:aa}{mg mb:Str->Option Value}{CX:CXT}{k:Nat}{fa a:Addr}{fd:bP}{x:Str}{sp:Sp}{s₁:ag}{vs:List Value}{ns:List Int}(KX:K.In s₁.heap)(hns:s₁.heap.Ns a7 mg)(hb:s₁.heap.Ns builtinsNs mb)(hbb:∀x:Str,x≠"__name__"->mb x=bF x)(hlim:s₁.heap.NoLimit)(hg:s₁.gens=#[])(ha:s₁.heap.get? a=some {cls:=.type "list",data:=.seq vs.toArray})(hi:IntsAre vs ns)(hl:ns.length<=sizeLine)(hr:Room k callerA)(F:∀base:Heap,K.In base->base.Ns a7 mg->FnOk P w K mg base CX k fa fd [x] sp)(hbind:∀(s:ag)(u:Value),BindsTo s fd ⟨[u],[]⟩ [(x,u)])(hsp:∀H:Hp,Only H->SqL K H a (ns.map V.int)->sp [.ref a] H (λv _=>v=.bl true) λ_ _ _=>False)(hCX:∀H e s',CX [] H s₁ (λ_ _ _=>False) e s'->False):gy (model P w) callerA (.call (.ref fa) ⟨[.ref a],[]⟩) (λr s'=>r=.ok (.ret (.bool true))/\OldK s₁.heap s'.heap/\s'.os=s₁.os/\fE s'.gens) s₁:=by
 have rv:=Nt hi;have lenV:=hi.length;have core:∀H:Hp,Only H->SqL K H a (ns.map V.int)->HOk P w H s₁.heap->(∀b,H b≠none->b=a)->(H a≠none->K.lookup a=none) ->gy (model P w) callerA (.call (.ref fa) ⟨[.ref a],[]⟩) (λr s'=>r=.ok (.ret (.bool true))/\OldK s₁.heap s'.heap/\s'.os=s₁.os/\fE s'.gens) s₁:=by
  intro H hO hS hok hA hK;have base_of:∀{b:Addr}{o:Obj},s₁.heap.get? b=some o->H b=none->(hidT s₁.heap H).get? b=some o:=λe n=>LP e n;have noA:∀{b:Addr}{o:Obj}{es:Array DictEntry}{ep:Nat},s₁.heap.get? b=some o->o.data=.dict es ep->H b=none:=λ{b o es ep}e d=>by
   cases q:H b with
  |none=>rfl
  |some u=>have e':b=a:=hA b (by rw[q];simp);subst e';rw[ha]at e;cases e;have d':Data.seq vs.toArray _=Data.dict es ep:=d;cases d'
  have nsK:∀{b:Addr}{m:Str->Option Value},s₁.heap.Ns b m->(hidT s₁.heap H).Ns b m:=λ{b m}⟨o,es,ep,e,d,r⟩=>⟨o,es,ep,base_of e (noA e d),d,r⟩;have hKb:K.In (hidT s₁.heap H):=λb o e=>base_of (KX b o e) (by
   cases q:H b with
  |none=>rfl
  |some u=>have e':b=a:=hA b (by rw[q];simp);subst e';rw[hK (by rw[q];simp)]at e;cases e)
  have hM:Mod K mg (hidT s₁.heap H):=⟨hKb,nsK hns,⟨mb,nsK hb,hbb⟩,let ⟨mc,h1,h2⟩:=hlim;⟨mc,nsK h1,h2⟩⟩;have e0:Env0 P w K mg (hidT s₁.heap H) callerA [] s₁ H:=⟨rfl,hM,λb o e=>Ej e,Nat.le_of_eq (Wr _ _),trivial,λb hb=>absurd (show b∈([]:List Addr)from hb) (by simp),hok,.of_eq hg⟩;refine fF ((F _ hKb (nsK hns)).run callerA [] s₁ H ⟨[.ref a],[]⟩ [.ref a] [.ref a] _ _ hr e0 (hbind s₁ (.ref a)) (.cons rfl .nil) (hsp H hO hS)) λr s' h=>?_;cases r with
 |error e=>exact(hCX H e s' h).elim
 |ok fl=>
   cases fl with
  |next=>exact bK h
  |brk=>exact bK h
  |cont=>exact bK h
  |ret u=>
    obtain⟨v,H',os,bare,un,hok',r',q⟩:=h;have q':v=.bl true:=q;subst q';obtain rfl:u=Value.bool true:=r';refine⟨rfl,OldK.of_keep λb o e=>?_,os,bare⟩;cases q:H b with
   |none=>exact un.keep b o e q (by intro z;exact absurd (show b∈([]:List Addr)from z) (by simp)) (by simp)
   |some u=>
     rcases hO b with z|⟨ob,xs,z⟩
     ·rw[q]at z;cases z
     ·have z2:=un.frzs b ob _ z;obtain⟨e1,_⟩:=hok b _ z;obtain⟨e2,_⟩:=hok' b _ z2;rw[e]at e1;cases e1;exact e2
 cases hk:K.lookup a with
|some o=>have e:=KX a o hk;rw[ha]at e;cases e;refine core (λ_=>none) (λ_=>.inl rfl) (.inr ⟨_,vs.toArray,_,hk,rfl,rfl,rfl,by rw[aq,lenV];exact hl,by simpa using rv⟩) (λb u z=>by have z':(none:Option HO)=some u:=z;cases z') (λb z=>absurd rfl z) λz=>absurd rfl z
|none=>
  refine core (λb=>if b=a then some (.frz {cls:=.type "list",data:=.seq vs.toArray} (.lst (ns.map V.int)))else none) (λb=>?_) (.inl (.inr ⟨{cls:=.type "list",data:=.seq vs.toArray},if_pos rfl⟩)) (λb u z=>?_) (λb z=>?_) λ_=>hk
  ·by_cases hb:b=a
   ·exact .inr ⟨_,_,if_pos hb⟩
   ·exact .inl (if_neg hb)
  ·by_cases hb:b=a
   ·have z':=(if_pos hb).symm.trans z;cases z';subst hb;exact⟨ha,by rw[bq];exact hl,vs,_,rv,ha⟩
   ·have z':=(if_neg hb).symm.trans z;cases z'
  ·by_cases hb:b=a
   ·exact hb
   ·exact absurd (if_neg hb) z
open PySem PySem.Spec PyProof.Rows
noncomputable abbrev KOf{K:aa}{h:Heap}(_:K.In h):aa:=K
theorem DH{l:iu}{n k:Nat}{q:Program}{loose:List Str}{XP:(Str->Option Value)->Heap->Prop}{YP:World->Heap->Prop}{d:DefRec}{K:Params->aa}{CX:World->CXT}{sp:World->Sp}{x:Str}(hn:l.most=some n)(hn2:n<=sizeLine)(hdf:d.params.defaults=[])(hr:Room k callerA)(hY:∀(w:World)(h:Heap),YP w h->(K w.params).In h)(F:∀(w:World)(mg:Str->Option Value)(fa:Addr)(h:Heap),(K w.params).In h->h.Ns a7 mg->mg d.name=some (.ref fa) ->∃fd:bP,(∀(s:ag)(u:Value),BindsTo s fd ⟨[u],[]⟩ [(x,u)]) /\∀base:Heap,(K w.params).In base->base.Ns a7 mg->FnOk l.prog w (K w.params) mg base (CX w) k fa fd [x] (sp w))(hsp:∀(w:World)(H:Hp)(a:Addr)(ns:List Int),ns.length<=n->Only H->SqL (K w.params) H a (ns.map V.int)->sp w [.ref a] H (λv _=>v=.bl true) λ_ _ _=>False)(hCX:∀(w:World)(H:Hp)(s:ag)(e:Value)(s':ag),CX w [] H s (λ_ _ _=>False) e s'->False):PySem.W.WalkO q loose XP YP l.row.toRowW d [] (λf vs=>PySem.call f vs):=by refine Att.attach_call hn hdf λw s₀ s₁ mg mb fa o pm cd doc a vs ns G Y ho hd hcd hmg hobj hints hlen hg=>?_;have KX:=hY w _ Y;obtain⟨fd,hb,hF⟩:=F w mg fa _ KX G.T.g hmg;exact LF KX G.T.g G.T.b G.T.builtins G.T.nolimit hg hobj hints (Nat.le_trans hlen hn2) hr hF hb (λH hO hS=>hsp w H a ns hlen hO hS) λH e s'=>hCX w H s₁ e s'
open PySem PySem.Spec PyProof.Rows
noncomputable def inClass(s:Stmt)(j:Nat):Stmt:=match s with
|.ClassDef _ _ _ body _ _ _ _ _ _ _=>body.getD j (.Pass ⟨0,0,0,0⟩)
|_=>.Pass ⟨0,0,0,0⟩
noncomputable def Yq(s:Stmt):Arguments:=match s with
|.FunctionDef _ a _ _ _ _ _ _ _ _=>a
|_=>{posonlyargs:=[],args:=[],vararg:=none,kwonlyargs:=[],kw_defaults:=[],kwarg:=none,defaults:=[]}
noncomputable def ZQ(s:Stmt):List Stmt:=match s with
|.FunctionDef _ _ b _ _ _ _ _ _ _=>b
|_=>[]
noncomputable def Zc(s:Stmt):Scope:=match s with
|.FunctionDef _ _ _ _ _ _ sc _ _ _=>sc
|_=>{kind:=.function,names:=[],isGenerator:=false,isCoroutine:=false}
noncomputable abbrev CX0:CXT:=λ_ _ _ _ _ _=>False
abbrev E0:XK:=λ_ _ _=>False
theorem Yl{X:Cx}:Passes CX0 X E0:=λ_ _ _ _ _ _ _ h=>h.elim
structure Fun(K:aa)(x qual:Str)(st:Stmt)(f:Addr)(fd:bP):Prop where
 ex:∃(oc:Value)(od:Option Addr)(kV doc pm:Value)(an:Option Addr)(cdv ct:Value)(osl:Array (Option Value)),
  fd=bw x qual (Yq st) (ZQ st) (Zc st) .none kV doc pm an cdv ct/\K.lookup f=some ⟨oc,od,.func fd,osl⟩/\bY K cdv qual=true
 kp:aZ K (.ref f)=true
section
variable {P:Program}{w:World}{K:aa}{mg:Str->Option Value}{base:Heap}
theorem Fun.ok{x qual:Str}{st:Stmt}{f:Addr}{fd:bP}{N ps:List Str}{k:Nat}{sp:Sp}(F:Fun K x qual st f fd)(S:FnScope N ps (Zc st))(len:∀vs H Q E,sp vs H Q E->vs.length=ps.length)(hbody:∀(cdv:Value)(A:a9)(outer:List Env)(s:ag)(H:Hp)(vs:List V)(Q:VK)(E:XK),Room k (A.deeper (dU qual (Zc st) s.heap.objs.size f cdv))->sp vs H Q E ->∃t,PSs (cxOf CX0 P w K mg base N qual (Zc st) f cdv A outer s H E).nox (ZQ st) t/\t {nx:=λ_ H'=>Q .non H',rt:=Q} (start N vs) H):FnOk P w K mg base CX0 (k+1) f fd ps sp:=by obtain⟨oc,od,kV,doc,pm,an,cdv,ct,osl,rfl,lk,hcd⟩:=F.ex;refine Fh lk hcd S len λA outer s H vs Q E hr hsp=>?_;obtain⟨t,h,q⟩:=hbody cdv A outer s H vs Q E hr hsp;exact⟨t,h.nox,q⟩
theorem Fun.binds{x qual:Str}{st:Stmt}{f:Addr}{fd:bP}{ps:List Str}(F:Fun K x qual st f fd)(h:∀(kV doc pm:Value)(an:Option Addr)(cdv ct:Value)(us:List Value),us.length=ps.length->bindArgs (bw x qual (Yq st) (ZQ st) (Zc st) .none kV doc pm an cdv ct) ⟨us,[]⟩=pure (ps.zip us)):Binds K fd ps []:=by obtain⟨oc,od,kV,doc,pm,an,cdv,ct,osl,rfl,lk,hcd⟩:=F.ex;exact .all (h kV doc pm an cdv ct)
theorem JO{x qual:Str}{st:Stmt}{f:Addr}{oc:Value}{od an:Option Addr}{osl:Array (Option Value)}{kV doc pm cdv ct:Value}(l:K.lookup f=some ⟨oc,od,.func (bw x qual (Yq st) (ZQ st) (Zc st) .none kV doc pm an cdv ct),osl⟩)(c:bY K cdv qual=true)(k:aZ K (.ref f)=true):Fun K x qual st f (bw x qual (Yq st) (ZQ st) (Zc st) .none kV doc pm an cdv ct):=⟨⟨oc,od,kV,doc,pm,an,cdv,ct,osl,rfl,l,c⟩,k⟩
end
theorem YS{A:a9}{k:Nat}(hr:Room k A):A.units+1<cLine:=Nat.lt_of_le_of_lt (Nat.add_le_add_left (by decide:1<=64) _) hr.units
theorem Ji{n:Nat}(h:n<=1000):n<sizeLine:=Nat.lt_of_le_of_lt h (by decide)
section
variable {X:Cx}
theorem pv(i:Nat){x:Str}{pos:Pos}(hN:X.N[i]?=some x:=by rfl)(hv:Vis X.env.scope x:=by first|exact aO rfl|exact dC (aO rfl)|exact dC (dC rfl))(hd:(x==("__debug__":Str))=false:=by decide)(hcd:(x==("__classdict__":Str))=false:=by decide):PE X (.Name x pos) (tVar i):=Pu hN hv hd hcd
end
theorem iteF{A B:Prop}(h:B):if false=true then A else B:=by rw[if_neg Bool.false_ne_true];exact h
theorem iteT{A B:Prop}(h:A):if true=true then A else B:=by rw[if_pos rfl];exact h
theorem ite2{c A B:Prop}[Decidable c](h1:c->A)(h2:¬c->B):if c then A else B:=by
 by_cases h:c
 ·rw[if_pos h];exact h1 h
 ·rw[if_neg h];exact h2 h
def Same(H H':Hp):Prop:=∀b o,H b=some o->H' b=some o
theorem Same.refl(H:Hp):Same H H:=λ_ _ h=>h
theorem Same.trans{H H1 H2:Hp}(a:Same H H1)(b:Same H1 H2):Same H H2:=λc o h=>b c o (a c o h)
theorem Same.free{H H':Hp}(e:Same H H'){l:Addr}(h:H' l=Option.none):H l=Option.none:=by
 cases q:H l with
|none=>rfl
|some o=>rw[e l o q]at h;cases h
open PySem PySem.Spec PyProof.Rows
section
variable {κ:Type}[DecidableEq κ]
noncomputable def valV(kvs:List (κ×V))(k:κ):Option V:=(kvs.find? λkv=>decide (kv.1=k)).map (·.2)
noncomputable def putK(kvs:List (κ×V))(k:κ)(v:V):List (κ×V):=if(kvs.any λkv=>decide (kv.1=k))=true then kvs.map (λkv=>if kv.1=k then(kv.1,v)else kv)else kvs++[(k,v)]
theorem Ys{p:κ×V}{r:List (κ×V)}{k:κ}(e:p.1=k):valV (p::r) k=some p.2:=by simp[valV,b9,e]
theorem Yt{p:κ×V}{r:List (κ×V)}{k:κ}(e:¬p.1=k):valV (p::r) k=valV r k:=by simp[valV,b9,e]
theorem Jf(k:κ):∀kvs:List (κ×V),(kvs.any λkv=>decide (kv.1=k))=(valV kvs k).isSome
|[]=>rfl
|p::r=>by
  rw[cq];by_cases e:p.1=k
  ·simp only[Ys e,decide_eq_true e,Bool.true_or,Option.isSome_some]
  ·rw[Yt e,decide_eq_false e,Bool.false_or];exact Jf k r
theorem P0(k j:κ)(y:V):∀kvs:List (κ×V),valV (kvs.map λkv=>if kv.1=k then(kv.1,y)else kv) j=(valV kvs j).map λx=>if j=k then y else x
|[]=>rfl
|p::r=>by
  have ih:=P0 k j y r;rw[ar];by_cases h:p.1=k
  ·rw[if_pos h];by_cases e:p.1=j
   ·rw[Ys (p:=(p.1,y)) e,Ys e,fS,if_pos (e.symm.trans h)]
   ·rw[Yt (p:=(p.1,y)) e,Yt e,ih]
  ·rw[if_neg h];by_cases e:p.1=j
   ·rw[Ys (p:=p) e,Ys e,fS,if_neg (λz=>h (e.trans z))]
   ·rw[Yt (p:=p) e,Yt e,ih]
theorem Nu(k j:κ)(y:V):∀kvs:List (κ×V),valV kvs k=none->valV (kvs++[(k,y)]) j=if j=k then some y else valV kvs j
|[],_=>by
  by_cases e:k=j
  ·rw[if_pos e.symm];exact Ys (p:=(k,y)) e
  ·rw[if_neg (λz=>e z.symm)];exact Yt (p:=(k,y)) e
|p::r,hn=>by
  rw[List.cons_append];have hk:¬p.1=k:=λz=>by rw[Ys z]at hn;cases hn
  rw[Yt hk]at hn;have ih:=Nu k j y r hn;by_cases e:p.1=j
  ·rw[Ys e,Ys e,if_neg (λz=>hk (e.trans z))]
  ·rw[Yt e,Yt e,ih]
theorem YU(kvs:List (κ×V))(k j:κ)(y:V):valV (putK kvs k y) j=if j=k then some y else valV kvs j:=by
 unfold putK;by_cases a:(kvs.any λkv=>decide (kv.1=k))=true
 ·rw[if_pos a,P0];rw[Jf]at a;by_cases e:j=k
  ·obtain⟨x,hx⟩:=cM.mp a;rw[if_pos e,e,hx,fS,if_pos rfl]
  ·rw[if_neg e];cases valV kvs j with
  |none=>rfl
  |some x=>rw[fS,if_neg e]
 ·rw[if_neg a];refine Nu k j y kvs ?_;rw[Jf]at a;cases q:valV kvs k with
 |none=>rfl
 |some x=>rw[q]at a;exact(a rfl).elim
theorem YQ(kvs:List (κ×V))(k:κ)(v:V):(putK kvs k v).length<=kvs.length+1:=by
 unfold putK;split
 ·rw[bq];omega
 ·rw[aj,aR,eQ];omega
theorem RelO.isSome_eq{o:Option V}{u:Option Value}(r:RelO o u):o.isSome=u.isSome:=by
 cases o with
|none=>cases u with
 |none=>rfl
 |some _=>exact(show False from r).elim
|some _=>cases u with
 |none=>exact(show False from r).elim
 |some _=>rfl
theorem KV.val{kvs:List (κ×V)}{vs:List (κ×Value)}(r:KV kvs vs)(k:κ):RelO (valV kvs k) (valueAt vs k):=by
 unfold KV at r;induction r with
|nil=>exact bG
|@cons p q ps qs h t ih=>
  obtain⟨h1,h2⟩:=h;by_cases e:p.1=k
  ·have e':q.1=k:=h1.symm.trans e;have b:valueAt (q::qs) k=some q.2:=by simp[valueAt,b9,e']
   rw[Ys e,b];exact h2
  ·have e':¬q.1=k:=λz=>e (h1.trans z);have b:valueAt (q::qs) k=valueAt qs k:=by simp[valueAt,b9,e']
   rw[Yt e,b];exact ih
theorem KV.any{kvs:List (κ×V)}{vs:List (κ×Value)}(r:KV kvs vs)(k:κ):(kvs.any λkv=>decide (kv.1=k))=vs.any λkv=>decide (kv.1=k):=by
 unfold KV at r;induction r with
|nil=>rfl
|cons h t ih=>rw[cq,cq,ih,h.1]
theorem KV.repl{kvs:List (κ×V)}{vs:List (κ×Value)}(r:KV kvs vs)(k:κ){y:V}{u:Value}(ry:RelV y u):KV (kvs.map λkv=>if kv.1=k then(kv.1,y)else kv) (vs.map λkv=>if kv.1=k then(kv.1,u)else kv):=by
 unfold KV at r ⊢;induction r with
|nil=>exact .nil
|@cons p q ps qs h t ih=>
  rw[ar,ar];refine .cons ?_ ih;obtain⟨h1,h2⟩:=h;by_cases e:p.1=k
  ·rw[if_pos e,if_pos (h1.symm.trans e)];exact⟨h1,ry⟩
  ·rw[if_neg e,if_neg (λz=>e (h1.trans z))];exact⟨h1,h2⟩
theorem KV.put{kvs:List (κ×V)}{vs:List (κ×Value)}(r:KV kvs vs)(k:κ){y:V}{u:Value}(ry:RelV y u):KV (putK kvs k y) (stored vs k u):=by
 unfold putK stored;rw[r.any k];by_cases e:(vs.any λkv=>decide (kv.1=k))=true
 ·rw[if_pos e,if_pos e];exact r.repl k ry
 ·rw[if_neg e,if_neg e];exact dq r ⟨rfl,ry⟩
theorem KV.length{kvs:List (κ×V)}{vs:List (κ×Value)}(r:KV kvs vs):kvs.length=vs.length:=aK r
end
theorem QF{P:Program}{w:World}{k:Key}{u:Value}(r:RelV (kV k) u):(ZH P w).is k u=true:=by
 cases k with
|inl i=>obtain⟨t,e⟩:=(show ∃t,u=Value.int i t from r);subst e;exact Qz P w i t
|inr x=>obtain⟨t,e⟩:=(show ∃t,u=Value.str x t from r);subst e;exact Qy P w x t
theorem NN{P:Program}{w:World}:∀{ks:List Key}{us:List Value},Vals (ks.map kV) us->ItemsAre (ZH P w) ks us
|[],_,r=>by rw[ff]at r;cases r;exact .nil
|k::ks,_,r=>by
  rw[ar]at r;cases r with
 |cons h t=>exact .cons (QF h) (NN t)
noncomputable abbrev KT(H:Hp):List (List Key×V)->List (List Key×Addr×Value)->Prop:=bj λp q=>p.1=q.1/\H q.2.1=some (.tup (p.1.map kV))/\RelV p.2 q.2.2
theorem KT.val{H:Hp}{kvs:List (List Key×V)}{xs:List (List Key×Addr×Value)}(r:KT H kvs xs)(k:List Key):RelO (valV kvs k) ((atKey xs k).map (·.2)):=by
 induction r with
|nil=>exact bG
|@cons p q ps qs h t ih=>
  obtain⟨h1,_,h2⟩:=h;by_cases e:p.1=k
  ·have e':q.1=k:=h1.symm.trans e;have b:atKey (q::qs) k=some q.2:=by simp[atKey,b9,e']
   rw[Ys e,b];exact h2
  ·have e':¬q.1=k:=λz=>e (h1.trans z);have b:atKey (q::qs) k=atKey qs k:=by simp[atKey,b9,e']
   rw[Yt e,b];exact ih
theorem KT.repl{H:Hp}{kvs:List (List Key×V)}{xs:List (List Key×Addr×Value)}(r:KT H kvs xs)(k:List Key){y:V}{u:Value}(ry:RelV y u):KT H (kvs.map λkv=>if kv.1=k then(kv.1,y)else kv) (xs.map (putAt k u)):=by
 induction r with
|nil=>exact .nil
|@cons p q ps qs h t ih=>
  rw[ar,ar];refine .cons ?_ ih;obtain⟨h1,h2,h3⟩:=h;unfold putAt;by_cases e:p.1=k
  ·rw[if_pos e,if_pos (h1.symm.trans e)];exact⟨h1,h2,ry⟩
  ·rw[if_neg e,if_neg (λz=>e (h1.trans z))];exact⟨h1,h2,h3⟩
theorem KT.put{H:Hp}{kvs:List (List Key×V)}{xs:List (List Key×Addr×Value)}(r:KT H kvs xs)(k:List Key){b:Addr}{y:V}{u:Value}(hb:H b=some (.tup (k.map kV)))(ry:RelV y u):KT H (putK kvs k y) (storedH xs k b u):=by
 have e:(kvs.any λkv=>decide (kv.1=k))=(atKey xs k).isSome:=by rw[Jf,(r.val k).isSome_eq,d6]
 unfold putK storedH;rw[e];by_cases q:(atKey xs k).isSome=true
 ·rw[if_pos q,if_pos q];exact r.repl k ry
 ·rw[if_neg q,if_neg q];exact dq r ⟨rfl,hb,ry⟩
theorem KT.keeps{H H':Hp}{kvs:List (List Key×V)}{xs:List (List Key×Addr×Value)}(r:KT H kvs xs)(ht:∀b ys,H b=some (.tup ys)->H' b=some (.tup ys)):KT H' kvs xs:=Paired.mapP r λ_ _ z=>⟨z.1,ht _ _ z.2.1,z.2.2⟩
section
variable {P:Program}{w:World}{H:Hp}{h:Heap}{a:Addr}
theorem EY{u:HO}(ok:HOk P w H h)(e:Rd H a u):ZR P w H h a u:=e.ok ok
theorem Tx{kvs:List (Key×V)}(ok:HOk P w H h)(e:Rd H a (.dK kvs)):kvs.length<=sizeLine/\(a==sysModules)=false/\∃vs,KV kvs vs/\h.DictOf (ZH P w) a vs:=show ZR P w H h a (.dK kvs)from EY ok e
theorem Fj{kvs:List (Key×V)}(ok:HOk P w H h)(e:H a=some (.dK kvs)):kvs.length<=sizeLine/\(a==sysModules)=false/\∃vs,KV kvs vs/\h.DictOf (ZH P w) a vs:=Tx ok (.inl e)
theorem MY{ks:List Key}(ok:HOk P w H h)(e:H a=some (.tup (ks.map kV))):(cz (ZH P w)).is h ks a:=by obtain⟨_,its,r,o,h1,h2,n,h3⟩:=(show ZR P w H h a (.tup (ks.map kV))from ok a _ e);exact⟨o,its.toArray,n,h1,h2,h3,by simpa using NN r⟩
theorem Tw{kvs:List (List Key×V)}(ok:HOk P w H h)(e:Rd H a (.dT kvs)):kvs.length<=sizeLine/\(a==sysModules)=false /\∃xs,KT H kvs xs/\h.DictOfH (cz (ZH P w)) a xs:=by
 obtain⟨z,y,xs,r,o,es,ep,h1,h2,h3,h4,h5⟩:=(show ZR P w H h a (.dT kvs)from EY ok e);refine⟨z,y,xs,r,o,es,ep,h1,h2,h3,h4,λx hx=>?_,h5⟩;have all:∀{l:List (List Key×V)}{m:List (List Key×Addr×Value)},KT H l m->∀x∈m,(cz (ZH P w)).is h x.1 x.2.1:=by
  intro l m q;induction q with
 |nil=>intro x hx;exact nomatch hx
 |@cons p q ps qs hq t ih=>
   intro x hx;rcases ao.mp hx with e|hx
   ·subst e;exact MY ok (by rw[<-hq.1];exact hq.2.1)
   ·exact ih x hx
 exact all r x hx
theorem Fi{kvs:List (List Key×V)}(ok:HOk P w H h)(e:H a=some (.dT kvs)):kvs.length<=sizeLine/\(a==sysModules)=false /\∃xs,KT H kvs xs/\h.DictOfH (cz (ZH P w)) a xs:=Tw ok (.inl e)
end
def DGet(H:Hp)(a:Addr)(y:V)(r:Option V):Prop:=(∃kvs k,Rd H a (.dK kvs)/\y=kV k/\r=valV kvs k)\/∃kvs k b,Rd H a (.dT kvs)/\y=.ref b/\H b=some (.tup (k.map kV))/\r=valV kvs k
def DPut(H:Hp)(a:Addr)(y v:V)(H':Hp):Prop:=(∃kvs k,H a=some (.dK kvs)/\y=kV k/\kvs.length<sizeLine/\H'=upd H a (.dK (putK kvs k v))) \/∃kvs k b,H a=some (.dT kvs)/\y=.ref b/\H b=some (.tup (k.map kV))/\kvs.length<sizeLine/\H'=upd H a (.dT (putK kvs k v))
theorem DGet.k{H:Hp}{a:Addr}{kvs:List (Key×V)}{k:Key}(e:H a=some (.dK kvs)):DGet H a (kV k) (valV kvs k):=.inl ⟨kvs,k,.inl e,rfl,rfl⟩
theorem DPut.k{H:Hp}{a:Addr}{kvs:List (Key×V)}{k:Key}{v:V}(e:H a=some (.dK kvs))(hl:kvs.length<sizeLine):DPut H a (kV k) v (upd H a (.dK (putK kvs k v))):=.inl ⟨kvs,k,e,rfl,hl,rfl⟩
theorem DPut.t{H:Hp}{a b:Addr}{kvs:List (List Key×V)}{k:List Key}{v:V}(e:H a=some (.dT kvs))(eb:H b=some (.tup (k.map kV)))(hl:kvs.length<sizeLine):DPut H a (.ref b) v (upd H a (.dT (putK kvs k v))):=.inr ⟨kvs,k,b,e,rfl,eb,hl,rfl⟩
section
variable {X:Cx}{pins:List (Addr×Obj)}{σ:St}{H:Hp}{s:ag}{a:Addr}{y v:V}{u r:Value}{o:Option V}{A:a9}{E:Value->ag->Prop}
theorem Inv.big(I:Inv X pins σ H s):sysModules<s.heap.objs.size:=by have h:a7<s.heap.objs.size:=(I.mod.glob.keeps I.bk).lt;exact Nat.lt_trans (by decide) h
theorem WA{Q:Value->ag->Prop}(hu:A.units+1<cLine)(I:Inv X pins σ H s)(g:DGet H a y (some v))(ry:RelV y u)(h:∀w' s',Inv X pins σ H s'->RelV v w'->Q w' s'):wpAny (model X.prog X.w) A (getItem (.ref a) u) Q E s:=by
 rcases g with⟨kvs,k,e,ey,l⟩|⟨kvs,k,b,e,ey,eb,l⟩
 ·subst ey;obtain⟨z,hd,vs,rel,dd⟩:=Tx I.hok e;obtain⟨w',hw,rw'⟩:=RelO.some_of (v:=v) (o:=valueAt vs k) (by rw[l];exact rel.val k);exact wpAny_getItem_of (QF ry) dd.mapOf hw (h w' _ (I.tok _) rw')
 ·subst ey;cases(show u=Value.ref b from ry);obtain⟨z,hd,xs,rel,dd⟩:=Tw I.hok e;obtain⟨w',hw,rw'⟩:=RelO.some_of (v:=v) (o:=(atKey xs k).map (·.2)) (by rw[l];exact rel.val k);obtain⟨p,hp,hp2⟩:=b_.mp hw;refine wpAny_getItem_heap (iF hu) (MY I.hok eb) dd hp ?_;rw[hp2];exact h w' _ (I.tok _) rw'
theorem d_in{Q:Value->ag->Prop}(hu:A.units+1<cLine)(I:Inv X pins σ H s)(g:DGet H a y o)(ry:RelV y u)(h:∀s',Inv X pins σ H s'->Q (.bool o.isSome) s'):wpAny (model X.prog X.w) A (br .In u (.ref a)) Q E s:=by
 rcases g with⟨kvs,k,e,ey,l⟩|⟨kvs,k,b,e,ey,eb,l⟩
 ·subst ey;obtain⟨z,hd,vs,rel,dd⟩:=Tx I.hok e;refine wpAny_in_of (QF ry) hd dd.mapOf ?_;rw[<-(rel.val k).isSome_eq,<-l];exact h _ (I.tok _)
 ·subst ey;cases(show u=Value.ref b from ry);obtain⟨z,hd,xs,rel,dd⟩:=Tw I.hok e;refine wpAny_in_heap (iF hu) (MY I.hok eb) hd dd ?_;have q:=(rel.val k).isSome_eq;rw[d6]at q;rw[<-q,<-l];exact h _ (I.tok _)
theorem PM{h':Heap}{t':Nat}{ob:HO}(I:Inv X pins σ H s)(mu:Mut (H a))(hs:Heap.SameBut a s.heap h')(he:∃q,h'.get? a=some q)(new:ZR X.prog X.w (upd H a ob) h' a ob):Inv X pins σ (upd H a ob) {s with heap:=h',toks:=t'}:=I.write (x:=a) (e:=a) mu (.inl rfl) (λb q hb z=>(hs.2 b hb).trans z) he new
theorem HV{P:Program}{w:World}{H':Hp}{h':Heap}{kvs:List (Key×V)}{vs:List (Key×Value)}(z:kvs.length<=sizeLine)(hd:(a==sysModules)=false)(rel:KV kvs vs)(dd:h'.DictOf (ZH P w) a vs):ZR P w H' h' a (.dK kvs):=⟨z,hd,vs,rel,dd⟩
theorem Wz{H':Hp}{Q:Unit->ag->Prop}(hu:A.units+1<cLine)(I:Inv X pins σ H s)(g:DPut H a y v H')(ry:RelV y u)(rv:RelV v r)(h:∀s',Inv X pins σ H' s'->Q () s'):wpAny (model X.prog X.w) A (setItem (.ref a) u r) Q E s:=by
 rcases g with⟨kvs,k,e,ey,l,eH⟩|⟨kvs,k,b,e,ey,eb,l,eH⟩
 ·subst ey eH;obtain⟨z,hd,vs,rel,dd⟩:=Fj I.hok e;have hz:vs.length<=sizeLine:=by rw[<-rel.length];exact z
  have hl:(putK kvs k v).length<=sizeLine:=by have:=YQ kvs k v;omega
  refine wpAny_setItem_pairs (hsz:=hz) (QF ry) dd λh' dd' hs=>h _ ?_;have he:∃q,h'.get? a=some q:=let ⟨q,_,_,hq,_⟩:=dd';⟨q,hq⟩
  exact PM I (by rw[e];exact bG) hs he (HV hl hd (rel.put k rv) dd')
 ·subst ey eH;cases(show u=Value.ref b from ry);obtain⟨z,hd,xs,rel,dd⟩:=Fi I.hok e;have hz:xs.length<=sizeLine:=by rw[<-aK rel];exact z
  have hl:(putK kvs k v).length<=sizeLine:=by have:=YQ kvs k v;omega
  refine wpAny_setItem_heap (hsz:=hz) (iF hu) (MY I.hok eb) dd λh' dd' hs=>h _ ?_;obtain⟨q,es,ep,hq,h2,h3,h4,_,h5⟩:=dd';refine PM I (by rw[e];exact bG) hs ⟨q,hq⟩ ⟨hl,hd,_,(rel.put k eb rv).keeps λc ys ec=>?_,q,es,ep,hq,h2,h3,h4,h5⟩;rw[Zg (ne_of ec e (λz=>nomatch z))];exact ec
end
def NoSl(i:Expr):Prop:=∀ov iv,subscripted i false ov iv=operate [ov,iv] (getItem ov iv)
theorem Sq{prog:Program}{w:World}{A:a9}{E:Value->ag->Prop}{s:ag}{env:Env}{value slice:Expr}{pos:Pos}{T id:String}{Q:Value->ag->Prop}(hl:typeLookup (.type T) "__getitem__"=pure (some (.builtin id)))(hs:NoSl slice)(h:wpAny (model prog w) A (eval value env) (λo s₁=>wpAny (model prog w) A (eval slice env) (λi s₂=>s₂.TypeIs o T/\wpAny (model prog w) A (getItem o i) Q E s₂) E s₁) E s):wpAny (model prog w) A (eval (.Subscript value slice pos) env) Q E s:=by
 refine Subscript_ (cj h (λo s₁ h₁=>cj h₁ (λi s₂ h₂=>?_) λ_ _ x=>x) λ_ _ x=>x);obtain⟨hT,h₂⟩:=h₂;unfold iy;refine ae ?_;rw[getitemInPython_of_ne hT.not_modules];refine ae (wpAny_specialOf hT hl ?_);have fin:wpAny (model prog w) A (subscripted slice false o i) (λr s₃=>wpAny (model prog w) A (letTemporaryGo value o r >>= λ_=>pure r) Q E s₃) E s₂:=by rw[hs o i];exact wpAny_operating (cj h₂ (λr s₃ h₃=>ae (wpAny_letTemporaryGo (ai h₃))) λ_ _ x=>x)
 first
 |exact ai (ae fin)
 |exact ae (ai (ae fin))
 |exact ae fin
theorem QS{X:Cx}{pins:List (Addr×Obj)}{σ:St}{H:Hp}{s:ag}{a:Addr}{y:V}{o:Option V}(I:Inv X pins σ H s)(g:DGet H a y o):s.TypeIs (.ref a) "dict":=by
 rcases g with⟨kvs,k,e,_,_⟩|⟨kvs,k,b,e,_,_,_⟩
 ·obtain⟨_,_,vs,_,dd⟩:=Tx I.hok e;exact dd.typeIs
 ·obtain⟨_,_,xs,_,dd⟩:=Tw I.hok e;exact dd.typeIs
def Ap(td ty:TE):TE:=λσ H Q=>td σ H λx H1=>ty σ H1 λy H2=>∃a v,x=.ref a/\DGet H2 a y (some v)/\Q v H2
def tDIn(ty td:TE):TE:=λσ H Q=>ty σ H λy H1=>td σ H1 λx H2=>∃a o,x=.ref a/\DGet H2 a y o/\Q (.bl o.isSome) H2
def Ay(td ty tv:TE):TS:=λD σ H=>tv σ H λv H1=>td σ H1 λx H2=>ty σ H2 λy H3=>∃a H4,x=.ref a/\DPut H3 a y v H4/\D.nx σ H4
section
variable {X:Cx}{o i e value:Expr}{pos pos' tpos:Pos}{td ty tv:TE}
theorem Px(hu:X.A.units+1<cLine)(ho:PE X o td)(hi:PE X i ty)(hs:NoSl i):PE X (.Subscript o i pos) (Ap td ty):=by intro pins s σ H Q I h;refine Sq PySem.F.slot_dict_getitem.lookup hs (thn (ho pins s σ H _ I h) λu s1⟨x,H1,I1,rx,q1⟩=>thn (hi pins s1 σ H1 _ I1 q1) λiv s2 hZ=>?_);obtain⟨y,H2,I2,ry,a,v,ex,g,q2⟩:=hZ;subst ex;obtain rfl:u=Value.ref a:=rx;exact⟨QS I2 g,WA hu I2 g ry λw' s3 I3 rw'=>⟨v,H2,I3,rw',q2⟩⟩
theorem Lo(hu:X.A.units+1<cLine)(hi:PE X i ty)(ho:PE X o td):PC X .In i o (tDIn ty td):=by intro pins s σ H Q I h;refine thn (hi pins s σ H _ I h) λiv s1⟨y,H1,I1,ry,q1⟩=>thn (ho pins s1 σ H1 _ I1 q1) λu s2 hZ=>?_;obtain⟨x,H2,I2,rx,a,ov,ex,g,q2⟩:=hZ;subst ex;obtain rfl:u=Value.ref a:=rx;exact d_in hu I2 g ry λs3 I3=>⟨.bl ov.isSome,H2,I3,rfl,q2⟩
theorem XM(hu:X.A.units+1<cLine)(ho:PE X o td)(hi:PE X i ty)(hv:PE X value tv)(hs:fH value (some (.Subscript o i pos')) pos.line X.env=pure false):PS X (.Assign [.Subscript o i pos'] value pos) (Ay td ty tv):=by intro pins s σ H D I h;refine wpAny_Assign_Subscript (thn (hv pins s σ H _ I h) λr s1⟨v,H1,I1,rv,q1⟩=>thn (ho pins s1 σ H1 _ I1 q1) λu s2⟨x,H2,I2,rx,q2⟩=>thn (hi pins s2 σ H2 _ I2 q2) λiv s3 hZ=>?_) hs;obtain⟨y,H3,I3,ry,a,H4,ex,g,q3⟩:=hZ;subst ex;obtain rfl:u=Value.ref a:=rx;exact Wz hu I3 g ry rv λs4 I4=>⟨σ,H4,I4,q3⟩
end
theorem LW{P:Program}{w:World}{H:Hp}(h:Heap)(hb:sysModules<h.objs.size):ZR P w H (h.push {cls:=.type "dict",data:=.dict #[]}) h.objs.size (.dK []):=⟨Nat.zero_le _,beq_eq_false_iff_ne.mpr (bo (Nat.ne_of_lt hb)),[],.nil,Heap.DictOf.new h⟩
theorem LV{P:Program}{w:World}{H:Hp}(h:Heap)(hb:sysModules<h.objs.size):ZR P w H (h.push {cls:=.type "dict",data:=.dict #[]}) h.objs.size (.dT []):=⟨Nat.zero_le _,beq_eq_false_iff_ne.mpr (bo (Nat.ne_of_lt hb)),[],.nil,_,#[],0,Heap.get?_push_size _ rfl,⟨rfl,rfl,rfl⟩,rfl,rfl,dA⟩
def Kd:TE:=λ_ H Q=>∀p,H p=none->Q (.ref p) (upd H p (.dK []))
def Fu:TE:=λ_ H Q=>∀p,H p=none->Q (.ref p) (upd H p (.dT []))
section
variable {X:Cx}{pos:Pos}
theorem Va:PE X (.Dict [] [] pos) Kd:=λpins s σ H Q I h=>wpAny_Dict_empty ⟨.ref s.heap.objs.size,_,I.laid (a:=s.heap.objs.size) (o:=.dK []) (t':=s.toks) (λ_ _ q=>Heap.get?_push_of_some _ q) (Nat.le_refl _) (LW s.heap I.big),rfl,h _ (I.hok.fresh (Nat.le_refl _))⟩
theorem Ll:PE X (.Dict [] [] pos) Fu:=λpins s σ H Q I h=>wpAny_Dict_empty ⟨.ref s.heap.objs.size,_,I.laid (a:=s.heap.objs.size) (o:=.dT []) (t':=s.toks) (λ_ _ q=>Heap.get?_push_of_some _ q) (Nat.le_refl _) (LV s.heap I.big),rfl,h _ (I.hok.fresh (Nat.le_refl _))⟩
end
structure M1(X:Cx)(o:Expr)(m:Str)(apos:Pos)(e:Expr)(cpos:Pos):Prop where
 base:fe o m X.env (eval o X.env)=eval o X.env
 few:((b8 cpos (aI [e] X.env)).all (λx=>!x.1)&&(fg cpos (da [] X.env)).all (λx=>x.1.isSome)
 &&decide (([e]:List Expr).length+([]:List Keyword).length+(if([]:List Keyword).isEmpty then 0 else 1)<30))=true
 line:(apos.endLine==cpos.line)=true
 trees:b8 cpos (aI [e] X.env)=[(false,eval e X.env)]
structure M2(X:Cx)(o:Expr)(m:Str)(apos:Pos)(e f:Expr)(cpos:Pos):Prop where
 base:fe o m X.env (eval o X.env)=eval o X.env
 few:((b8 cpos (aI [e,f] X.env)).all (λx=>!x.1)&&(fg cpos (da [] X.env)).all (λx=>x.1.isSome)
 &&decide (([e,f]:List Expr).length+([]:List Keyword).length+(if([]:List Keyword).isEmpty then 0 else 1)<30))=true
 line:(apos.endLine==cpos.line)=true
 trees:b8 cpos (aI [e,f] X.env)=[(false,eval e X.env),(false,eval f X.env)]
open PySem PySem.Spec PyProof.Rows
theorem V4(z:Str):hJ z="str_ascii_iterator"\/hJ z="str_iterator":=by
 unfold hJ;split
 ·exact .inl rfl
 ·exact .inr rfl
theorem Nm{P:Program}{w:World}{A:a9}(hh:A.handled=none)(it:Addr)(x:Str)(t:Tok):Walks P w A it [it] [it] x.cps.size (SignAt x) (λi h=>h.IsStrIter it (hJ x) x t i):=by
 rcases V4 x with e|e
 ·rw[e];exact Walks.strAscii hh it x t
 ·rw[e];exact Walks.strWide hh it x t
noncomputable def Its(z:Str):It:=⟨λi _=>i<z.length,λi H x H'=>H'=H/\∃c,z.cps.toList[i]?=some c/\x=.str ⟨#[c]⟩,λi _=>z.length<=i⟩
theorem Kb{P:Program}{w:World}{K:aa}{tg:Expr}(z:Str)(t:Tok)(it:Addr):
  Turn P w K tg (Its z) [it] it (λi h=>i<=z.length/\h.IsStrIter it (hJ z) z t i) where
 mem:=by simp
 obj:=λi h st b hb=>by
  have e:b=it:=by simpa using hb
  subst e
  obtain⟨_,o,e,c,d⟩:=st
  exact⟨o,e,λv z=>by rw[d]at z;cases z⟩
 keep:=λi h h' st k=>by
  obtain⟨l,o,e,r⟩:=st
  exact⟨l,o,k it (by simp) o e,r⟩
 item:=by
  intro X hP hw hK hc i pins s σ H E I hf st hg
  subst hP hw hK
  obtain⟨f0,f1,f2,f3,f4,f5⟩:=hf it (by simp)
  have W:=Nm (P:=X.prog) (w:=X.w) (I.ok.hd hc) it z t
  refine W.item i s _ _ hg st.2 λv h' tk hv st' kk=>?_
  obtain⟨c,u,hcps,rfl⟩:=hv
  have I1:Inv X pins σ H {s with heap:=h',toks:=tk}:=I.turned (λb o hb e=>kk b o (by simpa using hb) e) f0 f1 f3 f4 f5
  obtain⟨o,e,c',d⟩:=id st'
  refine⟨_,rfl,QM (s:={s with heap:=h',toks:=tk}) e c' d ?_ ⟨.str ⟨#[c]⟩,H,I1,⟨u,rfl⟩,⟨rfl,c,by simpa using hcps,rfl⟩,⟨hg,st'⟩,λb hb=>(hf b hb).1⟩⟩
  rcases V4 z with e|e<;>rw[e]<;>decide
 done:=by
  intro X hP hw hK hc i pins s σ H E I hf st hg
  subst hP hw hK
  obtain⟨f0,f1,f2,f3,f4,f5⟩:=hf it (by simp)
  have W:=Nm (P:=X.prog) (w:=X.w) (I.ok.hd hc) it z t
  obtain⟨hl,st⟩:=st
  have e:i=z.length:=Nat.le_antisymm hl hg
  subst e
  exact W.done s _ _ st λh' tk kk=>⟨rfl,I.turned (λb o hb e=>kk b o (by simpa using hb) e) f0 f1 f3 f4 f5⟩
 self:=λA i s Q E st h=>by
  obtain⟨_,st⟩:=st
  rcases V4 z with e|e
  ·rw[e]at st;exact wpAny_pyIter_striter_ascii st h
  ·rw[e]at st;exact wpAny_pyIter_striter_wide st h
section
variable {X:Cx}{tg:Expr}
noncomputable def iStr(tl:TE):TI:=λσ H R=>tl σ H λx H1=>∃z,x=.str z/\R (Its z) H1
theorem FN{l:Expr}{tl:TE}(hl:PE X l tl):PI X tg l (iStr tl):=by
 intro pins s σ H R I h;refine thn (hl pins s σ H _ I h) λv s1 hZ=>?_;obtain⟨x,H1,I1,r1,q1⟩:=hZ;obtain⟨z,e,q⟩:=q1;subst e;obtain⟨t,rfl⟩:=r1;refine wpAny_pyIter_strU ?_;refine⟨s1.heap.objs.size,[s1.heap.objs.size],_,_,H1,rfl,I1.kept (t':=s1.toks) λb o e=>Heap.get?_push_of_some _ e,Kb z t _,⟨Nat.zero_le _,_,Heap.get?_push_size _ rfl,rfl,rfl⟩,λb hb=>?_,q⟩;have e:b=s1.heap.objs.size:=by simpa using hb
 subst e;exact I1.fpOk (Nat.le_refl _) (I1.hok.fresh (Nat.le_refl _))
end
theorem Jo{α:Type}{n:Nat}{l:List α}(h:l.length=n+1):∃a t,l=a::t/\t.length=n:=by
 cases l with
|nil=>cases h
|cons a t=>exact⟨a,t,rfl,Nat.succ.inj h⟩
theorem len1{α:Type}{l:List α}(h:l.length=1):∃a,l=[a]:=by obtain⟨a,t,rfl,h'⟩:=Jo h;exact⟨a,by rw[iK h']⟩
theorem len2{α:Type}{l:List α}(h:l.length=2):∃a b,l=[a,b]:=by obtain⟨a,t,rfl,h'⟩:=Jo h;obtain⟨b,rfl⟩:=len1 h';exact⟨a,b,rfl⟩
theorem len3{α:Type}{l:List α}(h:l.length=3):∃a b c,l=[a,b,c]:=by obtain⟨a,t,rfl,h'⟩:=Jo h;obtain⟨b,c,rfl⟩:=len2 h';exact⟨a,b,c,rfl⟩
theorem len4{α:Type}{l:List α}(h:l.length=4):∃a b c d,l=[a,b,c,d]:=by obtain⟨a,t,rfl,h'⟩:=Jo h;obtain⟨b,c,d,rfl⟩:=len3 h';exact⟨a,b,c,d,rfl⟩
theorem len5{α:Type}{l:List α}(h:l.length=5):∃a b c d e,l=[a,b,c,d,e]:=by obtain⟨a,t,rfl,h'⟩:=Jo h;obtain⟨b,c,d,e,rfl⟩:=len4 h';exact⟨a,b,c,d,e,rfl⟩
theorem len6{α:Type}{l:List α}(h:l.length=6):∃a b c d e f,l=[a,b,c,d,e,f]:=by obtain⟨a,t,rfl,h'⟩:=Jo h;obtain⟨b,c,d,e,f,rfl⟩:=len5 h';exact⟨a,b,c,d,e,f,rfl⟩
section
variable {prog:Program}{w:World}{A:a9}{R:Result->ag->Prop}{s:ag}
noncomputable abbrev NoX:Value->ag->Prop:=λ_ _=>False
theorem Fl{α:Type}{M:Model}{t:Sem α}{Q:α->ag->Prop}{E:Value->ag->Prop}(h:wpAny M A t Q NoX s):wpAny M A t Q E s:=cj h (λ_ _ q=>q) λ_ _ x=>x.elim
theorem QX{elt target iter:Expr}{ifs:List Expr}{scope:Scope}{pos:Pos}{it acc:Value}{env:Env}(I:Nat->ag->Prop)
  (turn:∀n s,I n s->wpAny (model prog w) A (pyNext it) (λr s₁=>match r with
  |none=>R (.ok .next) s₁
  |some v=>wpAny (model prog w) A (gI target it v) (λ_ s₀=>wpAny (model prog w) A (assign target env v) (λ_ s₂=>
     wpAny (model prog w) A (forIn ifs true λc r=>if r=true then do let ok <-isTrue c env (eval c env);pure (dH ok)else pure (dH r)) (λok s₃=>
      if ok=true then wpAny (model prog w) A (eval elt env) (λx s₄=>wpAny (model prog w) A (call (.builtin "list.append") [acc,x]) (λ_ s₅=>∃m,m<n/\I m s₅) NoX s₄) NoX s₃
      else ∃m,m<n/\I m s₃) NoX s₂) NoX s₀) NoX s₁) NoX s)
  (n:Nat) (h:I n s):
  gy (model prog w) A (.compLoop (.ListComp elt [⟨target,iter,ifs,0⟩] scope pos) 0 it acc env) R s:=by
 refine codeAny_loop rfl I (λn s hI=>?_) n h
 show wpAny _ A ((compTurn (.ListComp elt [⟨target,iter,ifs,0⟩] scope pos) 0 it acc env).onRaise (λx=>do noteFrame x env;theTreesLotGoes x)) _ _ s
 refine wpAny_noted (Fl ?_)
 rw[compTurn_list]
 refine ae (e_ (ae (thn (turn n s hI) (λr s₁ h₁=>?_))))
 cases r with
|none=>exact ai h₁
|some v=>
  refine ae (thn h₁ λ_ s₀ h₀=>?_)
  refine ae (thn h₀ λ_ s₂ h₂=>ae (thn h₂ λok s₃ h₃=>?_))
  cases ok with
 |false=>exact ai ⟨rfl,h₃⟩
 |true=>exact ae (ae (thn h₃ λx s₄ h₄=>ae (thn h₄ λ_ s₅ h₅=>ai (ai ⟨rfl,h₅⟩))))
end
noncomputable def clGo(env:Env):List (Str×dW)->List (Str×Addr)->List (Str×Addr)
|[],cs=>cs
|(n,k)::r,cs=>clGo env r (if k==.free then(n,(env.cells.lookup n).getD 0)::cs else cs)
noncomputable def clOf(scope:Scope)(env:Env):List (Str×Addr):=clGo env scope.names []
theorem Ui{env:Env}:∀(names:List (Str×dW))(cs:List (Str×Addr)),(∀x∈names,x.2=.free->∃c,env.cells.lookup x.1=some c) ->
  (forIn names cs λ(x:Str×dW)(r:List (Str×Addr))=>(match x with
  |(name,kind)=>if(kind==.free)=true then(do let c <-cellOf env name;pure (dH ((name,c)::r)))else pure (dH r):Sem (ForInStep (List (Str×Addr)))))
   = pure (clGo env names cs)
|[],cs,_=>rfl
|(n,k)::r,cs,h=>by
  rw[List.forIn_cons]
  cases hk:k==bR with
 |true=>
   obtain⟨c,hc⟩:=h (n,k) aG (by simpa using hk)
   have e:cellOf env n=pure c:=by unfold cellOf;rw[show env.cells.lookup n=some c from hc]
   simp only[hk,if_true,e,clGo,pure_bind]
   rw[show env.cells.lookup n=some c from hc]
   exact Ui r _ λx hx=>h x (av _ hx)
 |false=>
   simp only[hk,Bool.false_eq_true,if_false,clGo,pure_bind]
   exact Ui r _ λx hx=>h x (av _ hx)
theorem RQ{scope:Scope}{env:Env}(h:∀x∈scope.names,x.2=.free->∃c,env.cells.lookup x.1=some c):closureFor scope env=pure (clOf scope env):=by have e:=Ui (env:=env) scope.names [] h;unfold closureFor clOf;rw[<-e];simp only[bind_pure]
theorem VL{env:Env}{x:Str}:∀(names:List (Str×dW))(cs:List (Str×Addr)),(∀y∈names,y.2=.free->∃c,env.cells.lookup y.1=some c)->(∀c,cs.lookup x=some c->env.cells.lookup x=some c) ->(∀c,(clGo env names cs).lookup x=some c->env.cells.lookup x=some c)/\(((x,bR)∈names\/(cs.lookup x).isSome=true)->((clGo env names cs).lookup x).isSome=true)
|[],cs,_,h=>⟨h,λz=>z.elim (λz=>absurd z (by simp)) id⟩
|(n,k)::r,cs,hf,h=>by
  have hr:∀y∈r,y.2=bR->∃c,env.cells.lookup y.1=some c:=λy hy=>hf y (av _ hy);show(∀c,(clGo env r (if k==.free then(n,(env.cells.lookup n).getD 0)::cs else cs)).lookup x=some c->_)/\(_->((clGo env r (if k==.free then(n,(env.cells.lookup n).getD 0)::cs else cs)).lookup x).isSome=true);cases hk:k==bR with
 |true=>
   obtain⟨c0,hc0⟩:=hf (n,k) aG (by simpa using hk);have hc0':env.cells.lookup n=some c0:=hc0;simp only[if_true,hc0',Option.getD_some];have h2:∀c,((n,c0)::cs).lookup x=some c->env.cells.lookup x=some c:=λc q=>by
    rw[cW]at q;cases hx:x==n with
   |true=>
     rw[hx]at q;have e:x=n:=by simpa using hx
     subst e;cases q;exact hc0'
   |false=>rw[hx]at q;exact h c q
   obtain⟨a,b⟩:=VL r ((n,c0)::cs) hr h2;refine⟨a,λz=>b ?_⟩;by_cases hx:x=n
   ·right;subst hx;simp
   ·rcases z with z|z
    ·rcases ao.mp z with e|z
     ·exact absurd (congrArg Prod.fst e) hx
     ·exact .inl z
    ·right;have:(x==n)=false:=by simpa using hx
     rw[cW,this];exact z
 |false=>
   simp only[Bool.false_eq_true,if_false];obtain⟨a,b⟩:=VL r cs hr h;refine⟨a,λz=>b ?_⟩;rcases z with z|z
   ·rcases ao.mp z with e|z
    ·have:k=.free:=(congrArg Prod.snd e).symm;rw[this]at hk;exact absurd hk (by decide)
    ·exact .inl z
   ·exact .inr z
structure CompScope(scope sc:Scope):Prop where
 kind:scope.kind=.function
 nocell:∀y∈scope.names,y.2≠.cell
 loc:∀y∈scope.names,y.2=.local->scope.names.lookup y.1=some .local
 free:∀y∈scope.names,y.2=.free->sc.names.lookup y.1=some .cell\/sc.names.lookup y.1=some .free
theorem Ut{scope:Scope}{env:Env}{x:Str}(nc:∀y∈scope.names,y.2≠.cell):∀{k:dW},(relabel scope env).names.lookup x=some k->(k=.cell\/k=.free)->(x,bR)∈scope.names:=by
 have go:∀(names:List (Str×dW)),(∀y∈names,y.2≠fo)->∀{k:dW},(names.map λ(n,k)=>if(k==bR&&env.scope.kind==.function&&env.kindOf n==some .cell)then(n,fo)else(n,k)).lookup x=some k->(k=.cell\/k=.free)->(x,bR)∈names:=by
  intro names;induction names with
 |nil=>intro _ k h _;simp at h
 |cons y r ih=>
   intro hn k h hk;obtain⟨n,k'⟩:=y;have hn':∀y∈r,y.2≠fo:=λy hy=>hn y (av _ hy);have hk':k'≠fo:=hn (n,k') aG;rw[ar]at h;by_cases hc:(k'==bR&&env.scope.kind==.function&&env.kindOf n==some .cell)=true
   ·simp only[hc,if_true]at h;rw[cW]at h;cases hx:x==n with
   |true=>
     have e:x=n:=by simpa using hx
     have e2:k'=.free:=by simp only[Bool.and_eq_true]at hc;simpa using hc.1.1
     subst e e2;exact aG
   |false=>rw[hx]at h;exact av _ (ih hn' h hk)
   ·simp only[hc]at h;simp only[if_false,Bool.false_eq_true]at h;rw[cW]at h;cases hx:x==n with
   |true=>
     rw[hx]at h;cases h;have e:x=n:=by simpa using hx
     subst e;rcases hk with e|e
     ·exact absurd e hk'
     ·rw[e];exact aG
   |false=>rw[hx]at h;exact av _ (ih hn' h hk)
 intro k h hk;exact go scope.names nc h hk
theorem Nk{scope:Scope}{env:Env}{x:Str}:(relabel scope env).names.lookup x=some .local->scope.names.lookup x=some .local:=by
 have go:∀(names:List (Str×dW)),(names.map λ(n,k)=>if(k==bR&&env.scope.kind==.function&&env.kindOf n==some .cell)then(n,fo)else(n,k)).lookup x=some .local->names.lookup x=some .local:=by
  intro names;induction names with
 |nil=>intro h;simp at h
 |cons y r ih=>
   intro h;obtain⟨n,k'⟩:=y;rw[ar]at h;rw[cW];by_cases hc:(k'==bR&&env.scope.kind==.function&&env.kindOf n==some .cell)=true
   ·simp only[hc,if_true]at h;rw[cW]at h;cases hx:x==n with
   |true=>rw[hx]at h;cases h
   |false=>rw[hx]at h;exact ih h
   ·simp only[hc]at h;simp only[if_false,Bool.false_eq_true]at h;rw[cW]at h;cases hx:x==n with
   |true=>rw[hx]at h;exact h
   |false=>rw[hx]at h;exact ih h
 exact go scope.names
noncomputable def Xz(X:Cx)(scope:Scope)(N:List Str)(C:Addr)(s:ag)(H:Hp)(ex:List Addr)(pn:List (Addr×Obj)):Cx where
 prog:=X.prog
 w:=X.w
 K:=X.K
 mg:=X.mg
 base:=X.base
 A:=X.A
 N:=N
 s₀:=s
 H₀:=H
 env:=compEnvC scope (clOf scope X.env) C X.env
 outer:=X.stack
 stack:=X.stack
 ex:=ex
 calm:=X.calm
 fn:=λ_=>false
 pn:=pn
 xe:=NoX
noncomputable def inner(cp:List (Option Nat))(σ:St):St:=cp.map λo=>o.bind λj=>(σ[j]?).join
structure CompNames(N0:List Str)(scope:Scope)(N:List Str)(cp:List (Option Nat)):Prop where
 len:cp.length=N.length
 at_:∀(i j:Nat)(x:Str),cp[i]?=some (some j)->N[i]?=some x->N0[j]?=some x/\scope.names.lookup x=some .free
noncomputable def namesOk(N0:List Str)(scope:Scope)(N:List Str)(cp:List (Option Nat)):Bool:=(cp.length==N.length)&&(aV cp.length).all λi=>match cp[i]?,N[i]? with
 |some (some j),some x=>N0[j]?==some x&&scope.names.lookup x==some .free
 |_,_=>true
theorem CompNames.mk'{N0:List Str}{scope:Scope}{N:List Str}{cp:List (Option Nat)}(h:namesOk N0 scope N cp=true):CompNames N0 scope N cp:=by unfold namesOk at h;rw[Bool.and_eq_true,bg]at h;refine⟨by simpa using h.1,λi j x h1 h2=>?_⟩;have hi:i<cp.length:=(ak.mp h1).1;have q:=h.2 i (bp.mpr hi);rw[h1,h2]at q;simpa using q
section
variable {X:Cx}{pins:List (Addr×Obj)}{σ:St}{H:Hp}{s:ag}
theorem QY{scope:Scope}(I:Inv X pins σ H s)(S:CompScope scope X.env.scope):∀y∈scope.names,y.2=.free->∃c,X.env.cells.lookup y.1=some c:=λy hy e=>I.ok.has y.1 (S.free y hy e)
theorem LK{scope:Scope}{N:List Str}{cp:List (Option Nat)}{fp:List Addr}{od:Obj}{h4:Heap}{tk:Nat}(S:CompScope scope X.env.scope)(CN:CompNames X.N scope N cp)(I:Inv X pins σ H s)(hfp:∀b∈fp,FpOk X pins H b)(hfo:∀b∈fp,∃o,s.heap.get? b=some o)(hod:∀v,od.data≠.cell v)(hns:h4.Ns (s.heap.push od).objs.size (λx=>([]:List (Str×Value)).reverse.lookup x))(hk:∀b o,(s.heap.push od).get? b=some o->h4.get? b=some o)(hfr:od.isFreed=false):Inv (Xz X scope N (s.heap.push od).objs.size {s with heap:=s.heap.push od} H (s.heap.objs.size::fp) (X.pn++pins)) [(s.heap.objs.size,od)] (inner cp σ) H {s with heap:=h4,toks:=tk}:=by
 have cl:=QY I S;have look:∀x c,(clOf scope X.env).lookup x=some c->X.env.cells.lookup x=some c:=λx=>(VL scope.names [] cl (λc q=>by simp at q)).1;have hasc:∀x,(x,bR)∈scope.names->∃c,(clOf scope X.env).lookup x=some c:=λx hx=>
  cM.mp ((VL scope.names [] cl (λc q=>by simp at q)).2 (.inl hx));have kp:∀b o,s.heap.get? b=some o->(s.heap.push od).get? b=some o:=λb o e=>Heap.get?_push_of_some _ e;have kp4:∀b o,s.heap.get? b=some o->h4.get? b=some o:=λb o e=>hk b o (kp b o e);have hz:(s.heap.push od).objs.size=s.heap.objs.size+1:=Heap.size_push ..;have I3:Inv X pins σ H {s with heap:=s.heap.push od}:=I.kept (t':=s.toks) kp;have hD:H s.heap.objs.size=none:=I.hok.fresh (Nat.le_refl _);have hC:H (s.heap.push od).objs.size=none:=I3.hok.fresh (Nat.le_refl _);have hDo:h4.get? s.heap.objs.size=some od:=hk _ _ (Heap.get?_push_size _ hfr);have stk:∀b∈frs X.stack,b<s.heap.objs.size:=λb hb=>by
  rcases ao.mp (I.stkSub b hb)with e|e
  ·rw[e];exact I.lt
  ·exact Nat.lt_of_not_le λz=>I.nofs z e
 have fpn:∀b∈fp,b∉frs X.stack:=λb hb hs=>by
  obtain⟨_,g1,g2,_⟩:=hfp b hb;rcases ao.mp (I.stkSub b hs)with e|e
  ·exact g1 e
  ·exact g2 e
 have fplt:∀b∈fp,b<s.heap.objs.size:=λb hb=>let ⟨o,e⟩:=hfo b hb;Heap.lt_size e
 refine⟨⟨I.ok.mod,S.kind,I.ok.glob,I.ok.blt,Nat.le_refl _,λx y c h1 h2=>I.ok.inj x y c (look x c h1) (look y c h2),λx hx=>?_,λx c hf _=>(by cases hf),I.ok.hd,I.ok.frames,.inl rfl,λb hb=>?_,I3.bs,Nat.le_trans I.ok.bsz I3.sz,λb o e hb=>?_,λb hb=>?_,I3.stack,I3.stkFree⟩,rfl,I.bare,Un.kept hk,⟨_,hns,λi x v h1 h2 h3=>?_⟩,λx c hx=>?_,hC,λx c hx=>I.freeC x c (look x c hx),λp hp=>?_,I.hok.kept kp4,?_⟩
 ·have hx':(relabel scope X.env).names.lookup x=some .cell\/(relabel scope X.env).names.lookup x=some .free:=hx;rcases hx' with e|e
  ·exact hasc x (Ut S.nocell e (.inl rfl))
  ·exact hasc x (Ut S.nocell e (.inr rfl))
 ·show b≠(s.heap.push od).objs.size/\∀x c,(clOf scope X.env).lookup x=some c->c≠b;rcases ao.mp hb with e|hb
  ·subst e;refine⟨by rw[hz];exact Nat.ne_of_lt (Nat.lt_succ_self _),λx c hx z=>?_⟩;obtain⟨v,q⟩:=I.cell x c (look x c hx);exact absurd q.lt (by rw[z];exact Nat.lt_irrefl _)
  ·exact⟨by rw[hz];exact Nat.ne_of_lt (Nat.lt_succ_of_lt (fplt b hb)),λx c hx=>(hfp b hb).2.2.2.2.1 x c (look x c hx)⟩
 ·rcases ao.mp hb with z|hb
  ·subst z;have h1:=Heap.lt_size (I.bk _ _ e);exact Nat.lt_irrefl _ h1
  ·obtain⟨_,_,_,g3,_⟩:=hfp b hb;rcases g3 with g3|g3
   ·exact I.ok.noex b o e g3
   ·have h1:=Heap.lt_size e;have h2:=I.ok.bsz;exact absurd (Nat.lt_of_lt_of_le h1 (Nat.le_trans h2 g3)) (Nat.lt_irrefl _)
 ·show b∉frs X.stack;rcases ao.mp hb with z|hb
  ·subst z;exact λz=>Nat.lt_irrefl _ (stk _ z)
  ·exact fpn b hb
 ·have h2':(inner cp σ)[i]?=some (some v):=h2;unfold inner at h2';rw[aJ]at h2';cases hc:cp[i]? with
 |none=>rw[hc]at h2';cases h2'
 |some oj=>
   rw[hc]at h2';cases oj with
  |none=>have:(none:Option V)=some v:=au h2';cases this
  |some j=>
    have h2'':(σ[j]?).join=some v:=au h2';have hσ:σ[j]?=some (some v):=by
     cases q:σ[j]? with
    |none=>rw[q]at h2'';cases h2''
    |some o=>rw[q]at h2'';exact congrArg some h2''
    obtain⟨hN,hlook⟩:=CN.at_ i j x hc h1;have hfree:(x,bR)∈scope.names:=cO hlook;have hk2:=S.free _ hfree rfl;obtain⟨m,hn,hl⟩:=I.loc;have hvis:Vis X.env.scope x:=hk2.elim (λz=>.inr (.inl z)) λz=>.inr (.inr z);obtain⟨u,ru,lk⟩:=hl j x v hN hσ hvis;refine⟨u,ru,?_⟩;rcases lk with⟨z,_⟩|⟨_,c,hcl,cc⟩
    ·rcases hk2 with q|q<;>(have z':=z.symm.trans q;cases z')
    ·obtain⟨c2,hc2⟩:=hasc x hfree;have hcc:c2=c:=by have:=(look x c2 hc2).symm.trans hcl;exact au this
     subst hcc;obtain⟨o,ho,hd⟩:=cc;refine .inr ⟨?_,c2,hc2,⟨o,kp4 _ _ ho,hd⟩⟩;rcases h3 with q|q|q
     ·have q':=(Nk q).symm.trans hlook;cases q'
     ·exact .inl q
     ·exact .inr q
 ·obtain⟨v,o,ho,hd⟩:=I.cell x c (look x c hx);exact⟨v,o,kp4 _ _ ho,hd⟩
 ·have hp':p∈(X.pn++pins)++[(s.heap.objs.size,od)]:=hp;rcases aD.mp hp' with hp1|hp1
  ·obtain⟨e,n,ne,nf,d⟩:=I.pin p hp1;have hlt:=Heap.lt_size e;refine⟨kp4 _ _ e,n,by show p.1≠(s.heap.push od).objs.size;rw[hz];exact Nat.ne_of_lt (Nat.lt_succ_of_lt hlt),λhb=>?_,d⟩;rcases ao.mp (I.stkSub _ hb)with z|z
   ·exact ne z
   ·exact nf z
  ·have e:p=(s.heap.objs.size,od):=by simpa using hp1
   subst e;exact⟨hDo,hD,by show s.heap.objs.size≠(s.heap.push od).objs.size;rw[hz];exact Nat.ne_of_lt (Nat.lt_succ_self _),λz=>Nat.lt_irrefl _ (stk _ z),hod⟩
 ·show(inner cp σ).length=N.length;unfold inner;rw[bq];exact CN.len
end
noncomputable def ZU(its:List Value)(k:Nat):Obj:={cls:=.type "list",data:=.seq its.toArray k}
theorem G7{its:List Value}{k:Nat}:∀v,(ZU its k).data≠.cell v:=λv z=>by have z':Data.seq its.toArray k=Data.cell v:=z;cases z'
section
variable {X:Cx}
def PTs(X:Cx)(ifs:List Expr)(t:TT):Prop:=
 ∀(pins:List (Addr×Obj))(s:ag)(σ:St)(H:Hp)(Q:Bool->Hp->Prop),Inv X pins σ H s->t σ H Q ->
  wpAny (model X.prog X.w) X.A (forIn ifs true λc r=>if r=true then do let ok <-isTrue c X.env (eval c X.env);pure (dH ok)else pure (dH r)) (TP X pins σ Q) X.xe s
def tYes:TT:=λ_ H Q=>Q true H
theorem Yp:PTs X [] tYes:=λ_ _ _ H _ I h=>wpAny_tests_nil ⟨H,I,h⟩
theorem Y9{c:Expr}{t:TT}(h:PT X c t):PTs X [c] t:=λpins s σ H Q I hw=>wpAny_tests_one (h pins s σ H Q I hw)
def Ke(cp:List (Option Nat))(wi:TI)(g:TG)(tc:TT)(te:TE):TE:=λσ H Q=>wi σ H λJ H1=>∃W:Nat->Nat->List V->St->Hp->Prop,(∃m,W 0 m [] (inner cp σ) H1)/\∀i m ys τ H,W i m ys τ H ->(J.stop i H/\∀l,H l=none->Q (.ref l) (upd H l (.lst ys))) \/(J.go i H/\ys.length<sizeLine/\∃N:List V->St->Hp->Prop,(∀ys' τ' H',N ys' τ' H'->∃m',m'<m/\W (i+1) m' ys' τ' H') /\∀x H',J.yld i H x H'->g x τ H' λτ2 H2=>tc τ2 H2 λb H3=>if b=true then te τ2 H3 λy H4=>N (ys++[y]) τ2 H4 else N ys τ2 H3)
theorem JP{J:It}{g:TG}{tc:TT}{te:TE}{τ0:St}{H0:Hp}{R:List V->Hp->Prop}(n:Nat)(hn:n<=sizeLine)(Pv:Nat->List V->St->Hp->Prop)(h0:Pv 0 [] τ0 H0)(hl:∀i ys τ H,Pv i ys τ H->ys.length<=i)(hgo:∀i ys τ H,i<n->Pv i ys τ H->J.go i H)(hstop:∀ys τ H,Pv n ys τ H->J.stop n H)(hs:∀i ys τ H x H',i<n->Pv i ys τ H->J.yld i H x H'->g x τ H' λτ2 H2=>tc τ2 H2 λb H3=>if b=true then te τ2 H3 λy H4=>Pv (i+1) (ys++[y]) τ2 H4 else Pv (i+1) ys τ2 H3)(hd:∀ys τ H,Pv n ys τ H->R ys H):∃W:Nat->Nat->List V->St->Hp->Prop,(∃m,W 0 m [] τ0 H0)/\∀i m ys τ H,W i m ys τ H ->(J.stop i H/\R ys H) \/(J.go i H/\ys.length<sizeLine/\∃N:List V->St->Hp->Prop,(∀ys' τ' H',N ys' τ' H'->∃m',m'<m/\W (i+1) m' ys' τ' H') /\∀x H',J.yld i H x H'->g x τ H' λτ2 H2=>tc τ2 H2 λb H3=>if b=true then te τ2 H3 λy H4=>N (ys++[y]) τ2 H4 else N ys τ2 H3):=by
 refine⟨λi m ys τ H=>m=n-i/\i<=n/\Pv i ys τ H,⟨n,rfl,Nat.zero_le _,h0⟩,?_⟩;rintro i m ys τ H ⟨rfl,hi,p⟩;by_cases hlt:i<n
 ·refine .inr ⟨hgo i ys τ H hlt p,?_,Pv (i+1),λys' τ' H' p'=>⟨n-(i+1),by omega,rfl,hlt,p'⟩,λx H' y=>hs i ys τ H x H' hlt p y⟩;have:=hl i ys τ H p;omega
 ·have e:i=n:=by omega
  subst e;exact .inl ⟨hstop ys τ H p,hd ys τ H p⟩
theorem YY{J:It}{g:TG}{te:TE}{τ0:St}{H0:Hp}{R:List V->Hp->Prop}(n:Nat)(hn:n<=sizeLine)(Pv:Nat->List V->St->Hp->Prop)(h0:Pv 0 [] τ0 H0)(hl:∀i ys τ H,Pv i ys τ H->ys.length<=i)(hgo:∀i ys τ H,i<n->Pv i ys τ H->J.go i H)(hstop:∀ys τ H,Pv n ys τ H->J.stop n H)(hs:∀i ys τ H x H',i<n->Pv i ys τ H->J.yld i H x H'->g x τ H' λτ2 H2=>te τ2 H2 λy H4=>Pv (i+1) (ys++[y]) τ2 H4)(hd:∀ys τ H,Pv n ys τ H->R ys H):∃W:Nat->Nat->List V->St->Hp->Prop,(∃m,W 0 m [] τ0 H0)/\∀i m ys τ H,W i m ys τ H ->(J.stop i H/\R ys H) \/(J.go i H/\ys.length<sizeLine/\∃N:List V->St->Hp->Prop,(∀ys' τ' H',N ys' τ' H'->∃m',m'<m/\W (i+1) m' ys' τ' H') /\∀x H',J.yld i H x H'->g x τ H' λτ2 H2=>tYes τ2 H2 λb H3=>if b=true then te τ2 H3 λy H4=>N (ys++[y]) τ2 H4 else N ys τ2 H3):=JP (J:=J) (g:=g) (tc:=tYes) (te:=te) n hn Pv h0 hl hgo hstop hs hd
theorem NV{use:Option (Value->Sem Unit)}{R:Value->ag->Prop}{elt iter tg:Expr}{ifs:List Expr}{scope:Scope}{pos pos2:Pos}{N:List Str}{cp:List (Option Nat)}{wi:TI}{g:TG}{tc:TT}{te:TE}{Q:VK}{pins:List (Addr×Obj)}{s:ag}{σ:St}{H:Hp}(hc:X.calm=true)(hS:CompScope scope X.env.scope)(hN:CompNames X.N scope N cp)(hi:PI X tg iter wi)(hg:∀C s H ex pn,PG (Xz X scope N C s H ex pn) tg g)(ht:∀C s H ex pn,PTs (Xz X scope N C s H ex pn) ifs tc)(he:∀C s H ex pn,PE (Xz X scope N C s H ex pn) elt te)(hs:∀x,fU iter X.env x=pure x)(I:Inv X pins σ H s)(h:Ke cp wi g tc te σ H Q)(out:∀(D C:Addr)(H5:Hp)(s4:ag)(m:Str->Option Value),Inv X pins σ H5 s4->s4.heap.Ns C m->C≠X.env.locals->(∀y c,X.env.cells.lookup y=some c->c≠C)->H5 C=none->X.s₀.heap.objs.size<=C->(∀p∈X.pn++pins,p.1≠C)->Q (.ref D) H5->compPost (model X.prog X.w) X.A X.xe use R (.ref D) C (.ok .next) s4):wpAny (model X.prog X.w) X.A (comprehension (.ListComp elt [⟨tg,iter,ifs,0⟩] scope pos) scope X.env pos2 (newList []) false (eval iter X.env) use) R X.xe s:=by
 refine wpAny_comprehension_free (use:=use) (cl:=clOf scope X.env) rfl hs (RQ (QY I hS)) hS.kind hS.loc (thn (hi pins s σ H _ I h) λv s1 h1=>thn h1 λitv s2 h2=>?_);obtain⟨it,fp,tn,J,H2,rfl,I2,T,st2,f2,W,⟨m0,w0⟩,turn⟩:=h2;refine cS (wpAny_newFunctionEnv hS.nocell (by intro y hy;simp at hy) (λh4 hns hsb=>?_) hS.kind);dsimp only at hns hsb ⊢;have hz:(s2.heap.push (ZU [] 0)).objs.size=s2.heap.objs.size+1:=Heap.size_push ..;have hk4:∀b o,(s2.heap.push (ZU [] 0)).get? b=some o->h4.get? b=some o:=λb o e=>hsb.extBut b o (Nat.ne_of_lt (Heap.lt_size e)) (Heap.get?_push_of_some _ e);have hfo:∀b∈fp,∃o,s2.heap.get? b=some o:=λb hb=>let ⟨o,e,_⟩:=T.obj _ _ st2 b hb;⟨o,e⟩
 have fplt:∀b∈fp,b<s2.heap.objs.size:=λb hb=>let ⟨o,e⟩:=hfo b hb;Heap.lt_size e
 generalize hXc:Xz X scope N (s2.heap.push (ZU [] 0)).objs.size {s2 with heap:=s2.heap.push (ZU [] 0)} H2 (s2.heap.objs.size::fp) (X.pn++pins)=Xc;have J0:∀tk,Inv Xc [(s2.heap.objs.size,ZU [] 0)] (inner cp σ) H2 {s2 with heap:=h4,toks:=tk}:=λtk=>by rw[<-hXc];exact LK hS hN I2 f2 hfo G7 hns hk4 rfl
 have hg':PG Xc tg g:=hXc▸hg _ _ _ _ _;have ht':PTs Xc ifs tc:=hXc▸ht _ _ _ _ _;have he':PE Xc elt te:=hXc▸he _ _ _ _ _;have eP:Xc.prog=X.prog:=by rw[<-hXc];rfl
 have eW:Xc.w=X.w:=by rw[<-hXc];rfl
 have eK:Xc.K=X.K:=by rw[<-hXc];rfl
 have eA:Xc.A=X.A:=by rw[<-hXc];rfl
 have eC:Xc.calm=true:=by rw[<-hXc];exact hc
 have eX:Xc.xe=NoX:=by rw[<-hXc];rfl
 have eE:Xc.env=compEnvC scope (clOf scope X.env) (s2.heap.push (ZU [] 0)).objs.size X.env:=by rw[<-hXc];rfl
 have eL:Xc.env.locals=(s2.heap.push (ZU [] 0)).objs.size:=by rw[eE];rfl
 have eFs:Xc.fs=frs X.stack:=by rw[<-hXc];rfl
 have eEx:Xc.ex=s2.heap.objs.size::fp:=by rw[<-hXc];rfl
 have eH0:Xc.H₀=H2:=by rw[<-hXc];rfl
 have eS0:Xc.s₀={s2 with heap:=s2.heap.push (ZU [] 0)}:=by rw[<-hXc];rfl
 have ePn:Xc.pn=X.pn++pins:=by rw[<-hXc];rfl
 have stk:∀b∈frs X.stack,b<s2.heap.objs.size:=λb hb=>by
  rcases ao.mp (I2.stkSub b hb)with e|e
  ·rw[e];exact I2.lt
  ·exact Nat.lt_of_not_le λz=>I2.nofs z e
 have hDne:s2.heap.objs.size≠Xc.env.locals:=by rw[eL,hz];exact Nat.ne_of_lt (Nat.lt_succ_self _)
 have hDfs:s2.heap.objs.size∉Xc.fs:=by rw[eFs];exact λz=>Nat.lt_irrefl _ (stk _ z)
 have hDp:∀p∈Xc.pn,p.1≠s2.heap.objs.size:=λp hp=>by rw[ePn]at hp;exact Nat.ne_of_lt (Heap.lt_size (I2.pin p hp).1)
 have hDc:∀{τ:St}{H':Hp}{s':ag}{ps:List (Addr×Obj)},Inv Xc ps τ H' s'->∀x c,Xc.env.cells.lookup x=some c->c≠s2.heap.objs.size:=λI' x c e=>(I'.ok.exf _ (by rw[eEx];exact aG)).2 x c e;have stat:∀{τ:St}{H':Hp}{s':ag}{ps:List (Addr×Obj)}{o:Obj},Inv Xc ps τ H' s'->(∀b∈fp,H' b=none)->∀b∈fp,FpOk Xc [(s2.heap.objs.size,o)] H' b:=λI' hn b hb=>by
  have q:=I'.ok.exf b (by rw[eEx];exact av _ hb);refine⟨hn b hb,q.1,I'.ok.exfs b (by rw[eEx];exact av _ hb),.inl (by rw[eEx];exact av _ hb),q.2,λp hp=>?_⟩;rcases aD.mp hp with hp|hp
  ·rw[ePn]at hp;exact(f2 b hb).2.2.2.2.2 p hp
  ·have e:p.1=s2.heap.objs.size:=by rw[aB]at hp;rw[hp]
   rw[e];exact Nat.ne_of_gt (fplt b hb)
 have run:∀s5:ag,(∃tk,s5={s2 with heap:=h4,toks:=tk})->gy (model X.prog X.w) X.A (.compLoop (.ListComp elt [⟨tg,iter,ifs,0⟩] scope pos) 0 (.ref it) (.ref s2.heap.objs.size) Xc.env) (compPost (model X.prog X.w) X.A X.xe use R (.ref s2.heap.objs.size) (s2.heap.push (ZU [] 0)).objs.size) s5:=by
  rintro s5 ⟨tk,rfl⟩;refine QX (λn s'=>∃i ys τ H' its k,Inv Xc [(s2.heap.objs.size,ZU its k)] τ H' s'/\Vals ys its/\tn i s'.heap/\(∀b∈fp,H' b=none)/\W i n ys τ H'/\ys.length<=sizeLine) ?_ m0 ⟨0,[],inner cp σ,H2,[],0,J0 tk,.nil,T.keep _ _ _ st2 λb hb o e=>hk4 b o (Heap.get?_push_of_some _ e),λb hb=>(f2 b hb).1,w0,Nat.zero_le _⟩;rintro n s3 ⟨i,ys,τ,H3,its,k,I3,rv,st3,fr3,w3,hl3⟩;rcases turn i n ys τ H3 w3 with⟨stop,qn⟩|⟨go,hl,Nw,hNw,step⟩
  ·have dn:=T.done Xc eP eW eK eC i _ s3 τ H3 NoX I3 (stat I3 fr3) st3 stop;rw[eA]at dn;refine thn dn λr s4⟨hr,I4⟩=>?_;subst hr;obtain⟨m,hn,_⟩:=id I4.loc;rw[eL]at hn;have hs':Heap.SameBut (s2.heap.push (ZU [] 0)).objs.size s4.heap s4.heap:=Heap.SameBut.refl ..;obtain⟨eD,nD,_⟩:=I4.pin (s2.heap.objs.size,ZU its k) (aU _ aG);have u4:=I4.base;rw[eFs,eEx,eH0,eS0]at u4;have hD2:H2 s2.heap.objs.size=none:=I2.hok.fresh (Nat.le_refl _);have hfree:=I4.free;rw[eL]at hfree;have kp:∀b o,s2.heap.get? b=some o->(s2.heap.push (ZU [] 0)).get? b=some o:=λb o e=>Heap.get?_push_of_some _ e;have nD':∀b o,s2.heap.get? b=some o->b≠s2.heap.objs.size:=λb o e=>Nat.ne_of_lt (Heap.lt_size e);have nC':∀b o,s2.heap.get? b=some o->b≠(s2.heap.push (ZU [] 0)).objs.size:=λb o e=>by rw[hz];exact Nat.ne_of_lt (Nat.lt_succ_of_lt (Heap.lt_size e))
   have nex:∀b o,s2.heap.get? b=some o->b∉fp->b∉s2.heap.objs.size::fp:=λb o e hb z=>(ao.mp z).elim (nD' b o e) hb;have I5:Inv X pins σ (upd H3 s2.heap.objs.size (.lst ys)) s4:=by
    refine I2.call' (s':=s4) (ch:=fp) ?_ ⟨λb o e n hb hx=>?_,λb o e n hb hx=>?_,λb o e n hx=>?_,λb o e hx=>?_,λb xs q=>?_,λb o u q=>?_,λb ps q=>?_⟩ ?_ I4.bare λb hb=>?_
    ·have:=I4.os;rw[eS0]at this;exact this
    ·exact(hs'.2 b (nC' b o e)).trans (u4.keep b o (kp b o e) n hb (nex b o e hx))
    ·obtain⟨sl,q⟩:=u4.slot b o (kp b o e) n hb (nex b o e hx);exact⟨sl,(hs'.2 b (nC' b o e)).trans q⟩
    ·rw[Zg (nD' b o e)];exact u4.free b o (kp b o e) n (nex b o e hx)
    ·obtain⟨o',q⟩:=u4.there b o (kp b o e) (nex b o e hx);exact⟨o',(hs'.2 b (nC' b o e)).trans q⟩
    ·rw[Zg (Zi q hD2)];exact u4.tups b xs q
    ·rw[Zg (Zi q hD2)];exact u4.frzs b o u q
    ·rw[Zg (Zi q hD2)];exact u4.tbls b ps q
    ·intro b ob q;have keepC:∀c v,H3 c≠none->s4.heap.get? c=some v->s4.heap.get? c=some v:=λc v hc q=>(hs'.2 c (λz=>hc (by rw[z];exact hfree))).trans q;by_cases hb:b=s2.heap.objs.size
     ·subst hb;rw[Zf]at q;cases q;exact⟨hl3,its,k,rv,(hs'.2 _ (by rw[hz];exact Nat.ne_of_lt (Nat.lt_succ_self _))).trans eD⟩
     ·rw[Zg hb]at q;have ok4:ZR X.prog X.w H3 s4.heap b ob:=by have:=I4.hok b ob q;rw[eP,eW]at this;exact this
      refine ok4.stay (λc v hc' q'=>keepC c v ?_ q') (λc q'=>by rw[Zg (Zi q' nD)];exact q') λc xs q'=>by rw[Zg (Zi q' nD)];exact q'
      rcases hc' with rfl|hc'
      ·rw[q];simp
      ·rw[hc'];simp
    ·obtain⟨g0,g1,g2,g3,g4,g5⟩:=f2 b hb;exact⟨g3,g1,g4,g5⟩
   have hCn:(s2.heap.push (ZU [] 0)).objs.size≠X.env.locals:=by rw[hz];exact Nat.ne_of_gt (Nat.lt_succ_of_lt I2.lt)
   have hCc:∀y c,X.env.cells.lookup y=some c->c≠(s2.heap.push (ZU [] 0)).objs.size:=λy c e=>by obtain⟨v,o,ho,_⟩:=I2.cell y c e;exact nC' c o ho
   have hCH:upd H3 s2.heap.objs.size (.lst ys) (s2.heap.push (ZU [] 0)).objs.size=none:=by rw[Zg (by rw[hz];exact Nat.succ_ne_self _)];exact hfree
   exact out _ _ _ _ m I5 hn hCn hCc hCH (by rw[hz];exact Nat.le_succ_of_le I2.sz) (λp hp=>nC' p.1 p.2 (I2.pin p hp).1) (qn _ nD)
  ·have itm:=T.item Xc eP eW eK eC i _ s3 τ H3 NoX I3 (stat I3 fr3) st3 go;rw[eA]at itm;refine thn itm λr s4⟨u,hr,h4'⟩=>?_;subst hr;refine thn h4' λ_ s5 hZ=>?_;obtain⟨x,H5,I5,r5,y5,st5,fr5⟩:=hZ;have I5':=I5.pinned (stat I5 fr5) (T.obj _ _ st5);have a1:=hg' _ s5 τ H5 x u _ I5' r5 (step x H5 y5);rw[eP,eW,eA,eX]at a1;refine thn a1 λ_ s6 hZ=>?_;obtain⟨τ6,H6,I6,q6⟩:=hZ;have a2:=ht' _ s6 τ6 H6 _ I6 q6;rw[eP,eW,eA,eX]at a2;refine thn a2 λok s7⟨H7,I7,q7⟩=>?_;have tnAt:∀{τ':St}{H':Hp}{s':ag},Inv Xc ([(s2.heap.objs.size,ZU its k)]++MQ fp s5.heap) τ' H' s'->tn (i+1) s'.heap/\∀b∈fp,H' b=none:=λI'=>
    ⟨T.keep _ _ _ st5 λb hb o e=>(I'.pin (b,o) (aU _ (aU _ (mem_pinsAt hb e)))).1,λb hb=>by
     obtain⟨o,e,d⟩:=T.obj _ _ st5 b hb;exact(I'.pin (b,o) (aU _ (aU _ (mem_pinsAt hb e)))).2.1⟩;cases ok with
  |false=>rw[if_neg Bool.false_ne_true]at q7;rw[if_neg Bool.false_ne_true];obtain⟨m',hm,w7⟩:=hNw _ _ _ q7;exact⟨m',hm,i+1,ys,τ6,H7,its,k,I7.unpinned,rv,(tnAt I7).1,(tnAt I7).2,w7,hl3⟩
  |true=>
    rw[if_pos rfl]at q7;rw[if_pos rfl];have a3:=he' _ s7 τ6 H7 _ I7 q7;rw[eP,eW,eA,eX]at a3;refine thn a3 λv s8 hZ=>?_;obtain⟨y,H8,I8,r8,q8⟩:=hZ;obtain⟨m',hm,w8⟩:=hNw _ _ _ q8;obtain⟨eD,nD,_⟩:=I8.pin (s2.heap.objs.size,ZU its k) (aU _ (bh _ aG));have hlen:=rv.length;refine gB F.slot_list_append ⟨_,eD,rfl⟩ F.entry_list_append (F.args_list_append_2 _ _) (PySem.list_append s2.heap.objs.size its.toArray k v (by rw[aq];omega)) ⟨eD,?_⟩;have q0:=PySem.IsL.update eD (·.push v);obtain⟨k',q⟩:∃k',(s8.heap.update s2.heap.objs.size (Obj.mapSeq (·.push v))).get? s2.heap.objs.size=some (ZU (its++[v]) k'):=⟨_,by
     have e:(its++[v]).toArray=its.toArray.push v:=by simp
     unfold ZU;rw[e];exact q0⟩;have I9:Inv Xc [] τ6 H8 s8:=I8.pins_of λp hp=>absurd (show p∈([]:List (Addr×Obj))from hp) (by simp);refine⟨m',hm,i+1,ys++[y],τ6,H8,its++[v],k',?_,rv.append (.cons r8 .nil),T.keep _ _ _ (tnAt I8).1 λb hb o e=>?_,(tnAt I8).2,w8,?_⟩
    ·refine Inv.pins_of (pins:=[]) (I9.turned (t':=s8.toks) (it:=s2.heap.objs.size) (λb o hb e=>(Heap.get?_update_other _ _ (bo hb)).trans e) nD hDne (.inl (by rw[eEx];exact aG)) (hDc I9) (λp hp=>hDp p (by simpa using hp))) λp hp=>?_;have e:p=(s2.heap.objs.size,ZU (its++[v]) k'):=by simpa using hp
     subst e;exact⟨q,nD,hDne,hDfs,G7⟩
    ·exact(Heap.get?_update_other _ _ (Nat.ne_of_gt (fplt b hb))).trans e
    ·rw[aj,List.length_singleton];omega
 have st4:tn 0 h4:=T.keep _ _ _ st2 λb hb o e=>hk4 b o (Heap.get?_push_of_some _ e);have fin:=codeAny_compStart_list (run _ ⟨_,rfl⟩) (T.self X.A 0 {s2 with heap:=h4,toks:=s2.toks+([]:List (Str×Value)).length} _ (notedBy (model X.prog X.w) X.A Xc.env λex s'=>(compPost (model X.prog X.w) X.A X.xe use R (.ref s2.heap.objs.size) (s2.heap.push (ZU [] 0)).objs.size) (.error ex) s') st4 (run _ ⟨_,rfl⟩));rw[eE]at fin;exact fin
theorem Z0{elt iter tg:Expr}{ifs:List Expr}{scope:Scope}{pos:Pos}{N:List Str}{cp:List (Option Nat)}{wi:TI}{g:TG}{tc:TT}{te:TE}(hc:X.calm=true){sc:Scope}{N0:List Str}(hS0:CompScope scope sc)(hN0:CompNames N0 scope N cp)(hi:PI X tg iter wi)(hg:∀C s H ex pn,PG (Xz X scope N C s H ex pn) tg g)(ht:∀C s H ex pn,PTs (Xz X scope N C s H ex pn) ifs tc)(he:∀C s H ex pn,PE (Xz X scope N C s H ex pn) elt te)(hsc:X.env.scope=sc:=by rfl)(hxn:X.N=N0:=by rfl)(hs:∀x,fU iter X.env x=pure x:=by intro _;rfl):PE X (.ListComp elt [⟨tg,iter,ifs,0⟩] scope pos) (Ke cp wi g tc te):=by subst hsc hxn;intro pins s σ H Q I h;rw[eval_ListComp];exact NV (use:=none) hc hS0 hN0 hi hg ht he hs I h λD C H5 s4 m I5 hn h1 h2 h3 h4 h5 q=>⟨m,hn,λh' hs'=>⟨.ref D,_,I5.turned (t':=s4.toks) (it:=C) (λb o hb e=>(hs'.2 b hb).trans e) h3 h1 (.inr h4) h2 h5,rfl,q⟩⟩
theorem Sl{bs:List Bool}:∀{us:List Value},Vals (bs.map V.bl) us->∀(i:Nat)(v:Value),us[i]?=some v->∃b,bs[i]?=some b/\v=.bool b:=by
 induction bs with
|nil=>intro us r i v e;rw[ff]at r;cases r;simp at e
|cons b bs ih=>
  intro us r i v e;rw[ar]at r;cases r with
 |cons r1 r2=>
   cases i with
  |zero=>simp at e;subst e;exact⟨b,rfl,r1⟩
  |succ i=>obtain⟨b',h1,h2⟩:=ih r2 i v (by simpa using e);exact⟨b',by simpa using h1,h2⟩
theorem all_range(bs:List Bool):(aV bs.length).all (λi=>bs.getD i true)=bs.all id:=by
 rw[Bool.eq_iff_iff,bg,bg];constructor
 ·intro h b hb;obtain⟨i,hi⟩:=aY.mp hb;have hl:i<bs.length:=(ak.mp hi).1;have:=h i (bp.mpr hl);rw[aw,hi]at this;exact this
 ·intro h i hi;have hl:=bp.mp hi;rw[aw,List.getElem?_eq_getElem hl];exact h _ (aE hl)
theorem Nf(hc:X.calm=true):YI X (.builtin "all") (λxs H Q=>∃(p:Addr)(bs:List Bool),xs=[.ref p]/\SqL X.K H p (bs.map V.bl)/\Q (.bl (bs.all id)) H):=by
 intro pins s σ H xs us Q I r h;obtain⟨p,bs,rfl,hq,q⟩:=h;obtain⟨u,rfl,ru⟩:=vals1 r;cases ru;obtain⟨its,rv,pl,hz⟩:=I.list hq;have hl:=rv.length;rw[bq]at hl;refine call_all_walk (eJ pl.isList ?_);have hne:p≠s.heap.objs.size:=by obtain⟨o,n,e,_⟩:=pl;exact Nat.ne_of_lt (Heap.lt_size e)
 refine⟨s.heap.objs.size,_,_,_,_,_,λi=>bs.getD i true,rfl,Walks.list (A:=X.A.in1) (I.ok.hd hc) s.heap.objs.size p hne its.toArray,⟨⟨_,Heap.get?_push_size _ rfl,rfl,rfl⟩,?_⟩,λi v s' Q' E' hp hQ=>?_,λh' tk kk=>?_⟩
 ·obtain⟨o,e,c,n,d⟩:=pl.isList;exact⟨o,Heap.get?_push_of_some _ e,c,n,d⟩
 ·obtain⟨b,hb,rfl⟩:=Sl rv i v (by simpa using hp);have:bs.getD i true=b:=by rw[aw,hb];rfl
  exact bt (this▸hQ)
 ·have e:(aV its.toArray.size).all (λi=>bs.getD i true)=bs.all id:=by rw[aq,<-hl];exact all_range bs
  rw[e];refine⟨.bl (bs.all id),H,I.kept (t':=tk) λb o q=>?_,rfl,q⟩;exact kk b o (by simp;exact Nat.ne_of_lt (Heap.lt_size q)) (Heap.get?_push_of_some _ q)
theorem DL{ys:List Str}:∀{us:List Value},Vals (ys.map V.str) us->StrsAre us ys:=by
 induction ys with
|nil=>intro us r;rw[ff]at r;cases r;exact .nil
|cons y ys ih=>
  intro us r;rw[ar]at r;cases r with
 |cons r1 r2=>obtain⟨t,e⟩:=r1;subst e;exact .cons y t (ih r2)
theorem En:MtR X "str.join" (λx vs H Q=>∃(z:Str)(p:Addr)(ys:List Str),x=.str z/\vs=[.ref p]/\SqL X.K H p (ys.map V.str)/\(ys.map (·.length)).sum+ys.length*z.length<=16777216/\Q (.str (Txt.join z ys)) H):=by intro pins s σ H x xs v us Q I rx rs h;obtain⟨z,p,ys,rfl,rfl,hq,hz,q⟩:=h;obtain⟨t,rfl⟩:=rx;obtain⟨u,rfl,ru⟩:=vals1 rs;cases ru;obtain⟨its,rv,pl,hl⟩:=I.list hq;exact join_list pl.isList (by simpa using DL rv) hz λt' k=>⟨.str (Txt.join z ys),H,I.tok k,⟨t',rfl⟩,q⟩
theorem Rj:SlR X (λx lo hi H Q=>∃z,x=.str z/\z.length<=sizeLine/\Q (.str (Txt.slice z lo hi)) H):=by
 intro pins s σ H x v vl vu lo hi sl Q I rx hs pl pu h;obtain⟨z,rfl,hz,q⟩:=h;obtain⟨t,rfl⟩:=rx;have fin:∀t' k,EP X pins σ Q (.str (Txt.slice z lo hi) t') {s with toks:=k}:=λt' k=>⟨.str _,H,I.tok k,⟨t',rfl⟩,q⟩;have len:=Nat.le_trans (Txt.slice_le z lo hi) hz;refine⟨"str",_,PyProof.Rows.slot_str_getitem.lookup,typeIs_str _ _ _,?_⟩;obtain⟨o,ho,hc,hd⟩:=hs;cases pl with
|none=>
  cases pu with
 |none=>exact eh (l:=none) (u:=none) (st:=none) ⟨o,ho,hc,hd⟩ rfl (gH ⟨len,fin⟩)
 |int j uj=>exact eh (l:=none) (u:=some (j,uj)) (st:=none) ⟨o,ho,hc,hd⟩ rfl (gH ⟨len,fin⟩)
|int i ui=>
  cases pu with
 |none=>exact eh (l:=some (i,ui)) (u:=none) (st:=none) ⟨o,ho,hc,hd⟩ rfl (gH ⟨len,fin⟩)
 |int j uj=>exact eh (l:=some (i,ui)) (u:=some (j,uj)) (st:=none) ⟨o,ho,hc,hd⟩ rfl (gH ⟨len,fin⟩)
def A1(i j:Int):Prop:=0<j/\j.natAbs.log2<9000
theorem Lr:OpR X (et .FloorDiv) (rI A1 λi j=>.int (i / j)):=opI λi j _ _ _ _ _ hc q=>by have h1:(0:Int)<j:=hc.1;exact floordiv_int (by omega) (by rw[Int.fdiv_eq_ediv_of_nonneg i (by omega)];exact q) (.inl (PyProof.noPylong_of_log2 hc.2))
theorem Dr:YI X (.builtin "isinstance") (λxs H Q=>∃x c t b,xs=[x,.ty c]/\TyOf X.K H x t/\aH X.K t (.type c)=some b/\Q (.bl b) H):=by intro pins s σ H xs us Q I r h;obtain⟨x,c,t,b,rfl,ty,e,q⟩:=h;obtain⟨u,w',rfl,ru,rw'⟩:=vals2 r;cases rw';exact Wo I ru ty e λtk=>⟨.bl b,H,I.tok tk,rfl,q⟩
end
theorem PU:bF "int"=some (.type "int"):=by decide +kernel
theorem TH:bF "bool"=some (.type "bool"):=by decide +kernel
theorem Ds:bF "str"=some (.type "str"):=by decide +kernel
def Df(K:aa)(mg:Str->Option Value)(x:Str)(st:Stmt)(ps:List Str):Prop:=∃f fd,Fun K x x st f fd/\mg x=some (.ref f)/\Binds K fd ps []
def Can(P:Program)(w:World)(K:aa)(mg:Str->Option Value)(base:Heap)(k:Nat)(x:Str)(ps:List Str)(sp:Sp):Prop:=∃f fd,FnOk P w K mg base CX0 k f fd ps sp/\mg x=some (.ref f)/\aZ K (.ref f)=true/\Binds K fd ps []
section
variable {P:Program}{w:World}{K:aa}{mg:Str->Option Value}{base:Heap}
theorem Df.can{x:Str}{st:Stmt}{N ps:List Str}{k:Nat}{sp:Sp}(D:Df K mg x st ps)(S:FnScope N ps (Zc st))(len:∀vs H Q E,sp vs H Q E->vs.length=ps.length)(hbody:∀(f:Addr)(cdv:Value)(A:a9)(outer:List Env)(s:ag)(H:Hp)(vs:List V)(Q:VK)(E:XK),Room k (A.deeper (dU x (Zc st) s.heap.objs.size f cdv))->sp vs H Q E ->∃t,PSs (cxOf CX0 P w K mg base N x (Zc st) f cdv A outer s H E).nox (ZQ st) t/\t {nx:=λ_ H'=>Q .non H',rt:=Q} (start N vs) H):Can P w K mg base (k+1) x ps sp:=by obtain⟨f,fd,F,m,b⟩:=D;exact⟨f,fd,F.ok S len (λcdv A outer s H vs Q E hr h=>hbody f cdv A outer s H vs Q E hr h),m,F.kp,b⟩
end
section
variable {X:Cx}
theorem YB{k:Nat}{x:Str}{ps:List Str}{sp:Sp}{p pos:Pos}{e:Expr}{es:List Expr}{t:TA}(C:Can X.prog X.w X.K X.mg X.base k x ps sp)(hr:Room k X.A)(hg:Gl X x)(ha:PA X (e::es) t)(hdb:(x==("__debug__":Str))=false:=by decide)(he:aI (e::es) X.env=(false,eval e X.env)::aI es X.env:=by rfl)(hpl:(b8 pos (aI es X.env)).any (·.1)=false:=by rfl):PE X (.Call (.Name x p) (e::es) [] pos) (G0 sp [] E0 t):=by obtain⟨f,fd,F,m,kp,b⟩:=C;exact SU F hr hg m kp b .nil Yl ha hdb he hpl
end
inductive Th(H:Hp):V->String->Prop where
|non:Th H .non "NoneType"
|bl (b:Bool):Th H (.bl b) "bool"
|int (i:Int):Th H (.int i) "int"
|str (z:Str) (h:z.length<=1000):Th H (.str z) "str"
|lst {a:Addr}{xs:List V} (e:H a=some (.lst xs)):Th H (.ref a) "list"
|tup {a:Addr}{xs:List V} (e:H a=some (.tup xs)):Th H (.ref a) "tuple"
|dK {a:Addr}{kvs:List (Key×V)} (e:H a=some (.dK kvs)):Th H (.ref a) "dict"
theorem Th.ty{K:aa}{H:Hp}{v:V}{T:String}(h:Th H v T):TyOf K H v (.type T):=by
 cases h with
|non=>exact .non
|bl b=>exact .bl b
|int i=>exact .int i
|str z h=>exact .str z
|lst e=>exact .lst e
|tup e=>exact .tup e
|dK e=>exact .dK e
theorem Th.same{H H':Hp}(s:Same H H'){v:V}{T:String}(h:Th H v T):Th H' v T:=by
 cases h with
|non=>exact .non
|bl b=>exact .bl b
|int i=>exact .int i
|str z h=>exact .str z h
|lst e=>exact .lst (s _ _ e)
|tup e=>exact .tup (s _ _ e)
|dK e=>exact .dK (s _ _ e)
section
variable (K:aa)
theorem Ho:aH K (.type "NoneType") (.type "int")=some false:=by kernel_rfl
theorem Hq:aH K (.type "NoneType") (.type "bool")=some false:=by kernel_rfl
theorem Hn:aH K (.type "NoneType") (.type "str")=some false:=by kernel_rfl
theorem HB:aH K (.type "bool") (.type "int")=some true:=by kernel_rfl
theorem HC:aH K (.type "bool") (.type "bool")=some true:=by kernel_rfl
theorem HA:aH K (.type "bool") (.type "str")=some false:=by kernel_rfl
theorem LG:aH K (.type "int") (.type "int")=some true:=by kernel_rfl
theorem LH:aH K (.type "int") (.type "bool")=some false:=by kernel_rfl
theorem Hv:aH K (.type "int") (.type "str")=some false:=by kernel_rfl
theorem Hl:aH K (.type "str") (.type "int")=some false:=by kernel_rfl
theorem Hm:aH K (.type "str") (.type "bool")=some false:=by kernel_rfl
theorem Hk:aH K (.type "str") (.type "str")=some true:=by kernel_rfl
theorem Hs:aH K (.type "list") (.type "int")=some false:=by kernel_rfl
theorem Ht:aH K (.type "list") (.type "bool")=some false:=by kernel_rfl
theorem Hr:aH K (.type "list") (.type "str")=some false:=by kernel_rfl
theorem Hi:aH K (.type "tuple") (.type "int")=some false:=by kernel_rfl
theorem Hj:aH K (.type "tuple") (.type "bool")=some false:=by kernel_rfl
theorem Hh:aH K (.type "tuple") (.type "str")=some false:=by kernel_rfl
theorem Hx:aH K (.type "dict") (.type "int")=some false:=by kernel_rfl
theorem Hy:aH K (.type "dict") (.type "bool")=some false:=by kernel_rfl
theorem Hw:aH K (.type "dict") (.type "str")=some false:=by kernel_rfl
end
noncomputable def HI:V->Bool
|.str _=>true
|_=>false
noncomputable def LJ:V->Bool
|.int _=>true
|_=>false
noncomputable def Fg:V->Bool
|.bl _=>true
|_=>false
theorem Th.kitS{K:aa}{H:Hp}{v:V}{T:String}(h:Th H v T):aH K (.type T) (.type "str")=some (HI v):=by
 cases h with
|non=>exact Hn K
|bl b=>exact HA K
|int i=>exact Hv K
|str z h=>exact Hk K
|lst e=>exact Hr K
|tup e=>exact Hh K
|dK e=>exact Hw K
theorem Th.kitB{K:aa}{H:Hp}{v:V}{T:String}(h:Th H v T):aH K (.type T) (.type "bool")=some (Fg v):=by
 cases h with
|non=>exact Hq K
|bl b=>exact HC K
|int i=>exact LH K
|str z h=>exact Hm K
|lst e=>exact Ht K
|tup e=>exact Hj K
|dK e=>exact Hy K
theorem Th.kitI{K:aa}{H:Hp}{v:V}{T:String}(h:Th H v T):aH K (.type T) (.type "int")=some (LJ v||Fg v):=by
 cases h with
|non=>exact Ho K
|bl b=>exact HB K
|int i=>exact LG K
|str z h=>exact Hl K
|lst e=>exact Hs K
|tup e=>exact Hi K
|dK e=>exact Hx K
section
variable {X:Cx}
def tIsi(K:aa)(c:String)(te:TE):TE:=tCB (λxs H Q=>∃x c t b,xs=[x,.ty c]/\TyOf K H x t/\aH K t (.type c)=some b/\Q (.bl b) H) (Yo te (Yo (tC (.ty c)) tNil))
theorem Xu{e:Expr}{te:TE}{c:String}{cx:Str}{p p2 pos:Pos}(he:PE X e te)(hg:Gl X "isinstance")(hm:X.mg "isinstance"=none)(hg2:Gl X cx)(hm2:X.mg cx=none)(hb:bF cx=some (.type c))(hn:cx≠"__name__":=by decide)(hd:(cx==("__debug__":Str))=false:=by decide)(hs:aI [e,.Name cx p2] X.env=(false,eval e X.env)::aI [.Name cx p2] X.env:=by rfl):PE X (.Call (.Name "isinstance" p) [e,.Name cx p2] [] pos) (tIsi X.K c te):=Zv (p:=p) (pos:=pos) (Dr (X:=X)) hg hm gO (Zh he (Zh (Py (v:=V.ty c) (pos:=p2) hg2 hm2 hb rfl hn hd) Zk) hs) (he:=hs)
end
def RecX(B:Heap)(x:Addr)(c:Value)(dd:Option Addr)(fl:Value)(h:Heap):Prop:=∃o vs,h.get? x=some o/\o.cls=c/\o.dict=dd/\o.data=.fields vs/\1<vs.size /\((vs[1]?=some .none/\fl=.none)\/∃T oT ts,vs[1]?=some (.ref T)/\B.get? T=none/\T≠x/\h.get? T=some oT/\oT.data=.fields ts/\ts[3]?=some fl)
structure Fly(B:Heap)(l:List Env)(x:Addr)(c:Value)(dd:Option Addr)(fl:Value)(h:Heap):Prop where
 keep:B.StaysIn h
 new:B.get? x=none
 frames:h.FunFrames B l
 row:RecX B x c dd fl h
theorem Wf(o:Obj)(f:Array Value->Array Value):(o.mapFields f).dict=o.dict:=by obtain⟨c,d,dt,sl⟩:=o;cases dt<;>rfl
theorem Y4{h:Heap}{b T:Addr}{o oT:Obj}{ts:Array Value}(hb:h.get? b=some o)(hn:∀vs,o.data≠.fields vs)(hT:h.get? T=some oT)(hd:oT.data=.fields ts):b≠T:=by rintro rfl;rw[hT]at hb;cases hb;exact hn ts hd
section
variable {M:Model}{A:a9}{E:Value->ag->Prop}{s:ag}{B:Heap}{env:Env}{outer:List Env}{L x:Addr}{c:Value}{dd:Option Addr}{Q:Unit->ag->Prop}
theorem NP{o:Obj}{vs:Array Value}{head:Value}{had:Bool}(hfr:A.frames=some (env::outer))(hf:env.frame=some L)(hl:s.heap.FunFrames B (env::outer))(hk:B.StaysIn s.heap)(hn:B.get? x=none)
  (hx:s.heap.get? x=some o) (hc:o.cls=c) (hdd:o.dict=dd) (hd:o.data=.fields vs) (hz:1<vs.size)
  (hQ:∀h',Fly B (env::outer) x c dd (dh L) h'->s.heap.UpToSlots h'->Q () {s with heap:=h'}):
  wpAny M A (do let fr <-frameOf env;let pl <-entryPlaceOf L had;let t <-EntryCells.newEntry head fr .none (dh L) .none pl;setField (.ref x) 1 t) Q E s:=by
 have xf:x∉(env::outer).filterMap (·.frame):=λhm=>by
  obtain⟨_,u,hu,hnf⟩:=hl.mem hm
  rw[hx]at hu
  cases hu
  exact hnf vs hd
 refine ae (wpAny_frameOf_fun hfr hl hf λh1 so=>?_)
 refine ae (wpAny_entryPlaceOf λpl hpl=>?_)
 unfold EntryCells.newEntry newFields
 refine ae (cS ?_ (hpl.sizeOk5 _ _ _ _ _))
 have x1:h1.get? x=some o:=(so.2.1 x xf).trans hx
 have k1:B.StaysIn h1:=λb u hb=>(so.2.1 b λhm=>by rw[(hl.mem hm).1]at hb;cases hb).trans (hk b u hb)
 generalize hOT:({cls:=.type "traceback",dict:=none,data:=.fields ([head,.ref L,.none,dh L,.none]++(if pl.isEmpty then bC 6 Value.none else pl)).toArray}:Obj)=oT
 have x2:(h1.push oT).get? x=some o:=Heap.get?_push_of_some _ x1
 have nT:h1.objs.size≠x:=Nat.ne_of_gt (Heap.lt_size x1)
 have d3:=Obj.data_mapFields hd (·.setIfInBounds 1 (Value.ref h1.objs.size))
 have x3:=Heap.get?_update_self (Obj.mapFields (·.setIfInBounds 1 (Value.ref h1.objs.size))) x2 (Obj.isFreed_of_fields d3)
 refine c8 x2 hd hz (hQ _ ?_ ?_)
 ·have other:∀b u,b≠x->h1.get? b=some u->((h1.push oT).update x (Obj.mapFields (·.setIfInBounds 1 (Value.ref h1.objs.size)))).get? b=some u:=λb u hb q=>by
   rw[Heap.get?_update_other _ _ (bo hb)]
   exact Heap.get?_push_of_some _ q
  refine⟨λb u hb=>other b u (λq=>by rw[q,hn]at hb;cases hb) (k1 b u hb),hn,hl.of_keeps λb u hb hnf=>?_,?_⟩
  ·obtain⟨sl,q⟩:=so.2.2 b u hb
   exact⟨_,other b _ (Y4 hb hnf hx hd) q,rfl⟩
  ·have oTf:oT.isFreed=false:=by rw[<-hOT];rfl
   refine⟨_,_,x3,(Obj.cls_mapFields _ _).trans hc,(Wf _ _).trans hdd,d3,by simpa using hz,.inr ⟨h1.objs.size,oT,([head,.ref L,.none,dh L,.none]++(if pl.isEmpty then bC 6 Value.none else pl)).toArray,by simp[hz],k1.fresh,nT,?_,by rw[<-hOT],?_⟩⟩
   ·rw[Heap.get?_update_other _ _ (bo nT)]
    exact Heap.get?_push_size h1 oTf
   ·first
    |(simp;done)
    |(rcases hpl with rfl|⟨_,_,_,_,_,_,_,rfl⟩<;>simp)
 ·intro b u hb hnf
  obtain⟨sl,q⟩:=so.2.2 b u hb
  refine⟨sl,?_⟩
  rw[Heap.get?_update_other _ _ (bo (Y4 hb hnf hx hd))]
  exact Heap.get?_push_of_some _ q
theorem QN(hfr:A.frames=some (env::outer))(hf:env.frame=some L)(F:Fly B (env::outer) x c dd .none s.heap)(hQ:∀h',Fly B (env::outer) x c dd (dh L) h'->s.heap.UpToSlots h'->Q () {s with heap:=h'}):wpAny M A (noteFrame (.ref x) env) Q E s:=by
 obtain⟨o,vs,hx,hc,hdd,hd,hz,tr⟩:=F.row;unfold noteFrame;simp only[hf];rcases tr with⟨h1,_⟩|⟨T,oT,ts,h1,bT,nT,hT,hdT,h3⟩
 ·refine ae (cQ hx hd h1 ?_);rw[if_neg (by decide)];exact NP hfr hf F.frames F.keep F.new hx hc hdd hd hz hQ
 ·refine ae (cQ hx hd h1 ?_);rw[if_pos (show(Value.ref T != Value.none)=true from by simp)];refine ae (cQ hT hdT h3 ?_);rw[if_neg (show ¬((Value.none==dh L)=true)from by simp[dh])];refine ae (c8 hT hdT (fj.mp h3).1 ?_);have other:∀b,b≠T->(s.heap.update T (Obj.mapFields (·.setIfInBounds 3 Value.none))).get? b=s.heap.get? b:=λb hb=>Heap.get?_update_other _ _ (bo hb);refine NP hfr hf (F.frames.of_keeps λb u hb hnf=>⟨u,(other b (Y4 hb hnf hT hdT)).trans hb,rfl⟩) (λb u hb=>(other b λq=>by rw[q,bT]at hb;cases hb).trans (F.keep b u hb)) F.new ((other x (bo nT)).trans hx) hc hdd hd hz λh' F' U=>hQ h' F' λb u hb hnf=>U b u ((other b (Y4 hb hnf hT hdT)).trans hb) hnf
theorem QO{l:List Env}{fl:Value}(F:Fly B l x c dd fl s.heap)(hQ:∀h',Fly B l x c dd .none h'->s.heap.UpToSlots h'->Q () {s with heap:=h'}):wpAny M A (setFlight (.ref x) none) Q E s:=by
 obtain⟨o,vs,hx,hc,hdd,hd,hz,tr⟩:=F.row;unfold setFlight;rcases tr with⟨h1,e⟩|⟨T,oT,ts,h1,bT,nT,hT,hdT,h3⟩
 ·subst e;refine ae (cQ hx hd h1 ?_);rw[if_neg (by decide)];exact ai (hQ _ F (.refl _))
 ·have z3:3<ts.size:=(fj.mp h3).1;refine ae (cQ hx hd h1 ?_);rw[if_pos (show(Value.ref T != Value.none)=true from by simp)];have other:∀b,b≠T->(s.heap.update T (Obj.mapFields (·.setIfInBounds 3 ((none:Option Addr).elim Value.none λf=>dh f)))).get? b=s.heap.get? b:=λb hb=>Heap.get?_update_other _ _ (bo hb);refine c8 hT hdT z3 (hQ _ ⟨λb u hb=>(other b λq=>by rw[q,bT]at hb;cases hb).trans (F.keep b u hb),F.new,F.frames.of_keeps λb u hb hnf=>⟨u,(other b (Y4 hb hnf hT hdT)).trans hb,rfl⟩,?_⟩ λb u hb hnf=>⟨u.slots,(other b (Y4 hb hnf hT hdT)).trans hb⟩);exact⟨o,vs,(other x (bo nT)).trans hx,hc,hdd,hd,hz,.inr ⟨T,_,_,h1,bT,nT,Heap.get?_update_self _ hT (Obj.isFreed_of_fields (Obj.data_mapFields hdT _)),Obj.data_mapFields hdT _,by simp[z3]⟩⟩
theorem Wu(hfr:A.frames=some (env::outer))(hf:env.frame=some L)(F:Fly B (env::outer) x c dd .none s.heap)(hQ:∀h',Fly B outer x c dd .none h'->s.heap.UpToSlots h'->Q () {s with heap:=h'}):wpAny M A (leaving env (.ref x)) Q E s:=by unfold leaving;refine ae (QN hfr hf F λh1 F1 U1=>?_);refine QO (s:={s with heap:=h1}) F1 λh2 F2 U2=>?_;exact hQ h2 ⟨F2.keep,F2.new,F2.frames.2.2,F2.row⟩ (U1.trans U2)
end
structure BaseX(B:Heap)(fs:List Addr)(x:Addr)(H H':Hp)(h:Heap):Prop where
 trk:∀b u,H' b=some u->∃o,B.get? b=some o
 old:∀b o,h.get? b=some o->H b=none->b∉fs->B.get? b=some o
 all:∀b o,h.get? b=some o->b∈fs\/b=x\/∃o',B.get? b=some o'
 xn:H' x=none
noncomputable def CX1(P:Program)(w:World):CXT:=λouter H s E e s'=>∃(x:Addr)(c:Value)(dd:Option Addr)(B:Heap)(H':Hp),e=.ref x/\s'.os=s.os/\fE s'.gens/\Un (frs outer) [] H H' s.heap s'.heap/\HOk P w H' s'.heap /\Fly B outer x c dd .none s'.heap/\BaseX B (frs outer) x H H' s.heap/\E c dd H'
theorem QG{P:Program}{w:World}{H:Hp}{h h' B:Heap}(ok:HOk P w H h)(trk:∀b u,H b=some u->∃o,B.get? b=some o)(k:B.StaysIn h)(k':B.StaysIn h'):HOk P w H h':=λb u e=>by
 have go:∀c v,H c≠none->h.get? c=some v->h'.get? c=some v:=λc v hc q=>by
  cases e':H c with
 |none=>exact absurd e' hc
 |some u'=>obtain⟨o,ho⟩:=trk c u' e';have:=k c o ho;rw[q]at this;cases this;exact k' c _ ho
 refine(ok b u e).stay (λc v hc q=>go c v ?_ q) (λ_ q=>q) λ_ _ q=>q;rcases hc with rfl|hc
 ·rw[e];simp
 ·rw[hc];simp
section
variable {P:Program}{w:World}{K:aa}{mg:Str->Option Value}{base:Heap}{N:List Str}{qual:Str}{scope:Scope}{f:Addr}{cd:Value}{A:a9}{outer:List Env}{s:ag}{H:Hp}{E:XK}
theorem LD{pins:List (Addr×Obj)}{σ:St}{H1:Hp}{s1:ag}{x:Addr}{c:Value}{dd:Option Addr}{B:Heap}(I:Inv (cxOf (CX1 P w) P w K mg base N qual scope f cd A outer s H E) pins σ H1 s1)(F:Fly B (cxOf (CX1 P w) P w K mg base N qual scope f cd A outer s H E).stack x c dd .none s1.heap)(b:BaseX B (frs outer) x H H1 s.heap)(hE:E c dd H1):(cxOf (CX1 P w) P w K mg base N qual scope f cd A outer s H E).xe (.ref x) s1:=by
 refine Wu (L:=s.heap.objs.size) I.ok.frames rfl F λh2 F2 U=>?_;have un:Un (frs outer) [] H H1 s.heap s1.heap:=I.base;refine⟨x,c,dd,B,H1,rfl,I.os,I.bare,⟨λd o e n hd _=>F2.keep d o (b.old d o e n hd),λd o e n hd _=>?_,un.free,λd o e _=>?_,un.tups,un.frzs,un.tbls⟩,QG I.hok b.trk F.keep F2.keep,F2,b,hE⟩
 ·obtain⟨sl,q⟩:=un.slot d o e n hd (by simp);obtain⟨_,o',ho',hnf⟩:=I.ok.funs.mem hd;have eo:o'=o:=by have:s.heap.get? d=some o':=ho';rw[e]at this;exact(au this).symm
  subst eo;obtain⟨sl2,q2⟩:=U d _ q hnf;exact⟨sl2,q2⟩
 ·rcases b.all d o e with z|z|⟨o',z⟩
  ·obtain⟨_,o2,ho2,hnf⟩:=I.ok.funs.mem z;have ho2':s.heap.get? d=some o2:=ho2;obtain⟨sl,q⟩:=un.slot d o2 ho2' (I.ok.frf d z) z (by simp);obtain⟨sl2,q2⟩:=U d _ q hnf;exact⟨_,q2⟩
  ·subst z;obtain⟨o3,_,q,_⟩:=F2.row;exact⟨o3,q⟩
  ·exact⟨o',F2.keep d o' z⟩
theorem BaseX.up{X:Cx}{pins:List (Addr×Obj)}{σ:St}{H1 H2:Hp}{s1:ag}{x:Addr}{B:Heap}(I:Inv X pins σ H1 s1)(hex:X.ex=[])(b:BaseX B (frs X.stack) x H1 H2 s1.heap):BaseX B X.fs x X.H₀ H2 X.s₀.heap:=by
 have low:∀d o,X.s₀.heap.get? d=some o->d∈frs X.stack->d∈X.fs:=λd o e hd=>by
  rcases ao.mp (I.stkSub d hd)with z|z
  ·exact absurd (Nat.lt_of_lt_of_le (Heap.lt_size e) I.ok.above) (by rw[z];exact Nat.lt_irrefl _)
  ·exact z
 refine⟨b.trk,λd o e n hd=>?_,λd o e=>?_,b.xn⟩
 ·exact b.old d o (I.base.keep d o e n hd (by rw[hex];simp)) (I.base.free d o e n (by rw[hex];simp)) λz=>hd (low d o e z)
 ·obtain⟨o1,e1⟩:=I.base.there d o e (by rw[hex];simp);rcases b.all d o1 e1 with z|z|z
  ·exact .inl (low d o e z)
  ·exact .inr (.inl z)
  ·exact .inr (.inr z)
theorem EZ:Passes (CX1 P w) (cxOf (CX1 P w) P w K mg base N qual scope f cd A outer s H E) E:=by intro pins σ H1 s1 e s2 I h;obtain⟨x,c,dd,B,H2,rfl,os,bare,un,hok,F,b,hE⟩:=h;have I2:Inv (cxOf (CX1 P w) P w K mg base N qual scope f cd A outer s H E) pins σ H2 s2:=I.call' os un hok bare λb z=>absurd z (by simp);exact LD I2 F (BaseX.up I rfl b) hE
end
noncomputable abbrev bmV:List Value:=[.type "ValueError",.type "Exception",.type "BaseException",.type "object"]
structure XC(K:aa)(C fI Qa:Addr):Prop where
 obj:∃nm q N bs sn sub ab col dd k0 k1 k2 k3 k5,K.lookup C=some (excClassObj nm q C N bs (.ref Qa::bmV) true sn sub ab col dd k0 k1 k2 k3 k5 "ValueError.__new__") /\
  eT K N=true/\bu K N "__init__"=some (some (.ref fI))
 tail:eR K bmV (.ref Qa::bmV)=true
 fn:∃o,K.lookup fI=some o/\o.cls=.type "function"
 sa:az K (.ref C) "__setattr__"=some (some (.builtin "object.__setattr__"))
 ob:fv K C (.type "object")=some true
theorem Ry{K:aa}{h:Heap}{N:Addr}{mg:Str->Option Value}{n:Str}{v:Value}(X:K.In h)(G:h.Ns N mg)(e:bu K N n=some (some v)):mg n=some v:=by
 obtain⟨o,es,ep,ho,hd,_,hf⟩:=G;unfold bu at e;split at e
 ·rename_i c d es' n' sl q;have this:=X _ _ q;rw[ho]at this;cases this;cases hd;split at e
  ·rename_i en he;cases e;rw[<-hf];unfold nsFind findBy;rw[<-Array.find?_toList,he];rfl
  ·split at e<;>cases e
 ·cases e
section
variable {prog:Program}{w:World}{A:a9}{E:Value->ag->Prop}{K:aa}{C fI Qa:Addr}{h:Heap}{g:Array GenState}{d:Drawn}{t:Nat}{os:bE}{rest:List Value}
theorem Q2{Q:Fin->ag->Prop}(X:K.In h)(c:XC K C fI Qa)(hz:rest.length<=sizeLine)(hq:∀h' e,h.objs.size<=e->Heap.MadeExcOf h h' e (.ref C) rest->wpAny (model prog w) A (call (.ref fI) (.ref e::rest)) (λr s'=>r=.none/\Q (.done (.ret (.ref e))) s') E ⟨h',g,d,t,os⟩):wpAny (model prog w) A (dD.«type.__call__» ⟨.ref C::rest,[]⟩) Q E ⟨h,g,d,t,os⟩:=by
 obtain⟨nm,q,N,bs,sn,sub,ab,col,dd,k0,k1,k2,k3,k5,lk,nok,hin⟩:=c.obj;obtain⟨oI,lI,cI⟩:=c.fn;have FV:=PySem.F.excBase_ValueError;have hC:=X _ _ lk;have hN:h.Ns N (h.nsMap N):=.of_isNs (PySem.W.isNs_of_in X nok);have hI:h.nsMap N "__init__"=some (.ref fI):=Ry X hN hin;have TL:OwnTail h bmV (.ref Qa::bmV):=PySem.W.tail_of_in X c.tail;repeat (first|with_reducible refine bW hC ?_|(with_reducible refine wpAny_madeBy_exc hC ?_)|wp_step)
 refine codeAny_call_builtin_code (Code.quiet_builtin _ FV.quiet) (wpAny_check_new_subU FV FV.hasB TL hC ?_);refine codeAny_exc_new_subU FV FV.hasB FV TL hC ?_ hz;show wpAny _ _ _ _ _ _;generalize hh1:(h.push {cls:=.type "tuple",data:=.seq rest.toArray}).push {cls:=.ref C,data:=.fields #[.ref h.objs.size,.none,.none,.none,.bool false,.none]}=h1;have k1':∀b o,h.get? b=some o->h1.get? b=some o:=λb o e=>by rw[<-hh1];exact Heap.get?_push_of_some _ (Heap.get?_push_of_some _ e)
 have ge:h1.get? (h.objs.size+1)=some {cls:=.ref C,data:=.fields #[.ref h.objs.size,.none,.none,.none,.bool false,.none]}:=by rw[<-hh1];heap_get
 have gt:h1.get? h.objs.size=some {cls:=.type "tuple",data:=.seq rest.toArray}:=by rw[<-hh1];exact Heap.get?_push_of_some _ (Heap.get?_push_at rfl rfl)
 have hC1:=k1' _ _ hC;have hcC:(Value.ref C::.ref Qa::bmV).contains (.ref C)=true:=by simp
 unfold isInstance;repeat (first|with_reducible refine bW ge ?_|(with_reducible refine fz hC1 ?_;rw[hcC])|wp_step)
 show wpAny _ _ (typeLookup (.ref C) _) _ _ _;refine wpAny_typeLookup_tail hC1 (hN.keeps k1') (TL.keeps k1') FV.mroIs FV.init.lookup ?_;rw[hI];refine a8 (ae (m:=bindSpecial _ _) ?_);unfold bindSpecial;refine ae (wpAny_typeOf (T:="function") ⟨_,k1' _ _ (X _ _ lI),cI⟩ ?_);rw[if_pos (by decide)];have mk:Heap.MadeExcOf h h1 (h.objs.size+1) (.ref C) rest:=⟨k1',Heap.get?_none_of_le (Nat.le_succ _),h.objs.size,ge,Heap.get?_none_of_le (Nat.le_refl _),gt⟩;refine ai (ae (cj (hq h1 _ (Nat.le_succ _) mk) (λr s' hr=>?_) λ_ _ z=>z));obtain⟨rfl,hQ⟩:=hr;wp_walk;exact hQ
theorem Ae{Q:Value->ag->Prop}(X:K.In h)(c:XC K C fI Qa)(hz:rest.length<=sizeLine)(hq:∀h' e,h.objs.size<=e->Heap.MadeExcOf h h' e (.ref C) rest->wpAny (model prog w) (A.under (.builtin "type.__call__" ⟨.ref C::rest,[]⟩)) (call (.ref fI) (.ref e::rest)) (λr s'=>r=.none/\Q (.ref e) s') E ⟨h',g,d,t,os⟩):wpAny (model prog w) A (call (.ref C) rest) Q E ⟨h,g,d,t,os⟩:=by
 obtain⟨nm,q,N,bs,sn,sub,ab,col,dd,k0,k1,k2,k3,k5,lk,nok,hin⟩:=id c.obj;have hC:=X _ _ lk;have f1:=tc_lookup;have f2:=tc_bind (.ref C);have hT:(⟨h,g,d,t,os⟩:ag).TypeIs (.ref C) "type":=⟨_,hC,rfl⟩;refine gA (codeAny_of_tree ?_);show wpAny _ _ (callAny (.ref C) _) _ _ _;repeat (any_goals (first|assumption|with_reducible refine bW hC ?_|wp_step))
 refine⟨rfl,codeAny_call_builtin_at (Code.quiet_builtin _ (by decide +kernel)) entry_typeCall (wpAny_check_type_call_sub hC ?_)⟩;exact Q2 X c hz λh' e he hm=>hq h' e he hm
theorem N8{x:Addr}{name:Str}{v:Value}{mA:Str->Option Value}{tk:Tok}{Q:Fin->ag->Prop}{ns:List Str}(X:K.In h)(c:XC K C fI Qa)(hna:az K (.ref C) name=some none)(I:h.Inst x C mA)(hw:Within mA ns)(hz:ns.length<=1000)(hq:∀h' tk',h'.Inst x C (λy=>if y=name then some v else mA y) ->(∀b o,b≠x->(∀o₀ dx,h.get? x=some o₀->o₀.dict=some dx->b≠dx)->h.get? b=some o->h'.get? b=some o) ->(∀o₀,h.get? x=some o₀->∃o₁ d₁,h'.get? x=some o₁/\o₁.cls=o₀.cls/\o₁.data=o₀.data/\o₁.dict=some d₁/\((o₀.dict=some d₁)\/(o₀.dict=none/\h.get? d₁=none)))->Q (.done (.ret .none)) ⟨h',g,d,tk',os⟩):wpAny (model prog w) A (dD.«object.__setattr__» ⟨[.ref x,.str name tk,v],[]⟩) Q E ⟨h,g,d,t,os⟩:=by
 obtain⟨nm,q,N,bs,sn,sub,ab,col,dd,k0,k1,k2,k3,k5,lk,nok,hin⟩:=c.obj;have hC:=X _ _ lk;obtain⟨o,hx,hc,hnc,hd⟩:=I;have hpass:=PySem.F.store_ValueError.passes (.ref x);have LN:=ej (M:=model prog w) X hna;unfold dD.«object.__setattr__»;repeat (first|rw[refuse_eq]|(rw[refuseLoop_ref,refuseLoop_ref,hpass])|(with_reducible refine bW hx ?_;rw[hc])|(with_reducible refine wpAny_mroOf_exc hC ?_)|(with_reducible refine LN.at ?_)|wp_step)
 rcases hd with⟨hdn,hmA⟩|⟨dx,hdx,hne,hns⟩
 ·rw[hdn,if_neg (by simp[typeHasDict])];split
  ·rename_i hcd;cases hcd
  split
  ·rename_i cc hcd;exact absurd hcd (hnc cc)
  ·have xs:x≠h.objs.size:=Nat.ne_of_lt (Heap.lt_size hx);have dn:h.get? h.objs.size=none:=Heap.get?_none_of_le (Nat.le_refl _);have x1:(h.push {cls:=.type "dict",data:=.dict #[]}).get? x=some o:=Heap.get?_push_of_some _ hx;refine ae (wpAny_alloc' (ae (wpAny_update' x1 (ai ?_))));generalize hU:(h.push {cls:=.type "dict",data:=.dict #[]}).update x (λo=>{cls:=o.cls,dict:=some h.objs.size,data:=o.data,slots:=o.slots})=hu;have gd:hu.get? h.objs.size=some {cls:=.type "dict",data:=.dict #[]}:=by rw[<-hU];exact(Heap.get?_update_ne _ _ _ _ xs.symm).trans (Heap.get?_push_at rfl rfl)
   have gx:hu.get? x=some {cls:=o.cls,dict:=some h.objs.size,data:=o.data,slots:=o.slots}:=by rw[<-hU];refine Heap.get?_update_self _ x1 ?_;have hfr:=(Heap.get?_some_iff.mp hx).2;obtain⟨oc,od,odt,osl⟩:=o;cases odt<;>first|rfl|exact hfr
   have nd:hu.Ns h.objs.size (λ_=>none):=⟨_,#[],_,gd,rfl,λe he=>absurd he (by simp),λ_=>rfl⟩;have ob:∀b u,b≠x->h.get? b=some u->hu.get? b=some u:=λb u hb e=>by rw[<-hU];exact(Heap.get?_update_ne _ _ _ _ hb).trans (Heap.get?_push_of_some _ e)
   show wpAny _ _ (cw h.objs.size (.str name tk) name v) _ _ _;unfold cw fR;refine ae (ai (ae (wpAny_nsSet1 (Heap.Ns1.of_empty nd) λh2 n2 s2=>?_)));obtain⟨oD,esD,epD,hoD,hdD,hcD⟩:=n2.count (Within.cons name v Within.nil);refine ae (wpAny_lookBehind hoD (by rw[hdD];exact pastItsLine_dict (Nat.le_trans hcD (by rw[aR,eQ,fh];omega))) ?_);wp_walk;have gx2:h2.get? x=some {cls:=o.cls,dict:=some h.objs.size,data:=o.data,slots:=o.slots}:=(s2.2 x xs).trans gx;refine hq h2 _ ⟨_,gx2,hc,hnc,.inr ⟨h.objs.size,rfl,xs.symm,?_⟩⟩ (λb u hb _ e=>(s2.2 b (Nat.ne_of_lt (Heap.lt_size e))).trans (ob b u hb e)) λo₀ e₀=>?_
   ·obtain⟨o',es,ep,e1,e2,e3,eu,e4⟩:=n2;exact⟨o',es,ep,e1,e2,e3,eu,λy=>by rw[e4 y];by_cases hy:y=name<;>simp[hy,hmA]⟩
   ·have eo:o=o₀:=au (hx.symm.trans e₀);subst eo;exact⟨_,h.objs.size,gx2,rfl,rfl,rfl,.inr ⟨hdn,dn⟩⟩
 ·rw[hdx];refine ai ?_;show wpAny _ _ (cw dx (.str name tk) name v) _ _ _;unfold cw fR;refine ae (ai (ae (wpAny_nsSet1 hns λh2 n2 s2=>?_)));obtain⟨oD,esD,epD,hoD,hdD,hcD⟩:=n2.count (Within.cons name v hw);refine ae (wpAny_lookBehind hoD (by rw[hdD];exact pastItsLine_dict (Nat.le_trans hcD (by rw[aR,fh];omega))) ?_);wp_walk;have gx2:=(s2.2 x hne.symm).trans hx;refine hq h2 _ ⟨o,gx2,hc,hnc,.inr ⟨dx,hdx,hne,n2⟩⟩ (λb u _ hbd e=>(s2.2 b (hbd o dx hx hdx)).trans e) λo₀ e₀=>?_;have eo:o=o₀:=au (hx.symm.trans e₀);subst eo;exact⟨_,dx,gx2,rfl,rfl,hdx,.inl hdx⟩
end
noncomputable def ErrN(x C:Addr)(dd:Option Addr):HO:=.ext λh=>∃o vs,h.get? x=some o/\o.cls=.ref C/\o.dict=dd/\o.data=.fields vs/\1<vs.size/\vs[1]?=some .none
noncomputable def XD(d:Addr)(fs:List (Str×V)):HO:=.ext λh=>∃mA,h.Ns1 d mA/\(∀f,RelO (fs.lookup f) (mA f))/\dB mA (fs.map (·.1))/\fs.length<=1000
section
variable {P:Program}{w:World}{H:Hp}{h:Heap}{x C d:Addr}{dd:Option Addr}{fs:List (Str×V)}
theorem VI:ZR P w H h x (ErrN x C dd)↔∃o vs,h.get? x=some o/\o.cls=.ref C/\o.dict=dd/\o.data=.fields vs/\1<vs.size/\vs[1]?=some .none:=by
 constructor
 ·intro z;exact z.1
 ·rintro ⟨o,vs,hx,r⟩;exact⟨⟨o,vs,hx,r⟩,⟨o,hx⟩,λh1 h2⟨o',vs',e,r'⟩k=>⟨o',vs',k _ e,r'⟩⟩
theorem EN:ZR P w H h d (XD d fs)↔∃mA,h.Ns1 d mA/\(∀f,RelO (fs.lookup f) (mA f))/\dB mA (fs.map (·.1))/\fs.length<=1000:=by
 constructor
 ·intro z;exact z.1
 ·rintro ⟨mA,⟨o,es,ep,e,r⟩,q⟩;exact⟨⟨mA,⟨o,es,ep,e,r⟩,q⟩,⟨o,e⟩,λh1 h2⟨m,⟨o',es',ep',e',r'⟩,q'⟩k=>⟨m,⟨o',es',ep',k _ e',r'⟩,q'⟩⟩
end
section
variable {X:Cx}{pins:List (Addr×Obj)}{σ:St}{H:Hp}{s:ag}{x C fI Qa:Addr}{name:Str}{y:V}{u:Value}{Q:Unit->ag->Prop}
theorem W4{A:a9}{E:Value->ag->Prop}{mA:Str->Option Value}{ns:List Str}(I:Inv X pins σ H s)(c:XC X.K C fI Qa)(hna:az X.K (.ref C) name=some none)(In:s.heap.Inst x C mA)(hw:dB mA ns)(hz:ns.length<=1000)(hq:∀h' tk',h'.Inst x C (λz=>if z=name then some u else mA z) ->(∀b o,b≠x->(∀o₀ dx,s.heap.get? x=some o₀->o₀.dict=some dx->b≠dx)->s.heap.get? b=some o->h'.get? b=some o) ->(∀o₀,s.heap.get? x=some o₀->∃o₁ d₁,h'.get? x=some o₁/\o₁.cls=o₀.cls/\o₁.data=o₀.data/\o₁.dict=some d₁/\((o₀.dict=some d₁)\/(o₀.dict=none/\s.heap.get? d₁=none)))->Q () {s with heap:=h',toks:=tk'}):wpAny (model X.prog X.w) A (setAttr (.ref x) name u) Q E s:=by
 have KX:=I.kIn;obtain⟨o,hx,hc,hnc,hd⟩:=id In;have no:fZ o=true:=by
  unfold fZ;split
  ·rename_i cc e;exact absurd e (hnc cc)
  ·rfl
 obtain⟨od,IA⟩:∃od,iI s.heap x o C od:=by
  rcases hd with⟨e,_⟩|⟨dx,e,_,oD,es,ep,hD,_⟩
  ·exact⟨none,hx,hc,no,by rw[e];trivial⟩
  ·exact⟨some oD,hx,hc,no,by rw[e];exact hD⟩
 have SF:=PySem.F.store_object;refine PySem.W.set_plain KX IA c.sa ?_;have sub:PySem.W.Looks (model X.prog X.w) s.heap (isInstance (.ref x) (.type "object")) true:=IA.type.andThen (PySem.W.looks_mroIn KX c.ob);refine codeAny_call_builtin SF.slot.plain SF.entry (@PySem.W.check_slot (model X.prog X.w) _ _ {s with toks:=s.toks+1} "object.__setattr__" "object" "__setattr__" (.ref x) [.str name s.toks,u] [] _ SF.kind SF.split sub (SF.args (.ref x) (.str name s.toks) u) ?_);exact N8 (h:=s.heap) (g:=s.gens) (d:=s.drawn) (t:=s.toks+1) (os:=s.os) KX c hna In hw hz λh' tk' I' kk same=>hq h' tk' I' kk same
end
def V2(H:Hp)(h:Heap)(d:Addr):Prop:=(H d=none/\h.get? d=none)\/∃φ,H d=some (.ext φ)
section
variable {P:Program}{w:World}{H:Hp}{h h':Heap}{x d:Addr}{o1 o2:HO}{fs:List Addr}
theorem V2.ne{b:Addr}{u:HO}(q:V2 H h d)(e:H b=some u)(hu:∀φ,u≠.ext φ):b≠d:=by
 rintro rfl;rcases q with⟨z,_⟩|⟨φ,z⟩
 ·rw[e]at z;cases z
 ·rw[e]at z;cases z;exact hu φ rfl
theorem V3{b:Addr}(hx:b≠x)(hd:b≠d):upd (upd H d o1) x o2 b=H b:=by rw[Zg hx,Zg hd]
theorem Qs{a:Addr}{o:HO}(z:ZR P w H h a o):∃ob,h.get? a=some ob:=by
 induction o with
|lst xs=>obtain⟨_,_,_,_,e⟩:=z;exact⟨_,e⟩
|tup xs=>obtain⟨_,_,_,ob,e,_⟩:=z;exact⟨_,e⟩
|dK kvs=>obtain⟨_,_,_,_,ob,_,_,e,_⟩:=z;exact⟨_,e⟩
|dT kvs=>obtain⟨_,_,_,_,ob,_,_,e,_⟩:=z;exact⟨_,e⟩
|set S n=>obtain⟨ob,_,_,_,e,_⟩:=z;exact⟨_,e⟩
|ins C dx fs=>obtain⟨_,_,_,e,_⟩:=z;exact⟨_,e⟩
|own y=>exact z
|xd fs=>obtain⟨_,⟨ob,_,_,e,_⟩,_⟩:=z;exact⟨_,e⟩
|rng lo hi=>obtain⟨_,_,_,e⟩:=z;exact⟨_,e⟩
|frz ob u ih=>exact⟨_,z.1⟩
|tbl ps=>exact⟨_,z⟩
|met f y=>exact⟨_,z⟩
|ext φ=>exact z.2.1
theorem Fp(qx:V2 H h x)(qd:V2 H h d)(k:∀b o,b≠x->b≠d->h.get? b=some o->h'.get? b=some o)(xo:∃o,h'.get? x=some o)(dO:∃o,h'.get? d=some o):Un fs [] H (upd (upd H d o1) x o2) h h':=by
 have off:∀{z:Addr},V2 H h z->∀b o,h.get? b=some o->H b=none->b≠z:=by
  intro z q b o e n;rintro rfl;rcases q with⟨_,y⟩|⟨φ,y⟩
  ·rw[e]at y;cases y
  ·rw[n]at y;cases y
 refine⟨λb o e n _ _=>k b o (off qx b o e n) (off qd b o e n) e,λb o e n _ _=>⟨o.slots,k b o (off qx b o e n) (off qd b o e n) e⟩,λb o e n _=>(V3 (off qx b o e n) (off qd b o e n)).trans n,λb o e _=>?_,λb xs e=>(V3 (qx.ne e (by simp)) (qd.ne e (by simp))).trans e,λb o u e=>(V3 (qx.ne e (by simp)) (qd.ne e (by simp))).trans e,λb ps e=>⟨#[],(V3 (qx.ne e (by simp)) (qd.ne e (by simp))).trans (by simpa using e)⟩⟩;by_cases hx:b=x
 ·exact hx▸xo
 ·by_cases hd:b=d
  ·exact hd▸dO
  ·exact⟨o,k b o hx hd e⟩
theorem EB(ok:HOk P w H h)(qx:V2 H h x)(qd:V2 H h d)(ne:d≠x)(k:∀b o,b≠x->b≠d->h.get? b=some o->h'.get? b=some o)(nx:ZR P w (upd (upd H d o1) x o2) h' x o2)(nd:ZR P w (upd (upd H d o1) x o2) h' d o1):HOk P w (upd (upd H d o1) x o2) h':=λb u e=>by
 by_cases hx:b=x
 ·subst hx;rw[Zf]at e;cases e;exact nx
 ·by_cases hd:b=d
  ·subst hd;rw[Zg ne,Zf]at e;cases e;exact nd
  ·rw[V3 hx hd]at e;refine(ok b u e).stay (λc v hc q=>?_) (λc q=>(V3 (qx.ne q (by simp)) (qd.ne q (by simp))).trans q) λc xs q=>(V3 (qx.ne q (by simp)) (qd.ne q (by simp))).trans q;rcases hc with rfl|hc
   ·exact k _ v hx hd q
   ·exact k _ v (qx.ne hc (by simp)) (qd.ne hc (by simp)) q
end
section
variable {X:Cx}{pins:List (Addr×Obj)}{σ:St}{H:Hp}{s:ag}{x C fI Qa:Addr}{f:Str}{y:V}{u:Value}{Q:Unit->ag->Prop}
theorem Wv{dd:Option Addr}{h:Heap}(e:H x=some (ErrN x C dd)):V2 H h x:=.inr ⟨_,e⟩
theorem K4{fs:List (Str×V)}{mA:Str->Option Value}(r:∀g,RelO (fs.lookup g) (mA g))(ry:RelV y u)(g:Str):RelO ((putF f y fs).lookup g) (if g=f then some u else mA g):=by
 rw[Ye];by_cases q:g=f
 ·rw[if_pos q,if_pos q];exact ry
 ·rw[if_neg q,if_neg q];exact r g
theorem Q3{fs:List (Str×V)}{mA:Str->Option Value}(wi:dB mA (fs.map (·.1))):dB (λg=>if g=f then some u else mA g) ((putF f y fs).map (·.1)):=λg hg=>by
 by_cases q:g=f
 ·rw[q];exact(Jp f y fs).1
 ·refine(Jp f y fs).2 g (wi g λz=>hg ?_);show(if g=f then some u else mA g)=none;rw[if_neg q];exact z
theorem W3{A:a9}{E:Value->ag->Prop}(I:Inv X pins σ H s)(c:XC X.K C fI Qa)(hna:az X.K (.ref C) f=some none)(e:H x=some (ErrN x C none))(ry:RelV y u)(h:∀d s',d≠x->H d=none->Inv X pins σ (upd (upd H d (XD d [(f,y)])) x (ErrN x C (some d))) s'->Q () s'):wpAny (model X.prog X.w) A (setAttr (.ref x) f u) Q E s:=by
 obtain⟨o,vs,hx,hc,hdd,hd,hz,h1⟩:=VI.mp (I.hok x _ e);have In:s.heap.Inst x C (λ_=>none):=⟨o,hx,hc,(λcc q=>by rw[hd]at q;cases q),.inl ⟨hdd,λ_=>rfl⟩⟩;refine W4 (ns:=[]) I c hna In (λg hg=>absurd rfl hg) (Nat.zero_le _) λh' tk' I' k same=>?_;obtain⟨o₁,d₁,hx',c1,dt1,dd1,sd⟩:=same o hx;have dn:s.heap.get? d₁=none:=by
  rcases sd with z|⟨_,z⟩
  ·rw[hdd]at z;cases z
  ·exact z
 obtain⟨o',hx2,_,_,hdx⟩:=I';have eo:o'=o₁:=au (hx2.symm.trans hx');subst eo;have Hd:H d₁=none:=by
  cases q:H d₁ with
 |none=>rfl
 |some v=>
   obtain⟨ob,z⟩:∃ob,s.heap.get? d₁=some ob:=by have:=I.hok _ _ q;exact Qs this
   rw[dn]at z;cases z
 rcases hdx with⟨z,_⟩|⟨dx,z,ne,ns⟩
 ·rw[dd1]at z;cases z
 ·have ed:d₁=dx:=by rw[dd1]at z;exact au z
  subst ed;have kk:∀b ob,b≠x->b≠d₁->s.heap.get? b=some ob->h'.get? b=some ob:=λb ob hb _ q=>k b ob hb (λo₀ dx' e0 e1=>by rw[hx]at e0;cases e0;rw[hdd]at e1;cases e1) q;have qx:V2 H s.heap x:=Wv e;have qd:V2 H s.heap d₁:=.inl ⟨Hd,dn⟩;have nd:ZR X.prog X.w (upd (upd H d₁ (XD d₁ [(f,y)])) x (ErrN x C (some d₁))) h' d₁ (XD d₁ [(f,y)]):=EN.mpr ⟨_,ns,λg=>K4 (fs:=[]) (mA:=λ_=>none) (λ_=>bG) ry g,Q3 (fs:=[]) λg hg=>absurd rfl hg,by simp⟩;have nx:ZR X.prog X.w (upd (upd H d₁ (XD d₁ [(f,y)])) x (ErrN x C (some d₁))) h' x (ErrN x C (some d₁)):=VI.mpr ⟨o',vs,hx',c1.trans hc,dd1,dt1.trans hd,hz,h1⟩;obtain⟨oD,_,_,hoD,_⟩:=id ns;exact h d₁ _ ne Hd (I.un (Fp qx qd kk ⟨_,hx'⟩ ⟨_,hoD⟩) (EB I.hok qx qd ne kk nx nd))
def Av(K:aa)(ta tv:TE)(f:Str):TS:=λD σ H=>tv σ H λy H1=>ta σ H1 λx H2=>∃a C fI Qa,x=.ref a/\H2 a=some (ErrN a C none)/\XC K C fI Qa/\az K (.ref C) f=some none /\∀d,d≠a->H2 d=none->D.nx σ (upd (upd H2 d (XD d [(f,y)])) a (ErrN a C (some d)))
section
variable {o value:Expr}{pos pos':Pos}{ta tv:TE}
theorem Ea(ha:PE X o ta)(hv:PE X value tv)(hs:fH value (some (.Attribute o f pos')) pos.line X.env=pure false):PS X (.Assign [.Attribute o f pos'] value pos) (Av X.K ta tv f):=by intro pins s σ H D I h;refine plainObj_wpAny_Assign_Attribute (thn (hv pins s σ H _ I h) λu s1⟨y,H1,I1,ry,q⟩=>thn (ha pins s1 σ H1 _ I1 q) λov s2 hZ=>?_) hs;obtain⟨x,H2,I2,rx,a,C,fI,Qa,ex,ea,c,n,q2⟩:=hZ;subst ex;obtain rfl:ov=Value.ref a:=rx;exact W3 I2 c n ea ry λd s3 ne hn I3=>⟨σ,_,I3,q2 d ne hn⟩
end
end
section
variable {X:Cx}{CX:CXT}{k:Nat}{f C Qa:Addr}{fd:bP}{ps:List Str}{sp:Sp}{dvs:List V}{ds:List Value}{E:XK}{x m:Str}{p pos apos:Pos}{e o:Expr}{es:List Expr}{ta:TE}{t:TA}
theorem TV{pins:List (Addr×Obj)}{σ:St}{H:Hp}{s:ag}{Q:VK}{us:List Value}{vs:List V}(c:XC X.K C f Qa)(F:FnOk X.prog X.w X.K X.mg X.base CX k f fd ps sp)(hr:Room (k+1) X.A)(hb:Binds X.K fd ps ds)(hd:Vals dvs ds)(hx:Passes CX X E)(I:Inv X pins σ H s)(r:Vals vs us)(hz:us.length<=sizeLine)(h:∀x,H x=none->sp (.ref x::(vs++dvs)) (upd H x (ErrN x C none)) (λv H2=>v=.non/\Q (.ref x) H2) E):wpAny (model X.prog X.w) X.A (call (.ref C) us) (EP X pins σ Q) X.xe s:=by
 refine Ae (h:=s.heap) (g:=s.gens) (d:=s.drawn) (t:=s.toks) (os:=s.os) I.kIn c hz λh' a ha mk=>?_;obtain⟨kk,_,T,ge,_,_⟩:=mk;have hq:=h a (I.hok.fresh ha);have I2:Inv X pins σ (upd H a (ErrN a C none)) {s with heap:=h'}:=I.laid (t':=s.toks) kk ha (VI.mpr ⟨_,_,ge,rfl,rfl,rfl,by simp,by simp⟩);have r2:Vals (V.ref a::(vs++dvs)) (Value.ref a::(us++ds)):=.cons rfl (r.append hd);have hl:(Value.ref a::us++ds).length=ps.length:=by have e:=r2.length;rw[F.len _ _ _ _ hq]at e;exact e.symm
 refine gA (fF (F.run _ X.stack {s with heap:=h'} _ ⟨Value.ref a::us,[]⟩ (Value.ref a::(us++ds)) _ _ E (hr.make C us []) (I2.env0.make C us []) (hb _ (Value.ref a::us) I2.kIn hl) r2 hq) λr s' hq'=>?_);cases r with
|error e=>exact hx pins σ _ _ e s' I2 hq'
|ok fl=>
  cases fl with
 |ret u=>obtain⟨v,H',I3,rv,ev,q3⟩:=I2.after hq';subst ev;exact⟨rv,⟨V.ref a,H',I3,rfl,q3⟩⟩
 |next=>exact bK hq'
 |brk=>exact bK hq'
 |cont=>exact bK hq'
end
noncomputable def del(H:Hp)(a:Addr):Hp:=λb=>if b=a then none else H b
theorem Vf{H:Hp}{a:Addr}:del H a a=none:=by simp[del]
theorem X8{H:Hp}{a b:Addr}(h:b≠a):del H a b=H b:=by simp[del,h]
section
variable {M:Model}{A:a9}{E:Value->ag->Prop}{env:Env}{K:aa}
theorem T6{s:ag}{x:Sem Value}{Q:Flow->ag->Prop}(hh:A.handled=none)(h:wpAny M A x (λv s₁=>∃e oe C fI Qa vs,v=.ref e/\XC K C fI Qa/\K.In s₁.heap/\s₁.heap.get? e=some oe/\oe.cls=.ref C/\oe.data=.fields vs/\vs[1]?=some .none/\E (.ref e) s₁) E s):wpAny M A (raiseStmt env (some x) none) Q E s:=by
 unfold raiseStmt;refine ae (cj h (λv s₁ h₁=>?_) λ_ _ x=>x);obtain⟨e,⟨oc,od,odt,osl⟩,C,fI,Qa,vs,rfl,c,KI,he,hc,hvs,h1,hE⟩:=h₁;obtain rfl:oc=.ref C:=hc;obtain rfl:odt=.fields vs:=hvs;obtain⟨hp,g,d,tk,os⟩:=s₁;obtain⟨nm,q,N,bs,sn,sub,ab,col,dd,k0,k1,k2,k3,k5,lk,nok,hin⟩:=id c.obj;have hC:=KI _ _ lk;have hcB:(Value.ref C::.ref Qa::bmV).contains (.type "BaseException")=true:=by rw[d5,d5,show bmV.contains (.type "BaseException")=true from by decide,Bool.or_true,Bool.or_true]
 repeat (first|with_reducible refine bW he ?_|with_reducible refine bW hC ?_|(with_reducible refine fz hC ?_;rw[hcB])|wp_step)
 show wpAny M A (match vs[1]? with|some x=>pure x|none=>unsupported "internal:no-such-field") _ _ _
 rw[h1];refine ai ?_;show wpAny M A (if(Value.none != Value.none)=true then _ else pure ()) _ _ _;rw[if_neg (by decide)];exact ai (wpAny_raiseNew_none hh hE)
end
section
variable {X:Cx}{pins:List (Addr×Obj)}{σ:St}{H:Hp}{s:ag}{a C:Addr}{dd:Option Addr}{E:XK}
theorem raised(I:Inv X pins σ H s)(e:H a=some (ErrN a C dd))(hE:E (.ref C) dd (del H a)):CX1 X.prog X.w X.stack H s E (.ref a) s:=by
 obtain⟨o,vs,hx,hc,hdd,hd,hz,h1⟩:=VI.mp (I.hok a _ e);have na:∀b u,H b=some u->(∀φ,u≠.ext φ)->b≠a:=λb u q n z=>by subst z;rw[e]at q;cases q;exact n _ rfl
 have fr:a∉frs X.stack:=λz=>by rw[I.stkFree a z]at e;cases e
 have hB:∀b o',s.heap.get? b=some o'->b≠a->b∉frs X.stack->(fO s.heap (a::frs X.stack)).get? b=some o':=λb o' q n1 n2=>PySem.W.hideAll_get _ q λz=>by
  rcases ao.mp z with z|z
  ·exact n1 z
  ·exact n2 z
 refine⟨a,.ref C,dd,fO s.heap (a::frs X.stack),del H a,rfl,rfl,I.bare,⟨λb o q _ _ _=>q,λb o q _ _ _=>⟨o.slots,q⟩,λb o q n _=>?_,λb o q _=>⟨o,q⟩,λb xs q=>(X8 (na b _ q (by simp))).trans q,λb o u q=>(X8 (na b _ q (by simp))).trans q,λb ps q=>⟨#[],by rw[X8 (na b _ q (by simp))];simpa using q⟩⟩,?_,?_,?_,hE⟩
 ·by_cases hb:b=a
  ·rw[hb];exact Vf
  ·rw[X8 hb];exact n
 ·intro b u q;have hb:b≠a:=λz=>by rw[z,Vf]at q;cases q
  rw[X8 hb]at q;exact(I.hok b u q).stay (λ_ _ _ z=>z) (λc z=>(X8 (na c _ z (by simp))).trans z) λc xs z=>(X8 (na c _ z (by simp))).trans z
 ·refine⟨λb u q=>PySem.W.of_hideAll _ q,f9 _ (.head _),?_,o,vs,hx,hc,hdd,hd,hz,.inl ⟨h1,rfl⟩⟩;have go:∀l:List Env,(∀b∈frs l,b∈a::frs X.stack)->s.heap.FunFrames X.base l->s.heap.FunFrames (fO s.heap (a::frs X.stack)) l:=by
   intro l;induction l with
  |nil=>intro _ _;trivial
  |cons env r ih=>
    intro hs ⟨hk,⟨L,oL,hf,hn,ho,hnd⟩,hr⟩;have hL:frs (env::r)=L::frs r:=by unfold frs;rw[cU,hf]
    exact⟨hk,⟨L,oL,hf,f9 _ (hs L (by rw[hL];exact .head _)),ho,hnd⟩,ih (λb hb=>hs b (by rw[hL];exact .tail _ hb)) hr⟩
  exact go X.stack (λb hb=>.tail _ hb) I.stack
 ·refine⟨λb u q=>?_,λb o' q n hb=>hB b o' q (λz=>by rw[z,e]at n;cases n) hb,λb o' q=>?_,Vf⟩
  ·have hb:b≠a:=λz=>by rw[z,Vf]at q;cases q
   rw[X8 hb]at q;obtain⟨o',z⟩:=Qs (I.hok b u q);exact⟨o',hB b o' z hb λm=>by rw[I.stkFree b m]at q;cases q⟩
  ·by_cases hb:b=a
   ·exact .inr (.inl hb)
   ·by_cases hf:b∈frs X.stack
    ·exact .inl hf
    ·exact .inr (.inr ⟨o',hB b o' q hb hf⟩)
end
noncomputable def ErrC(x C:Addr)(dd:Option Addr):HO:=.ext λh=>∃o vs,h.get? x=some o/\o.cls=.ref C/\o.dict=dd/\o.data=.fields vs
structure XB(K:aa)(D:Addr):Prop where
 obj:∃nm q N bs bm hd sn sub ab col dd k0 k1 k2 k3 k5 nid,K.lookup D=some (excClassObj nm q D N bs bm hd sn sub ab col dd k0 k1 k2 k3 k5 nid)/\bm.contains (.type "BaseException")=true
theorem Tv{P:Program}{w:World}{H:Hp}{h:Heap}{x C:Addr}{dd:Option Addr}:ZR P w H h x (ErrC x C dd)↔∃o vs,h.get? x=some o/\o.cls=.ref C/\o.dict=dd/\o.data=.fields vs:=by
 constructor
 ·intro z;exact z.1
 ·rintro ⟨o,vs,hx,r⟩;exact⟨⟨o,vs,hx,r⟩,⟨o,hx⟩,λh1 h2⟨o',vs',e,r'⟩k=>⟨o',vs',k _ e,r'⟩⟩
section
variable {M:Model}{A:a9}{E:Value->ag->Prop}{K:aa}{C D fI Qa e:Addr}{h:Heap}{g:Array GenState}{d:Drawn}{t:Nat}{os:bE}{oe:Obj}
theorem G8{Q:Bool->ag->Prop}(KI:K.In h)(c:XC K C fI Qa)(b:XB K D)(he:h.get? e=some oe)(hcls:oe.cls=.ref C)(hq:Q ((Value.ref C::.ref Qa::bmV).contains (.ref D)) ⟨h,g,d,t,os⟩):wpAny M A (excMatches (.ref e) (.ref D)) Q E ⟨h,g,d,t,os⟩:=by
 obtain⟨nm,q,N,bs,sn,sub,ab,col,dd,k0,k1,k2,k3,k5,lk,nok,hin⟩:=id c.obj;obtain⟨nm',q',N',bs',bm',hd',sn',sub',ab',col',dd',k0',k1',k2',k3',k5',nid',lk',hb'⟩:=b.obj;have hC:=KI _ _ lk;have hD:=KI _ _ lk';have hcB:(Value.ref D::bm').contains (.type "BaseException")=true:=by rw[d5,hb',Bool.or_true]
 have f:=tc_notTuple;generalize hcc:(Value.ref C::.ref Qa::bmV).contains (.ref D)=bb at hq;unfold excMatches;repeat (first|(with_reducible refine bW he ?_;rw[hcls])|with_reducible refine bW hC ?_|with_reducible refine bW hD ?_|(with_reducible refine fz hD ?_;rw[hcB])|(with_reducible refine fz hC ?_;rw[hcc])|wp_step)
 first
 |exact hq
 |(cases bb<;>(wp_walk;exact hq))
theorem AK{B:Heap}{x:Addr}{c:Value}{dd:Option Addr}{s:ag}{Q:Unit->ag->Prop}(F:RecX B x c dd .none s.heap)(hQ:∀h',(∀b o,s.heap.get? b=some o->h'.get? b=some o)->Q () {s with heap:=h'}):wpAny M A (setFlight (.ref x) none) Q E s:=by
 obtain⟨o,vs,hx,hc,hdd,hd,hz,tr⟩:=F;unfold setFlight;rcases tr with⟨h1,_⟩|⟨T,oT,ts,h1,bT,nT,hT,hdT,h3⟩
 ·refine ae (cQ hx hd h1 ?_);rw[if_neg (by decide)];exact ai (hQ _ λ_ _ z=>z)
 ·have z3:3<ts.size:=(fj.mp h3).1;refine ae (cQ hx hd h1 ?_);rw[if_pos (show(Value.ref T != Value.none)=true from by simp)];refine c8 hT hdT z3 (hQ _ λb u hb=>?_);by_cases hbT:b=T
  ·subst hbT;rw[hT]at hb;cases hb;have es:ts.setIfInBounds 3 Value.none=ts:=by
    apply Array.ext
    ·simp
    ·intro i h1 h2;rw[Array.getElem_setIfInBounds]
     ·split
      ·rename_i e3;subst e3;rw[Array.getElem?_eq_getElem z3]at h3;exact(au h3).symm
      ·rfl
   have eo:Obj.mapFields (·.setIfInBounds 3 ((none:Option Addr).elim Value.none λf=>dh f)) oT=oT:=by obtain⟨a1,a2,a3,a4⟩:=oT;cases hdT;show(⟨a1,a2,.fields (ts.setIfInBounds 3 Value.none),a4⟩:Obj)=_;rw[es]
   have:=Heap.get?_update_self (Obj.mapFields (·.setIfInBounds 3 ((none:Option Addr).elim Value.none λf=>dh f))) hT (by rw[eo];exact Obj.isFreed_of_fields hdT);rw[this,eo]
  ·rw[Heap.get?_update_other _ _ (bo hbT)];exact hb
end
noncomputable abbrev Cx.hot(X:Cx)(e:Value):Cx:={X with A:=X.A.mark (some e),calm:=false,xe:=λ_ _=>False}
section
variable {X:Cx}{pins:List (Addr×Obj)}{σ:St}{H:Hp}{s:ag}{e:Value}
theorem Cx.Ok.hot(ok:X.Ok)(e:Value):(X.hot e).Ok:=⟨ok.mod,ok.kind,ok.glob,ok.blt,ok.above,ok.inj,ok.has,ok.cab,(λz=>absurd (show false=true from z) (by decide)),ok.frames,ok.stk,ok.exf,ok.bs,ok.bsz,ok.noex,ok.exfs,ok.funs,ok.frf⟩
theorem Inv.hot(I:Inv X pins σ H s)(e:Value):Inv (X.hot e) pins σ H s:=⟨I.ok.hot e,I.os,I.bare,I.base,I.loc,I.cell,I.free,I.freeC,I.pin,I.hok,I.len⟩
theorem Inv.unhot(ok:X.Ok)(I:Inv (X.hot e) pins σ H s):Inv X pins σ H s:=⟨ok,I.os,I.bare,I.base,I.loc,I.cell,I.free,I.freeC,I.pin,I.hok,I.len⟩
theorem forget{M:Model}{A:a9}{E:Value->ag->Prop}{i:Nat}{n:Str}{pos:Pos}{Q:Unit->ag->Prop}(I:Inv X pins σ H s)(hN:X.N.Nodup)(hi:X.N[i]?=some n)(hk:X.env.scope.names.lookup n=some .local)
  (h:∀s',Inv X pins (σ.set i none) H s'->Q () s'):wpAny M A (do bindName X.env n .none;unbindBehindTheSuite X.env n pos) Q E s:=by
 obtain⟨m,hn,hl⟩:=id I.loc
 have hcls:(X.env.scope.kind==.class||(X.env.scope.kind==.module&&X.env.locals != X.env.globals))=false:=by rw[I.ok.kind];rfl
 have hiσ:i<σ.length:=by rw[I.len];exact(ak.mp hi).1
 refine wpAny_nameGoes_keeps hk hn hcls λh' v hn' hs=>?_
 have up:∀b o,X.s₀.heap.get? b=some o->b≠X.env.locals:=λb o q=>Nat.ne_of_lt (Nat.lt_of_lt_of_le (Heap.lt_size q) I.ok.above)
 refine h _ ⟨I.ok,I.os,I.bare,⟨λb o q n' hb hx=>(hs.2 b (up b o q)).trans (I.base.keep b o q n' hb hx),λb o q n' hb hx=>?_,I.base.free,λb o q hx=>?_,I.base.tups,I.base.frzs,I.base.tbls⟩,⟨_,hn',λj y v' e1 e2 e3=>?_⟩,λy c q=>?_,I.free,I.freeC,λp hp=>?_,λb ob q=>?_,by simpa using I.len⟩
 ·obtain⟨sl,e1⟩:=I.base.slot b o q n' hb hx
  exact⟨sl,(hs.2 b (up b o q)).trans e1⟩
 ·obtain⟨o',e1⟩:=I.base.there b o q hx
  exact⟨o',(hs.2 b (up b o q)).trans e1⟩
 ·by_cases hj:j=i
  ·subst hj
   rw[fV hiσ]at e2
   cases e2
  ·rw[gw (bo hj)]at e2
   obtain⟨u',r',q⟩:=hl j y v' e1 e2 e3
   refine⟨u',r',?_⟩
   rcases q with⟨k,q⟩|⟨k,c,q,z⟩
   ·refine .inl ⟨k,?_⟩
    have:y≠n:=λz=>hj (MV hN e1 (z▸hi))
    simp[this,q]
   ·exact .inr ⟨k,c,q,z.sameBut hs (I.cne y c q)⟩
 ·obtain⟨w',z⟩:=I.cell y c q
  exact⟨w',z.sameBut hs (I.cne y c q)⟩
 ·obtain⟨q,n',ne,nf,d⟩:=I.pin p hp
  exact⟨(hs.2 p.1 ne).trans q,n',ne,nf,d⟩
 ·refine(I.hok b ob q).stay (λc w' hc z=>(hs.2 c ?_).trans z) (λ_ z=>z) λ_ _ z=>z
  rintro rfl
  rcases hc with rfl|hc
  ·rw[I.free]at q;cases q
  ·rw[I.free]at hc;cases hc
end
section
variable {X:Cx}{pins:List (Addr×Obj)}{σ:St}{H:Hp}{s:ag}{x C fI Qa Dc:Addr}{dd:Option Addr}{B:Heap}{cn n:Str}{i:Nat}{p pos:Pos}{b₀:Stmt}{suite:List Stmt}{rest:List fY}{ts:TS}{D:Ends}
noncomputable def lose(i:Nat)(D:Ends):Ends:={nx:=λσ H=>D.nx (σ.set i none) H,rt:=D.rt,bk:=λσ H=>D.bk (σ.set i none) H,ct:=λσ H=>D.ct (σ.set i none) H}
theorem RR{nm:Option Str}(I:Inv X pins σ H s)(R:RecX B x (.ref C) dd .none s.heap)(c:XC X.K C fI Qa)(b:XB X.K Dc)(hg:Gl X cn)(hm:X.mg cn=some (.ref Dc))(no:(Value.ref C::.ref Qa::bmV).contains (.ref Dc)=false)(h:wpAny (model X.prog X.w) X.A (handleBy (.ref x) X.env rest) (SP X pins D) X.xe s)(hd:(cn==("__debug__":Str))=false:=by decide):wpAny (model X.prog X.w) X.A (handleBy (.ref x) X.env (.ExceptHandler (some (.Name cn p)) nm (b₀::suite) pos::rest)) (SP X pins D) X.xe s:=by obtain⟨o,vs,hx,hc,_⟩:=R;refine wpAny_handleBy_cons (codeAny_handlers_test ?_) (by intro q;cases q);refine JN (X:=X.hot (.ref x)) (I.hot _) hg hm ?_ hd;obtain⟨hh,g,d,tk,os⟩:=s;refine G8 I.kIn c b hx hc ?_;rw[no];exact h
theorem WH(I:Inv X pins σ H s)(hH:H x=some (ErrC x C dd))(R:RecX B x (.ref C) dd .none s.heap)(c:XC X.K C fI Qa)(b:XB X.K Dc)(hg:Gl X cn)(hm:X.mg cn=some (.ref Dc))(yes:(Value.ref C::.ref Qa::bmV).contains (.ref Dc)=true)(hN:X.N.Nodup)(hi:X.N[i]?=some n)(hk:X.env.scope.names.lookup n=some .local)(hs:PSs (X.hot (.ref x)) (b₀::suite) ts)(h:ts (lose i D) (σ.set i (some (.ref x))) H)(hd:(cn==("__debug__":Str))=false:=by decide):wpAny (model X.prog X.w) X.A (handleBy (.ref x) X.env (.ExceptHandler (some (.Name cn p)) (some n) (b₀::suite) pos::rest)) (SP X pins D) X.xe s:=by
 obtain⟨o,vs,hx,hc,_⟩:=id R;refine wpAny_handleBy_cons (codeAny_handlers_test ?_) (by intro q;cases q);refine JN (X:=X.hot (.ref x)) (I.hot _) hg hm ?_ hd;obtain⟨hh,g,d,tk,os⟩:=s;refine G8 I.kIn c b hx hc ?_;rw[yes];refine codeAny_handlers_suite_as (AK R λh' k=>?_);have I2:Inv X pins σ H ⟨h',g,d,tk,os⟩:=I.kept (t':=tk) k;refine MA (X:=X.hot (.ref x)) (v:=.ref x) (I2.hot _) hN hi (.inl hk) rfl (λs3 I3=>?_) (.inr hk);refine cj (hs pins s3 _ H (lose i D) I3 h) (λf s4 q=>?_) λ_ _ z=>bK z;cases f with
|next=>obtain⟨σ',H',J,q⟩:=q;exact forget (J.unhot I.ok) hN hi hk λs' J'=>⟨_,H',J',q⟩
|brk=>obtain⟨σ',H',J,q⟩:=q;exact forget (J.unhot I.ok) hN hi hk λs' J'=>⟨_,H',J',q⟩
|cont=>obtain⟨σ',H',J,q⟩:=q;exact forget (J.unhot I.ok) hN hi hk λs' J'=>⟨_,H',J',q⟩
|ret u=>obtain⟨v,σ',H',J,r,q⟩:=q;exact forget (J.unhot I.ok) hN hi hk λs' J'=>⟨v,_,H',J',r,q⟩
end
section
variable {X:Cx}{pins:List (Addr×Obj)}{σ:St}{H1 H2:Hp}{s1 s2:ag}{x C:Addr}{dd:Option Addr}{B h':Heap}{fl:Value}
theorem Ey(I:Inv X pins σ H1 s1)(os:s2.os=s1.os)(bare:fE s2.gens)(un:Un (frs X.stack) [] H1 H2 s1.heap s2.heap)(hok:HOk X.prog X.w H2 s2.heap)(F:Fly B X.stack x (.ref C) dd .none s2.heap)(b:BaseX B (frs X.stack) x H1 H2 s1.heap)(F':Fly B X.stack x (.ref C) dd fl h')(U:s2.heap.UpToSlots h'):Inv X pins σ (upd H2 x (ErrC x C dd)) {s2 with heap:=h'}:=by
 have nx:∀d o,s1.heap.get? d=some o->H1 d=none->d≠x:=by
  rintro d o e n rfl;by_cases hd:d∈frs X.stack
  ·obtain⟨_,o1,e1,nf⟩:=I.stack.mem hd;rw[e]at e1;cases e1;obtain⟨sl,q⟩:=un.slot d o e n hd (by simp);obtain⟨o3,vs,q3,_,_,q4,_⟩:=F.row;rw[q]at q3;cases q3;exact nf vs q4
  ·have:=b.old d o e n hd;rw[F.new]at this;cases this
 have hne:∀d u,H2 d=some u->d≠x:=by rintro d u e rfl;rw[b.xn]at e;cases e
 have hok':HOk X.prog X.w H2 h':=QG hok b.trk F.keep F'.keep;refine I.call' (s':={s2 with heap:=h'}) (ch:=[]) os ⟨λd o e n hd _=>F'.keep d o (b.old d o e n hd),λd o e n hd _=>?_,λd o e n hx=>?_,λd o e _=>?_,λd xs e=>?_,λd o u e=>?_,λd ps e=>?_⟩ (λd u e=>?_) bare λd z=>absurd z (by simp)
 ·obtain⟨sl,q⟩:=un.slot d o e n hd (by simp);obtain⟨_,o1,e1,nf⟩:=I.stack.mem hd;rw[e]at e1;cases e1;obtain⟨sl2,q2⟩:=U d _ q nf;exact⟨sl2,q2⟩
 ·rw[Zg (nx d o e n)];exact un.free d o e n hx
 ·rcases b.all d o e with z|z|⟨o',z⟩
  ·obtain⟨_,o1,e1,nf⟩:=I.stack.mem z;rw[e]at e1;cases e1;obtain⟨sl,q⟩:=un.slot d o e (I.stkFree d z) z (by simp);obtain⟨sl2,q2⟩:=U d _ q nf;exact⟨_,q2⟩
  ·subst z;obtain⟨o3,_,q,_⟩:=F'.row;exact⟨o3,q⟩
  ·exact⟨o',F'.keep d o' z⟩
 ·have:=un.tups d xs e;rw[Zg (hne d _ this)];exact this
 ·have:=un.frzs d o u e;rw[Zg (hne d _ this)];exact this
 ·obtain⟨more,this⟩:=un.tbls d ps e;exact⟨more,by rw[Zg (hne d _ this)];exact this⟩
 ·by_cases hd:d=x
  ·subst hd;rw[Zf]at e;cases e;obtain⟨o,vs,q1,q2,q3,q4,_⟩:=F'.row;exact Tv.mpr ⟨o,vs,q1,q2,q3,q4⟩
  ·rw[Zg hd]at e;exact(hok' d u e).stay (λ_ _ _ q=>q) (λc q=>by rw[Zg (hne c _ q)];exact q) λc xs q=>by rw[Zg (hne c _ q)];exact q
end
noncomputable abbrev Cx.tryX(X:Cx)(E:Value->ag->Prop)(pn':List (Addr×Obj)):Cx:={X with xe:=E,pn:=pn'}
section
variable {X:Cx}{pins pins':List (Addr×Obj)}{σ:St}{H:Hp}{s:ag}{E:Value->ag->Prop}
theorem Inv.try(I:Inv X pins σ H s)(E:Value->ag->Prop):Inv (X.tryX E (X.pn++pins)) [] σ H s:=⟨⟨I.ok.mod,I.ok.kind,I.ok.glob,I.ok.blt,I.ok.above,I.ok.inj,I.ok.has,I.ok.cab,I.ok.hd,I.ok.frames,I.ok.stk,I.ok.exf,I.ok.bs,I.ok.bsz,I.ok.noex,I.ok.exfs,I.ok.funs,I.ok.frf⟩,I.os,I.bare,I.base,I.loc,I.cell,I.free,I.freeC,λp hp=>I.pin p (by simpa using hp),I.hok,I.len⟩
theorem Inv.untry(ok:X.Ok)(I:Inv (X.tryX E (X.pn++pins)) pins' σ H s):Inv X pins σ H s:=⟨ok,I.os,I.bare,I.base,I.loc,I.cell,I.free,I.freeC,λp hp=>I.pin p (bh _ hp),I.hok,I.len⟩
end
def Vw(CX:CXT)(X:Cx)(E:XK)(p:St->Prop):Prop:=∀(pins:List (Addr×Obj))(σ:St)(H:Hp)(s:ag)(e:Value)(s':ag),p σ->Inv X pins σ H s->CX X.stack H s E e s'->X.xe e s'
def Hd(X:Cx)(hs:List fY)(th:Addr->Addr->Option Addr->TS):Prop:=∀(pins:List (Addr×Obj))(s:ag)(σ:St)(H:Hp)(D:Ends)(x C:Addr)(dd:Option Addr)(B:Heap),Inv X pins σ H s->H x=some (ErrC x C dd)->RecX B x (.ref C) dd .none s.heap->th x C dd D σ H ->wpAny (model X.prog X.w) X.A (handleBy (.ref x) X.env hs) (SP X pins D) X.xe s
noncomputable def hNil:Addr->Addr->Option Addr->TS:=λ_ _ _ _ _ _=>False
noncomputable def hAs(K:aa)(Dc:Addr)(i:Nat)(ts:Addr->TS)(r:Addr->Addr->Option Addr->TS):Addr->Addr->Option Addr->TS:=λx C dd D σ H=>∃fI Qa,XC K C fI Qa /\(((Value.ref C::.ref Qa::bmV).contains (.ref Dc)=true/\ts x (lose i D) (σ.set i (some (.ref x))) H)\/((Value.ref C::.ref Qa::bmV).contains (.ref Dc)=false/\r x C dd D σ H))
def sTry(tb:(St->Prop)->XK->TS)(th:Addr->Addr->Option Addr->TS):TS:=λD σ H=>∃E:XK,tb (λσ'=>σ'=σ) E D σ H/\∀c dd H',E c dd H'->∃C,c=.ref C/\∀x,H' x=none->th x C dd D σ (upd H' x (ErrC x C dd))
section
variable {X:Cx}{Dc:Addr}{cn n:Str}{i:Nat}{p pos:Pos}{b₀:Stmt}{suite:List Stmt}{rest:List fY}{ts:Addr->TS}{r th:Addr->Addr->Option Addr->TS}
theorem HM:Hd X [] hNil:=λ_ _ _ _ _ _ _ _ _ _ _ _ h=>bK h
theorem AR(b:XB X.K Dc)(hg:Gl X cn)(hm:X.mg cn=some (.ref Dc))(hN:X.N.Nodup)(hi:X.N[i]?=some n)(hk:X.env.scope.names.lookup n=some .local)(hs:∀x,PSs (X.hot (.ref x)) (b₀::suite) (ts x))(hr:Hd X rest r)(hd:(cn==("__debug__":Str))=false:=by decide):Hd X (.ExceptHandler (some (.Name cn p)) (some n) (b₀::suite) pos::rest) (hAs X.K Dc i ts r):=by
 rintro pins s σ H D x C dd B I hH R ⟨fI,Qa,c,⟨yes,h⟩|⟨no,h⟩⟩
 ·exact WH I hH R c b hg hm yes hN hi hk (hs x) h hd
 ·exact RR I R c b hg hm no (hr pins s σ H D x C dd B I hH R h) hd
theorem FK{body:List Stmt}{h₀:fY}{hs:List fY}{tb:(St->Prop)->XK->TS}(hst:X.stack=X.env::X.outer/\X.env.frame=some X.env.locals)(hb:∀(E':Value->ag->Prop)(pn':List (Addr×Obj))(p:St->Prop)(E:XK),Vw (CX1 X.prog X.w) (X.tryX E' pn') E p->PSs (X.tryX E' pn') body (tb p E))(hh:Hd X (h₀::hs) th):PS X (.Try body (h₀::hs) [] [] pos) (sTry tb th):=by
 rintro pins s σ H D I ⟨E,hbody,hE⟩;refine wpAny_Try_except ?_;generalize hXE:(λ(e:Value)(s₁:ag)=>wpAny (model X.prog X.w) X.A (noteFrame e X.env) (λ_ s₂=>wpAny (model X.prog X.w) X.A (setFlight e none) (λ_ s₃=>wpAny (model X.prog X.w) X.A (handleBy e X.env (h₀::hs)) (SP X pins D) X.xe s₃) X.xe s₂) X.xe s₁)=E';have hp:Vw (CX1 X.prog X.w) (X.tryX E' (X.pn++pins)) E (λσ'=>σ'=σ):=by
  rintro pins' σ' H1 s1 e s2 eσ J ⟨x,c,dd,B,H2,rfl,os,bare,un,hok,F,b,hc⟩;subst eσ;obtain⟨C,rfl,hth⟩:=hE c dd H2 hc;show E' (.ref x) s2;rw[<-hXE];have J':Inv X pins σ' H1 s1:=J.untry I.ok;have fr:X.A.frames=some (X.env::X.outer):=by rw[J'.ok.frames,hst.1]
  have FF:Fly B (X.env::X.outer) x (.ref C) dd .none s2.heap:=by rw[<-hst.1];exact F
  refine QN fr hst.2 FF λh1 F1 U1=>?_;refine QO (s:={s2 with heap:=h1}) F1 λh2 F2 U2=>?_;have F2':Fly B X.stack x (.ref C) dd .none h2:=by rw[hst.1];exact F2
  have I2:Inv X pins σ' (upd H2 x (ErrC x C dd)) {s2 with heap:=h2}:=Ey J' os bare un hok F b F2' (U1.trans U2);exact hh pins _ σ' _ D x C dd B I2 (Zf ..) F2.row (hth x b.xn)
 refine cj (hb E' (X.pn++pins) _ E hp [] s σ H D (I.try E') hbody) (λf s1 q=>?_) λe s1 q=>?_
 ·cases f with
 |next=>obtain⟨σ',H',J,q⟩:=q;exact gG ⟨σ',H',J.untry I.ok,q⟩
 |brk=>obtain⟨σ',H',J,q⟩:=q;exact⟨σ',H',J.untry I.ok,q⟩
 |cont=>obtain⟨σ',H',J,q⟩:=q;exact⟨σ',H',J.untry I.ok,q⟩
 |ret u=>obtain⟨v,σ',H',J,r,q⟩:=q;exact⟨v,σ',H',J.untry I.ok,r,q⟩
 ·exact q
end
def tAt(p:St->Prop)(t:TE):TE:=λσ H Q=>p σ/\t σ H Q
section
variable {X:Cx}{CX:CXT}{k:Nat}{f C Qa:Addr}{fd:bP}{ps:List Str}{sp:Sp}{dvs:List V}{ds:List Value}{E:XK}{x m:Str}{pp pos apos:Pos}{e o:Expr}{es:List Expr}{ta:TE}{t:TA}{p:St->Prop}
def Q1(CX:CXT)(X:Cx)(E:XK)(σ:St):Prop:=∀(pins:List (Addr×Obj))(H:Hp)(s:ag)(e:Value)(s':ag),Inv X pins σ H s->CX X.stack H s E e s'->X.xe e s'
theorem Vw.at{σ:St}(h:Vw CX X E p)(hp:p σ):Q1 CX X E σ:=λpins H s e s' I c=>h pins σ H s e s' hp I c
theorem AX{pins:List (Addr×Obj)}{σ:St}{H:Hp}{s:ag}{Q:VK}{us:List Value}{vs:List V}(F:FnOk X.prog X.w X.K X.mg X.base CX k f fd ps sp)(hr:Room k X.A)(hb:Binds X.K fd ps ds)(hd:Vals dvs ds)(hx:Q1 CX X E σ)(I:Inv X pins σ H s)(r:Vals vs us)(h:sp (vs++dvs) H Q E):wpAny (model X.prog X.w) X.A (call (.ref f) us) (EP X pins σ Q) X.xe s:=by
 have r2:Vals (vs++dvs) (us++ds):=r.append hd;have hl:(us++ds).length=ps.length:=(r2.length).symm.trans (F.len _ _ _ _ h);refine gA (fF (F.run X.A X.stack s H ⟨us,[]⟩ (us++ds) (vs++dvs) Q E hr I.env0 (hb s us I.kIn hl) r2 h) λres s' hq=>?_);match res,hq with
|.error e,hq=>exact hx pins H s e s' I hq
|.ok (.ret u),hq=>exact I.after hq
|.ok .next,hq=>exact hq.elim
|.ok .brk,hq=>exact hq.elim
|.ok .cont,hq=>exact hq.elim
theorem Rw(F:FnOk X.prog X.w X.K X.mg X.base CX k f fd ps sp)(hr:Room k X.A)(hg:Gl X x)(hm:X.mg x=some (.ref f))(hk:aZ X.K (.ref f)=true)(hb:Binds X.K fd ps ds)(hd:Vals dvs ds)(hx:Vw CX X E p)(ha:PA X (e::es) t)(hdb:(x==("__debug__":Str))=false:=by decide)(he:aI (e::es) X.env=(false,eval e X.env)::aI es X.env:=by rfl)(hpl:(b8 pos (aI es X.env)).any (·.1)=false:=by rfl):PE X (.Call (.Name x pp) (e::es) [] pos) (tAt p (G0 sp dvs E t)):=by rintro pins s σ H Q I ⟨hp,h⟩;refine cJ (JN I hg hm ?_ hdb);refine cv (h₀:=X.base) I.ok.mod.kin hk (thn (ha pos pins s σ H _ I h) λus s1⟨vs,H1,I1,r,q⟩=>⟨I1.kIn,?_⟩) he hpl;exact AX F hr hb hd (hx.at hp) I1 r q
end
structure XR(K:aa)(C:Addr):Prop where
 ga:az K (.ref C) "__getattribute__"=some (some (.builtin "BaseException.__getattribute__"))
 gg:az K (.ref C) "__getattr__"=some none
 hd:cA K C=true
 be:fv K C (.type "BaseException")=some true
section
variable {prog:Program}{w:World}{A:a9}{E:Value->ag->Prop}{K:aa}{s:ag}{x C d:Addr}{o:Obj}{mA:Str->Option Value}{f:Str}{v:Value}{expr:Bool}{Q:Value->ag->Prop}
theorem xget(X:K.In s.heap)(r:XR K C)(hx:s.heap.get? x=some o)(hc:o.cls=.ref C)(hdt:∃vs,o.data=.fields vs)(hdd:o.dict=some d)(hn:s.heap.Ns1 d mA)(ha:az K (.ref C) f=some none)(hv:mA f=some v)(hh:h_ v=true)(h:Q v {s with toks:=s.toks+1}):wpAny (model prog w) A (getAttr (.ref x) f expr) Q E s:=by
 obtain⟨od,ho,hl⟩:=NM hn;have no:fZ o=true:=by obtain⟨vs,e⟩:=hdt;unfold fZ;rw[e]
 have I:iI s.heap x o C (some od):=⟨hx,hc,no,by rw[hdd];exact ho⟩;have FB:=PySem.F.attrBase_ValueError;obtain⟨hp,g,dr,t,os⟩:=s;have L0:=I.type (M:=model prog w);have L1:=ej (M:=model prog w) X r.ga;have L2:=ej (M:=model prog w) X r.gg;have L3:=PySem.W.looks_find (M:=model prog w) X I (PySem.W.findObj_own r.hd ha rfl (by rw[hl,hv]));have sub:PySem.W.Looks (model prog w) hp (isInstance (.ref x) (.type "BaseException")) true:=L0.andThen (PySem.W.looks_mroIn X r.be);unfold getAttr getAttrBy;refine ae (wpAny_mkText (a8 (ae (L0.at (ae (L1.at ?_))))));show wpAny _ _ (if(onTheHeap (Value.ref C)&&Value.builtin "BaseException.__getattribute__"==Value.builtin "object.__getattribute__")=true then _ else _) _ _ _;rw[if_neg (by simp)];unfold getAttrByItsOwn hookBefore;rw[if_pos (show onTheHeap (Value.ref C)=true from rfl)];refine ae (L2.at ?_);refine ae (fX (a8 ?_));unfold callGetattribute;rw[if_neg (show ¬((expr&&onTheHeap (Value.builtin "BaseException.__getattribute__"))=true)from by cases expr<;>simp[onTheHeap])];unfold boundAndCalled;rw[FB.ga.bind];refine ae (ai ?_);refine gA (codeAny_call_builtin FB.ga.plain PySem.F.entry_bexc_ga (@PySem.W.check_slot (model prog w) _ _ _ "BaseException.__getattribute__" "BaseException" "__getattribute__" (.ref x) [.str f t] [] _ (by decide +kernel) (by decide +kernel) sub (PySem.F.args_bexc_ga (.ref x) (.str f t)) ?_));unfold dD.«object.__getattribute__»;refine ae (ai (ae (ai (ae (L0.at (ae (L3.at (ai ?_))))))));show wpAny _ _ (handedOut v) _ _ _;rw[PySem.W.handedOut_of hh];exact ai h
end
def TM(H:Hp)(a C d:Addr):Prop:=H a=some (ErrC a C (some d))\/H a=some (ErrN a C (some d))
theorem TM.obj{P:Program}{w:World}{H:Hp}{h:Heap}{a C d:Addr}(e:TM H a C d)(ok:HOk P w H h):∃o vs,h.get? a=some o/\o.cls=.ref C/\o.dict=some d/\o.data=.fields vs:=by
 rcases e with e|e
 ·exact Tv.mp (ok a _ e)
 ·obtain⟨o,vs,h1,h2,h3,h4,_⟩:=VI.mp (ok a _ e);exact⟨o,vs,h1,h2,h3,h4⟩
def Ai(K:aa)(ta:TE)(f:Str):TE:=λσ H Q=>ta σ H λx H1=>∃a C d fs v,x=.ref a/\TM H1 a C d/\H1 d=some (XD d fs)/\XR K C/\Xk K C f/\fs.lookup f=some v/\Q v H1
section
variable {X:Cx}{o:Expr}{ta:TE}{f:Str}{pos:Pos}
theorem Ec(ha:PE X o ta)(hb:fe o f X.env (eval o X.env)=eval o X.env:=by rfl):PE X (.Attribute o f pos) (Ai X.K ta f):=by intro pins s σ H Q I h;refine TJ hb (thn (ha pins s σ H _ I h) λov s1 hZ=>?_);obtain⟨x,H1,I1,rx,a,C,d,fs,v,ex,ea,ed,c,n,l,q⟩:=hZ;subst ex;obtain rfl:ov=Value.ref a:=rx;obtain⟨ob,vs,h1,h2,h3,h4⟩:=ea.obj I1.hok;obtain⟨mA,ns,r,_⟩:=EN.mp (I1.hok d _ ed);obtain⟨u,hu,ru⟩:=RelO.some_of (v:=v) (o:=mA f) (by rw[<-l];exact r f);exact xget I1.kIn c h1 h2 ⟨vs,h4⟩ h3 ns n hu (NO ru) ⟨v,H1,I1.tok _,ru,q⟩
end
section
variable {P:Program}{w:World}{K:aa}{mg:Str->Option Value}{base:Heap}
theorem Fun.okX{x qual:Str}{st:Stmt}{f:Addr}{fd:bP}{N ps:List Str}{k:Nat}{sp:Sp}(F:Fun K x qual st f fd)(S:FnScope N ps (Zc st))(len:∀vs H Q E,sp vs H Q E->vs.length=ps.length)(hbody:∀(cdv:Value)(A:a9)(outer:List Env)(s:ag)(H:Hp)(vs:List V)(Q:VK)(E:XK),Room k (A.deeper (dU qual (Zc st) s.heap.objs.size f cdv))->sp vs H Q E ->∃t,PSs (cxOf (CX1 P w) P w K mg base N qual (Zc st) f cdv A outer s H E) (ZQ st) t/\t {nx:=λ_ H'=>Q .non H',rt:=Q} (start N vs) H):FnOk P w K mg base (CX1 P w) (k+1) f fd ps sp:=by obtain⟨oc,od,kV,doc,pm,an,cdv,ct,osl,rfl,lk,hcd⟩:=F.ex;exact Fh lk hcd S len λA outer s H vs Q E hr hsp=>hbody cdv A outer s H vs Q E hr hsp
def CanX(P:Program)(w:World)(K:aa)(mg:Str->Option Value)(base:Heap)(k:Nat)(x:Str)(ps:List Str)(sp:Sp):Prop:=∃f fd,FnOk P w K mg base (CX1 P w) k f fd ps sp/\mg x=some (.ref f)/\aZ K (.ref f)=true/\Binds K fd ps []
theorem Df.canX{x:Str}{st:Stmt}{N ps:List Str}{k:Nat}{sp:Sp}(D:Df K mg x st ps)(S:FnScope N ps (Zc st))(len:∀vs H Q E,sp vs H Q E->vs.length=ps.length)(hbody:∀(f:Addr)(cdv:Value)(A:a9)(outer:List Env)(s:ag)(H:Hp)(vs:List V)(Q:VK)(E:XK),Room k (A.deeper (dU x (Zc st) s.heap.objs.size f cdv))->sp vs H Q E ->∃t,PSs (cxOf (CX1 P w) P w K mg base N x (Zc st) f cdv A outer s H E) (ZQ st) t/\t {nx:=λ_ H'=>Q .non H',rt:=Q} (start N vs) H):CanX P w K mg base (k+1) x ps sp:=by obtain⟨f,fd,F,m,b⟩:=D;exact⟨f,fd,F.okX S len (λcdv A outer s H vs Q E hr h=>hbody f cdv A outer s H vs Q E hr h),m,F.kp,b⟩
end
section
variable {X:Cx}{E:XK}
theorem Ef{k:Nat}{x:Str}{ps:List Str}{sp:Sp}{p pos:Pos}{e:Expr}{es:List Expr}{t:TA}(C:CanX X.prog X.w X.K X.mg X.base k x ps sp)(hx:Passes (CX1 X.prog X.w) X E)(hr:Room k X.A)(hg:Gl X x)(ha:PA X (e::es) t)(hdb:(x==("__debug__":Str))=false:=by decide)(he:aI (e::es) X.env=(false,eval e X.env)::aI es X.env:=by rfl)(hpl:(b8 pos (aI es X.env)).any (·.1)=false:=by rfl):PE X (.Call (.Name x p) (e::es) [] pos) (G0 sp [] E t):=by obtain⟨f,fd,F,m,kp,b⟩:=C;exact SU F hr hg m kp b .nil hx ha hdb he hpl
end
def Ky(C:Addr)(names:List Str):Sp:=λvs H Q _=>∃a xs,vs=.ref a::xs/\xs.length=names.length/\H a=some (ErrN a C none) /\∀H' d,d≠a->H d=none->H' a=some (ErrN a C (some d))->H' d=some (XD d (names.zip xs))->(∀b,b≠a->b≠d->H' b=H b)->Q .non H'
structure Err(P:Program)(w:World)(K:aa)(mg:Str->Option Value)(base:Heap)(x:Str)(names:List Str)(C:Addr):Prop where
 xc:∃fI Qa fd ps,XC K C fI Qa/\FnOk P w K mg base CX0 1 fI fd ps (Ky C names)/\ps.length<=1000/\Binds K fd ps []
 xr:XR K C
 mg:mg x=some (.ref C)
 kp:aZ K (.ref C)=true
section
variable {X:Cx}{E:XK}{x:Str}{names:List Str}{C:Addr}{p cpos pos:Pos}{e:Expr}{es:List Expr}{t:TA}
def DW(C:Addr)(names:List Str)(t:TA)(E:XK):TS:=λ_ σ H=>t σ H λvs H1=>vs.length=names.length/\∀H' d,H1 d=none->H' d=some (XD d (names.zip vs))->(∀b,b≠d->H' b=H1 b)->E (.ref C) (some d) H'
theorem T7(R:Err X.prog X.w X.K X.mg X.base x names C)(hx:Passes (CX1 X.prog X.w) X E)(hcalm:X.calm=true)(hr:Room 2 X.A)(hg:Gl X x)(ha:PA X (e::es) t)(hdb:(x==("__debug__":Str))=false:=by decide)(he:aI (e::es) X.env=(false,eval e X.env)::aI es X.env:=by rfl)(hpl:(b8 cpos (aI es X.env)).any (·.1)=false:=by rfl):PS X (.Raise (some (.Call (.Name x p) (e::es) [] cpos)) none pos) (DW C names t E):=by
 obtain⟨fI,Qa,fd,ps,xc,F,hn,hb⟩:=R.xc;intro pins s σ H D I h;rw[arm_exec_Raise];refine ae (e_ ?_);refine T6 (K:=X.K) (I.ok.hd hcalm) (ae (cj (cJ (JN I hg R.mg ?_ hdb)) (λu s1 q=>ae (e_ (ai q))) λ_ _ z=>z));refine cv (h₀:=X.base) I.ok.mod.kin R.kp (thn (ha cpos pins s σ H _ I h) λus s1⟨vs,H1,I1,r,hl,q⟩=>⟨I1.kIn,?_⟩) he hpl;refine thn (TV (k:=1) (E:=E0) (Q:=λv H2=>∃a d H',v=.ref a/\H2 a=some (ErrN a C (some d))/\del H2 a=H'/\E (.ref C) (some d) H') (dvs:=[]) (ds:=[]) xc F hr hb .nil Yl I1 r ?_ λa ha'=>?_) λu s2 q2=>?_
 ·rw[fh];have e1:=r.length;have e2:=F.len (.ref s1.heap.objs.size::vs) (upd H1 s1.heap.objs.size (ErrN s1.heap.objs.size C none)) (λ_ _=>True) E0 ⟨_,vs,rfl,hl,Zf ..,λ_ _ _ _ _ _ _=>trivial⟩;rw[aR]at e2;have e3:us.length=vs.length:=e1.symm;show us.length<=_;omega
 ·rw[bB];refine⟨a,vs,rfl,hl,Zf ..,λH' d hne hd h1 h2 h3=>⟨rfl,a,d,_,rfl,h1,rfl,q (del H' a) d ?_ ?_ ?_⟩⟩
  ·rwa [Zg hne]at hd
  ·rw[X8 hne];exact h2
  ·intro b hb;by_cases hba:b=a
   ·rw[hba,Vf,ha']
   ·rw[X8 hba,h3 b hba hb,Zg hba]
 ·obtain⟨v,H2,I2,rv,a,d,H',ev,ea,eH,hE⟩:=q2;subst ev;obtain rfl:u=Value.ref a:=rv;obtain⟨o,vs',hx',hc,hdd,hd,hz,h1⟩:=VI.mp (I2.hok a _ ea);exact⟨a,o,C,fI,Qa,vs',rfl,xc,I2.kIn,hx',hc,hd,h1,hx pins σ H2 s2 _ s2 I2 (raised I2 ea (by rw[eH];exact hE))⟩
end
noncomputable def SR(f v:Str)(p1 p2 p3 p4:Pos):Stmt:=.Assign [.Attribute (.Name "self" p1) f p2] (.Name v p3) p4
theorem W9{N ps:List Str}{sc:Scope}(S:FnScope N ps sc){x:Str}(h:x∈ps):Vis sc x:=by
 rcases S.par x h with z|z
 ·exact .inl z
 ·exact .inr (.inl z)
section
variable {P:Program}{w:World}{K:aa}{mg:Str->Option Value}{base:Heap}{fI C Qa:Addr}{fd:bP}{qual f1 v1 f2 v2 f3 v3:Str}{st:Stmt}{p1 p2 p3 p4 q1 q2 q3 q4 r1 r2 r3 r4:Pos}
def Plain(x:Str):Prop:=(x==("__debug__":Str))=false/\(x==("__classdict__":Str))=false
theorem AL(F:Fun K "__init__" qual st fI fd)(S:FnScope ["self",v1] ["self",v1] (Zc st))(hb:ZQ st=[SR f1 v1 p1 p2 p3 p4])(pl:Plain v1)(xc:XC K C fI Qa)(n1:Xk K C f1):FnOk P w K mg base CX0 1 fI fd ["self",v1] (Ky C [f1]):=by
 refine F.ok (k:=0) S (λvs H Q E h=>?_) λcdv A outer s H vs Q E hr h=>?_
 ·obtain⟨a,xs,rfl,hl,_⟩:=h;rw[aR,hl];rfl
 ·obtain⟨a,xs,rfl,hl,hH,k⟩:=h;obtain⟨y,rfl⟩:=len1 hl;rw[hb];refine⟨_,Zd (Ea (Pu (i:=0) rfl (W9 S (by simp)) (by decide) (by decide)) (Pu (i:=1) rfl (W9 S (by simp)) pl.1 pl.2) rfl),?_⟩;refine⟨y,rfl,.ref a,rfl,a,C,fI,Qa,rfl,hH,xc,n1,λd hne hd=>?_⟩;exact k _ d hne hd (Zf ..) (by rw[Zg hne,Zf];rfl) λb hb1 hb2=>by rw[Zg hb1,Zg hb2]
end
structure XK1(K:aa)(mg:Str->Option Value)(x:Str)(C fI Qa:Addr):Prop where
 xc:XC K C fI Qa
 xr:XR K C
 xb:XB K C
 mg:mg x=some (.ref C)
 kp:aZ K (.ref C)=true
section
variable {K:aa}{σ:St}{H:Hp}{Q:VK}{i:Nat}{n:Int}{p:Addr}{xs:List V}{v:V}
theorem iaL(hp:H p=some (.lst xs))(hj:atI xs n=some v)(k:Q v H)(hv:σ[i]?=some (some (.ref p)):=by rfl):tOp (rIxL K) (tVar i) (tC (.int n)) σ H Q:=⟨_,hv,p,xs,n,v,rfl,rfl,SqL.of hp,hj,k⟩
theorem iaT(hp:H p=some (.tup xs))(hj:atI xs n=some v)(k:Q v H)(hv:σ[i]?=some (some (.ref p)):=by rfl):tOp (rIxT K) (tVar i) (tC (.int n)) σ H Q:=⟨_,hv,p,xs,n,v,rfl,rfl,SqT.of hp,hj,k⟩
theorem ixL(j:Nat)(hp:H p=some (.lst xs))(hj:xs[j]?=some v)(k:Q v H)(hv:σ[i]?=some (some (.ref p)):=by rfl):tOp (rIxL K) (tVar i) (tC (.int j)) σ H Q:=iaL hp (ZD hj) k hv
theorem ixT(j:Nat)(hp:H p=some (.tup xs))(hj:xs[j]?=some v)(k:Q v H)(hv:σ[i]?=some (some (.ref p)):=by rfl):tOp (rIxT K) (tVar i) (tC (.int j)) σ H Q:=iaT hp (ZD hj) k hv
theorem mthV{C t dx:Addr}{m:Str}{sp:Sp}{dvs:List V}{E:XK}{ta:TA}{fs:List (Str×V)}(ht:H t=some (.ins C dx fs))(ho:fs.lookup m=none)(k:ta σ H λvs H2=>sp (.ref t::(vs++dvs)) H2 Q E)(hv:σ[i]?=some (some (.ref t)):=by rfl):Ny C m sp dvs E (tVar i) ta σ H Q:=⟨_,hv,t,dx,fs,rfl,ht,ho,k⟩
end
section
variable {X:Cx}{a b e:Expr}{es:List Expr}{ta tb te:TE}{t:TA}{pos:Pos}
noncomputable def notStar:Expr->Bool
|.Starred ..=>false
|_=>true
theorem Rf{env:Env}(h:notStar e=true):aI (e::es) env=(false,eval e env)::aI es env:=by cases e<;>first|rfl|cases h
theorem Ze(ha:PE X e te)(hr:PA X es t)(hn:notStar e=true:=by rfl):PA X (e::es) (Yo te t):=Zh ha hr (Rf hn)
theorem pa1(ha:PE X e te)(hn:notStar e=true):PA X [e] (Yo te tNil):=Ze ha Zk hn
theorem pa2(ha:PE X e te)(hb:PE X a ta)(hn:(notStar e&&notStar a)=true):PA X [e,a] (Yo te (Yo ta tNil)):=Ze ha (pa1 hb (Bool.and_eq_true_iff.mp hn).2) (Bool.and_eq_true_iff.mp hn).1
theorem pa3(ha:PE X e te)(hb:PE X a ta)(hc:PE X b tb)(hn:(notStar e&&(notStar a&&notStar b))=true):PA X [e,a,b] (Yo te (Yo ta (Yo tb tNil))):=Ze ha (pa2 hb hc (Bool.and_eq_true_iff.mp hn).2) (Bool.and_eq_true_iff.mp hn).1
theorem nmT(i:Nat){x:Str}(hN:X.N.Nodup)(hi:X.N[i]?=some x:=by rfl)(hx:Loc X.env.scope x:=by exact aO rfl)(hf:X.fn x=true\/X.env.scope.names.lookup x=some .local:=by first|exact .inl rfl|exact .inr rfl|assumption):PG X (.Name x pos) (Zq i):=VC hN hi hx hf
theorem il(K:aa)(ha:PE X a ta)(hb:PE X b tb)(hK:X.K=K:=by rfl)(hs:PZ b:=by exact λ_ _=>rfl):PE X (.Subscript a b pos) (tOp (rIxL K) ta tb):=by subst hK;exact Yg EA ha hb hs
theorem it(K:aa)(ha:PE X a ta)(hb:PE X b tb)(hK:X.K=K:=by rfl)(hs:PZ b:=by exact λ_ _=>rfl):PE X (.Subscript a b pos) (tOp (rIxT K) ta tb):=by subst hK;exact Yg Z9 ha hb hs
theorem cn{k j:Nat}{x:Str}{ps:List Str}{sp:Sp}{p:Pos}(C:Can X.prog X.w X.K X.mg X.base k x ps sp)(hr:Room j X.A)(ha:PA X (e::es) t)(hk:k<=j:=by decide)(hg:Gl X x:=by rfl)(hdb:(x==("__debug__":Str))=false:=by decide)(he:aI (e::es) X.env=(false,eval e X.env)::aI es X.env:=by rfl)(hpl:(b8 pos (aI es X.env)).any (·.1)=false:=by rfl):PE X (.Call (.Name x p) (e::es) [] pos) (G0 sp [] E0 t):=YB C (hr.mono hk) hg ha hdb he hpl
theorem st(i:Nat){x:Str}{p:Pos}(hN:X.N.Nodup)(he:PE X e te)(hi:X.N[i]?=some x:=by rfl)(hx:Loc X.env.scope x:=by exact aO rfl)(hs:fH e (some (.Name x p)) pos.line X.env=pure false:=by rfl)(hf:X.fn x=true\/X.env.scope.names.lookup x=some .local:=by first|exact .inl rfl|exact .inr rfl):PS X (.Assign [.Name x p] e pos) (tAsg te (Zq i)):=Yn hN hi hx he hs hf
end
theorem Room.m{j k:Nat}{A:a9}(r:Room k A)(h:j<=k:=by decide):Room j A:=r.mono h
theorem zl{n:Nat}(h:Nat.ble n 1000=true:=by rfl):n<=sizeLine:=Nat.le_trans (Nat.le_of_ble_eq_true h) (by decide)
theorem gE{α:Type}{l:List α}{i:Nat}(h:i<l.length):l[i]?=some l[i]:=List.getElem?_eq_getElem h
theorem lm{α β:Type}{f:α->β}{l:List α}:(l.map f).length=l.length:=bq f
theorem scO{N P:List Str}{sc:Scope}(h:sc.kind=.function/\sc.isCoroutine=false/\sc.isGenerator=false/\N.Nodup/\N.take P.length=P/\(∀x∈P,sc.names.lookup x=some .local\/sc.names.lookup x=some .cell)/\∀y∈sc.names,y.2≠.free:=by decide +kernel):FnScope N P sc:=⟨h.1,h.2.1,h.2.2.1,h.2.2.2.1,h.2.2.2.2.1,h.2.2.2.2.2.1,h.2.2.2.2.2.2⟩
noncomputable def csx(l:List (Str×dW)):Scope:={kind:=.function,names:=l,isGenerator:=false,isCoroutine:=false,more:=[]}
section
variable {P:Program}{w:World}{K:aa}{mg:Str->Option Value}{base:Heap}{x:Str}{st:Stmt}{N ps:List Str}{k:Nat}{sp:Sp}
theorem Df.cn(D:Df K mg x st ps)(S:FnScope N ps (Zc st))(hb:∀(f:Addr)(cdv:Value)(A:a9)(outer:List Env)(s:ag)(H:Hp)(vs:List V)(Q:VK)(E:XK),Room k (A.deeper (dU x (Zc st) s.heap.objs.size f cdv))->sp vs H Q E->∃t,PSs (cxOf CX0 P w K mg base N x (Zc st) f cdv A outer s H E).nox (ZQ st) t/\t {nx:=λ_ H'=>Q .non H',rt:=Q} (start N vs) H)(len:∀vs H Q E,sp vs H Q E->vs.length=ps.length:=by intro _ _ _ _ h;repeat (obtain⟨a,h⟩:=h;first|(subst a;rfl)|skip)):Can P w K mg base (k+1) x ps sp:=D.can S len hb
theorem Df.cnX(D:Df K mg x st ps)(S:FnScope N ps (Zc st))(hb:∀(f:Addr)(cdv:Value)(A:a9)(outer:List Env)(s:ag)(H:Hp)(vs:List V)(Q:VK)(E:XK),Room k (A.deeper (dU x (Zc st) s.heap.objs.size f cdv))->sp vs H Q E->∃t,PSs (cxOf (CX1 P w) P w K mg base N x (Zc st) f cdv A outer s H E) (ZQ st) t/\t {nx:=λ_ H'=>Q .non H',rt:=Q} (start N vs) H)(len:∀vs H Q E,sp vs H Q E->vs.length=ps.length:=by intro _ _ _ _ h;repeat (obtain⟨a,h⟩:=h;first|(subst a;rfl)|skip)):CanX P w K mg base (k+1) x ps sp:=D.canX S len hb
end
theorem tq{a b:TS}{D:Ends}{σ:St}{H:Hp}(h:∀D':Ends,(∀σ' H',b D σ' H'->D'.nx σ' H')->a D' σ H):tSeq a b D σ H:=h _ λ_ _ x=>x
theorem shp{σ:St}{p:(Nat->Option V)->St}(h:σ=p λi=>σ.getD i none):∃o,σ=p o:=⟨_,h⟩
theorem td{a:TS}{D:Ends}{σ:St}{H:Hp}(h:∀D':Ends,(∀σ' H',D.nx σ' H'->D'.nx σ' H')->a D' σ H):a D σ H:=h _ λ_ _ x=>x
theorem tqr{a b:TS}{D:Ends}{σ:St}{H:Hp}(h:∀D':Ends,(∀σ' H',b D σ' H'->D'.nx σ' H')->(∀v H',D.rt v H'->D'.rt v H')->a D' σ H):tSeq a b D σ H:=h _ (λ_ _ x=>x) (λ_ _ x=>x)
def XF(K:aa)(w:World)(a:Addr)(z:Str)(v:V):Prop:=∃es n u,K.lookup a=some ⟨.type "dict",none,.dict es n,#[]⟩/\PySem.W.KeysLit w.params es.toList/\bu K a z=some (some u)/\RelV v u
def Ao(K:aa)(w:World)(td ty:TE):TE:=λσ H Q=>td σ H λx H1=>ty σ H1 λy H2=>∃a z v,x=.ref a/\y=.str z/\XF K w a z v/\Q v H2
section
variable {X:Cx}{o i:Expr}{td ty:TE}{pos:Pos}
theorem SS(ho:PE X o td)(hi:PE X i ty)(hs:NoSl i):PE X (.Subscript o i pos) (Ao X.K X.w td ty):=by intro pins s σ H Q I h;refine Sq PySem.F.slot_dict_getitem.lookup hs (thn (ho pins s σ H _ I h) λu s1⟨x,H1,I1,rx,q1⟩=>thn (hi pins s1 σ H1 _ I1 q1) λiv s2 hZ=>?_);obtain⟨y,H2,I2,ry,a,z,v,ex,ey,⟨es,n,u',hl,hk,hn,rv⟩,q2⟩:=hZ;subst ex ey;obtain rfl:u=Value.ref a:=rx;obtain⟨t,rfl⟩:=(show ∃t,iv=Value.str z t from ry);have hm:=PySem.W.mapOf_K (prog:=X.prog) I2.kIn hl hk;exact⟨hm.typeIs,wpAny_getItem_of (strKind_is X.prog X.w z t) hm (PySem.W.find_K hl hn) ⟨v,H2,I2.tok _,rv,q2⟩⟩
end
end L2
namespace T
open PySem L2
noncomputable def top(i:Nat):Stmt:=af.main.body.getD i (.Pass ⟨0,0,0,0⟩)
noncomputable abbrev m_NoTurn___init__:Stmt:=inClass (top 5) 0
noncomputable abbrev f_is_whole:Stmt:=top 12
noncomputable abbrev f_is_within:Stmt:=top 13
noncomputable abbrev f_is_text_of:Stmt:=top 14
noncomputable abbrev f_is_name:Stmt:=top 15
noncomputable abbrev f_is_group_name:Stmt:=top 16
noncomputable abbrev m_Step___init__:Stmt:=inClass (top 18) 0
noncomputable abbrev m_Step_tail:Stmt:=inClass (top 18) 2
noncomputable abbrev m_Step_head:Stmt:=inClass (top 18) 3
noncomputable abbrev m_Step_room:Stmt:=inClass (top 18) 4
noncomputable abbrev m_Ride___init__:Stmt:=inClass (top 19) 0
noncomputable abbrev m_Walk___init__:Stmt:=inClass (top 20) 0
noncomputable abbrev m_Wait___init__:Stmt:=inClass (top 21) 0
noncomputable abbrev f_walks_of:Stmt:=top 22
noncomputable abbrev f_waits_of:Stmt:=top 23
noncomputable abbrev f_moves_of:Stmt:=top 24
noncomputable abbrev f_is_spot_of:Stmt:=top 26
noncomputable abbrev f_is_turn:Stmt:=top 28
noncomputable abbrev f_refuse_no_turn:Stmt:=top 29
noncomputable abbrev f_has_form:Stmt:=top 30
noncomputable abbrev f_near_side:Stmt:=top 31
noncomputable abbrev f_set_out_crosses:Stmt:=top 32
noncomputable abbrev f_rooms_across:Stmt:=top 33
noncomputable abbrev f_people_beyond:Stmt:=top 34
noncomputable abbrev f_lets:Stmt:=top 35
noncomputable abbrev f_is_known:Stmt:=top 43
noncomputable abbrev f_rows_of:Stmt:=top 44
noncomputable abbrev f_wrong_beginning:Stmt:=top 45
noncomputable abbrev f_wrong_ends:Stmt:=top 46
noncomputable abbrev f_wrong_place:Stmt:=top 47
noncomputable abbrev f_wrong_ride:Stmt:=top 48
noncomputable abbrev f_wrong_way:Stmt:=top 49
noncomputable abbrev f_wrong_group:Stmt:=top 50
noncomputable abbrev f_refuse_row:Stmt:=top 51
noncomputable abbrev m_Table___init__:Stmt:=inClass (top 52) 0
noncomputable abbrev m_Table_take_places:Stmt:=inClass (top 52) 1
noncomputable abbrev m_Table_take_rides:Stmt:=inClass (top 52) 2
noncomputable abbrev m_Table_take_ways:Stmt:=inClass (top 52) 3
noncomputable abbrev m_Table_take_groups:Stmt:=inClass (top 52) 4
noncomputable abbrev m_Table_is_place:Stmt:=inClass (top 52) 6
noncomputable abbrev m_Table_is_home:Stmt:=inClass (top 52) 7
noncomputable abbrev m_Table_is_group:Stmt:=inClass (top 52) 10
noncomputable abbrev m_Table_group_row:Stmt:=inClass (top 52) 15
noncomputable abbrev m_Table_people:Stmt:=inClass (top 52) 16
noncomputable abbrev f__law_cell:Stmt:=top 54
noncomputable abbrev f__law_box:Stmt:=top 55
noncomputable abbrev f__law_take:Stmt:=top 56
noncomputable abbrev f__law_names:Stmt:=top 57
noncomputable abbrev f__law_places:Stmt:=top 58
noncomputable abbrev f__law_ride:Stmt:=top 59
noncomputable abbrev f__law_way:Stmt:=top 60
noncomputable abbrev f__law_group:Stmt:=top 61
noncomputable abbrev f__law_rows:Stmt:=top 62
noncomputable abbrev f__law_world:Stmt:=top 63
noncomputable abbrev f__law_made:Stmt:=top 64
noncomputable abbrev f__law_steps:Stmt:=top 65
noncomputable abbrev f__law_line:Stmt:=top 66
noncomputable abbrev f__law_none:Stmt:=top 67
noncomputable abbrev f__law_across:Stmt:=top 68
noncomputable abbrev f__law_lets_due:Stmt:=top 69
noncomputable abbrev f__law_same:Stmt:=top 70
noncomputable abbrev f__law_no_turn:Stmt:=top 71
noncomputable abbrev f__law_right:Stmt:=top 72
noncomputable abbrev f_law:Stmt:=top 73
end T
namespace K1
noncomputable def LET:List Nat:=[97,98,99,100,101,102,103,104,105,106,107,108,109,110,111,112,113,114,115,116,117,118,119,120,121,122]
noncomputable def FIG:List Nat:=[48,49,50,51,52,53,54,55,56,57]
noncomputable def lenB(n:Int)(y:List Nat):Bool:=decide ((1:Int)<=y.length)&&decide ((y.length:Int)<=n)
noncomputable def YH(n:Int)(zs y:List Nat):Bool:=lenB n y&&y.all λc=>decide (c∈zs)
noncomputable def Jn(n:Int)(zs y:List Nat):Bool:=YH n zs y&&decide (y.getD 0 0∈LET)
open PySem L2
noncomputable abbrev KS:Stmt:=T.f_is_whole
noncomputable abbrev SJ:Stmt:=T.f_is_within
noncomputable abbrev Po:Stmt:=T.f_is_text_of
noncomputable abbrev EX:Stmt:=T.f_is_name
noncomputable abbrev KW:Stmt:=T.f_is_group_name
noncomputable def tLET:Str:="abcdefghijklmnopqrstuvwxyz"
noncomputable def tNAME:Str:="abcdefghijklmnopqrstuvwxyz0123456789"
noncomputable def tGROUP:Str:="abcdefghijklmnopqrstuvwxyz0123456789."
structure Txt(K:aa)(mg:Str->Option Value):Prop where
 lets:∃t,mg "LETTERS"=some (.str tLET t)
 names:∃t,mg "NAME_SIGNS"=some (.str tNAME t)
 groups:∃t,mg "GROUP_SIGNS"=some (.str tGROUP t)
 ln:∃t,mg "LONGEST_NAME"=some (.int 8 t)
 lg:∃t,mg "LONGEST_GROUP_NAME"=some (.int 12 t)
 isi:mg "isinstance"=none
 int:mg "int"=none
 bool:mg "bool"=none
 str:mg "str"=none
 len:mg "len"=none
 all:mg "all"=none
noncomputable def W8(x:V):Bool:=LJ x
noncomputable def Zw(x:V)(lo hi:Int):Bool:=match x with
|.int i=>decide (lo<=i)&&decide (i<=hi)
|_=>false
noncomputable def codes(z:Str):List Nat:=z.cps.toList
noncomputable def Sn(x:V)(n:Int)(z:Str):Bool:=match x with
|.str y=>YH n (codes z) (codes y)
|_=>false
noncomputable def Uy(x:V)(n:Int)(z:Str):Bool:=match x with
|.str y=>Jn n (codes z) (codes y)
|_=>false
noncomputable def optV:Option Int->V
|some i=>.int i
|none=>.non
def Sw:Sp:=λvs H Q _=>∃x T,vs=[x]/\Th H x T/\Q (.bl (W8 x)) H
def Xb:Sp:=λvs H Q _=>∃x T lo hi,vs=[x,.int lo,.int hi]/\Th H x T/\Q (.bl (Zw x lo hi)) H
def MC:Sp:=λvs H Q _=>∃x T n z,vs=[x,.int n,.str z]/\Th H x T/\∀H',Same H H'->Q (.bl (Sn x n z)) H'
def Pe(n:Int)(z:Str):Sp:=λvs H Q _=>∃x T,vs=[x]/\Th H x T/\∀H',Same H H'->Q (.bl (Uy x n z)) H'
theorem slen{z:Str}(h:z.length<=1000):z.length<=sizeLine:=Nat.le_of_lt (Ji h)
theorem clen(z:Str):(codes z).length=z.length:=by simp[codes,Str.length]
section
variable {P:Program}{w:World}{K:aa}{mg:Str->Option Value}{base:Heap}
theorem DT:FnScope ["thing"] ["thing"] (Zc KS):=⟨rfl,rfl,rfl,by decide +kernel,rfl,by decide +kernel,by decide +kernel⟩
theorem NW(T:Txt K mg)(D:Df K mg "is_whole" KS ["thing"]):Can P w K mg base 1 "is_whole" ["thing"] Sw:=by
 refine D.can DT (λvs H Q E h=>?_) (λf cdv A outer s H vs Q E hr h=>?_)
 ·obtain⟨x,T',rfl,_⟩:=h;rfl
 ·obtain⟨x,T',rfl,th,k⟩:=h;refine⟨_,Zd (Zl (Y3 (Xu (c:="int") (pv 0) rfl T.isi rfl T.int PU) (YJ (Li (Xu (c:="bool") (pv 0) rfl T.isi rfl T.bool TH))))),?_⟩;refine⟨_,rfl,_,_,_,_,rfl,th.ty,th.kitI,_,rfl,?_⟩;have fin:∀b,b=W8 x->Q (.bl b) H:=λb e=>e▸k;refine ite2 (λe=>?_) (λe=>fin _ ?_)
  ·refine⟨_,rfl,_,_,_,_,rfl,th.ty,th.kitB,_,rfl,fin _ ?_⟩;cases th<;>first|rfl|(exact absurd (show false=true from e) Bool.false_ne_true)
  ·cases th<;>first|rfl|(exact absurd rfl e)
theorem KJ:FnScope ["thing","low","high"] ["thing","low","high"] (Zc SJ):=⟨rfl,rfl,rfl,by decide +kernel,rfl,by decide +kernel,by decide +kernel⟩
theorem Nb(D:Df K mg "is_within" SJ ["thing","low","high"])(CW:Can P w K mg base 1 "is_whole" ["thing"] Sw):Can P w K mg base 2 "is_within" ["thing","low","high"] Xb:=by
 refine D.can KJ (λvs H Q E h=>?_) (λf cdv A outer s H vs Q E hr h=>?_)
 ·obtain⟨x,T',lo,hi,rfl,_⟩:=h;rfl
 ·obtain⟨x,T',lo,hi,rfl,th,k⟩:=h;refine⟨_,Zd (Zl (Y3 (YB CW hr rfl (Zh (pv 0) Zk)) (YJ (Lm MU MU (pv 1) (pv 0) (pv 2))))),?_⟩;refine⟨_,rfl,x,T',rfl,th,_,rfl,?_⟩;have fin:∀b,b=Zw x lo hi->Q (.bl b) H:=λb e=>e▸k;refine ite2 (λe=>?_) (λe=>fin _ ?_)
  ·cases th with
  |int i=>
    refine⟨_,rfl,_,rfl,_,_,rfl,rfl,_,rfl,?_⟩;refine ite2 (λe2=>?_) (λe2=>fin _ ?_)
    ·refine⟨_,rfl,_,_,rfl,rfl,fin _ ?_⟩;show _=(decide (lo<=i)&&decide (i<=hi));rw[e2,Bool.true_and]
    ·show false=(decide (lo<=i)&&decide (i<=hi));have e3:decide (lo<=i)=false:=by simpa using e2
     rw[e3,Bool.false_and]
  |_=>exact absurd (show false=true from e) Bool.false_ne_true
  ·cases th<;>first|rfl|(exact absurd rfl e)
theorem KO:FnScope ["thing","longest","signs"] ["thing","longest","signs"] (Zc Po):=⟨rfl,rfl,rfl,by decide +kernel,rfl,by decide +kernel,by decide +kernel⟩
noncomputable def cs1:Scope:={kind:=.function,names:=[(Str.ofString ".0",.local),(Str.ofString "sign",.local),(Str.ofString "signs",.free)],isGenerator:=false,isCoroutine:=false,more:=[]}
theorem HW:CompScope cs1 (Zc Po):=⟨rfl,by decide +kernel,by decide +kernel,by decide +kernel⟩
theorem HY:(["sign","signs"]:List Str).Nodup:=by decide +kernel
theorem HX:CompNames ["thing","longest","signs"] cs1 ["sign","signs"] [none,some 2]:=.mk' (by decide +kernel)
theorem RL(z:Str)(c:Nat):(!(iC z ⟨#[c]⟩ 0 z.length 1).isEmpty)=decide (c∈codes z):=PySem.StrLaws.found_one z c
theorem take_all{α β:Type}(l:List α)(p:α->β)(i:Nat)(c:α)(h:l[i]?=some c):(l.take (i+1)).map p=(l.take i).map p++[p c]:=by rw[List.take_add_one,h,aL];rfl
theorem RV(T:Txt K mg)(D:Df K mg "is_text_of" Po ["thing","longest","signs"]):Can P w K mg base 1 "is_text_of" ["thing","longest","signs"] MC:=by
 refine D.can KO (λvs H Q E h=>?_) (λf cdv A outer s H vs Q E hr h=>?_)
 ·obtain⟨x,T',n,z,rfl,_⟩:=h;rfl
 ·obtain⟨x,T',n,z,rfl,th,k⟩:=h;refine⟨_,Za (ZG (PW.pt (JT (ZY (ZT (Xu (c:="str") (pv 0) rfl T.isi rfl T.str Ds))) (Xh (ZY (Lb MU MU Zb (Zv Dq rfl T.len ba (Zh (pv 0) Zk)) (pv 1)))))) (Zd (Zl JU)) Zp) (Zd (Zl (Zv (Nf rfl) rfl T.all fB (Zh (Z0 (scope:=cs1) (N:=["sign","signs"]) (cp:=[none,some 2]) rfl HW HX (FN (pv 0)) (λC s H ex pn=>VC (i:=0) HY rfl (aO rfl)) (λC s H ex pn=>Yp) (λC s H ex pn=>YE U9 (pv 0) (pv 1) (by with_unfolding_all rfl))) Zk)))),?_⟩;have fin:∀b H',Same H H'->b=Sn x n z->Q (.bl b) H':=λb H' sm e=>e▸k H' sm;refine⟨_,rfl,_,_,_,_,rfl,th.ty,th.kitS,_,rfl,?_⟩;refine ite2 (λe=>?_) (λe=>?_)
  ·refine iteT (fin _ _ (Same.refl _) ?_);cases th<;>first|rfl|(exact absurd (show false=true from e) Bool.false_ne_true)
  ·cases th with
  |str y hy=>
    have hlen:(codes y).length=y.length:=clen y;refine⟨_,rfl,_,_,rfl,⟨slen hy,rfl⟩,_,_,rfl,rfl,_,rfl,?_⟩;refine ite2 (λe1=>?_) (λe1=>?_)
    ·refine⟨_,rfl,_,_,rfl,rfl,_,rfl,?_⟩;refine ite2 (λe2=>?_) (λe2=>?_)
     ·refine fin _ _ (Same.refl _) ?_;show false=YH n (codes z) (codes y);unfold YH lenB;have e3:decide ((y.length:Int)<=n)=false:=by simpa using e2
      rw[hlen,e3,Bool.and_false,Bool.false_and]
     ·have e3:decide ((y.length:Int)<=n)=true:=by simpa using e2
      refine⟨_,rfl,y,rfl,YY (J:=Its y) y.length (slen hy) (λi ys τ H1=>H1=H/\ys=((codes y).take i).map (λc=>V.bl (decide (c∈codes z)))/\∃v,τ=[v,some (.str z)]) ⟨rfl,rfl,none,rfl⟩ (λi ys τ H1 p=>?_) (λi ys τ H1 hi p=>hi) (λys τ H1 p=>Nat.le_refl _) (λi ys τ H1 x' H2 hi p yl=>?_) (λys τ H1 p l hl=>?_)⟩
      ·rw[p.2.1,bq,aN];omega
      ·obtain⟨rfl,rfl,v,rfl⟩:=p;obtain⟨rfl,c,hc,rfl⟩:=yl;refine⟨_,rfl,_,rfl,_,_,rfl,rfl,rfl,?_,_,rfl⟩;rw[RL];exact(take_all (codes y) (λc=>V.bl (decide (c∈codes z))) i c hc).symm
      ·obtain⟨rfl,rfl,v,rfl⟩:=p;refine⟨l,(codes y).map (λc=>decide (c∈codes z)),rfl,SqL.of ?_,fin _ _ (λb o q=>?_) ?_⟩
       ·rw[Zf,<-hlen,aW,bI];rfl
       ·rw[Zg (Zi q hl)];exact q
       ·show _=YH n (codes z) (codes y);unfold YH lenB;rw[hlen,e1,e3,Bool.true_and,Bool.true_and,List.all_map];rfl
    ·refine⟨_,rfl,iteT (fin _ _ (Same.refl _) ?_)⟩;show false=YH n (codes z) (codes y);unfold YH lenB;have e3:decide ((1:Int)<=y.length)=false:=by simpa using e1
     rw[hlen,e3,Bool.false_and,Bool.false_and]
  |_=>exact absurd rfl e
theorem cLET:codes tLET=LET:=by decide +kernel
theorem AZ:codes tNAME=LET++FIG++[]:=by decide +kernel
theorem HZ:codes tGROUP=LET++FIG++[46]:=by decide +kernel
theorem Nv{x:V}{n:Int}{z:Str}(h:Sn x n z=true):∃y c r,x=.str y/\codes y=c::r:=by
 cases x with
|str y=>
  have h':YH n (codes z) (codes y)=true:=h;unfold YH lenB at h';rw[Bool.and_eq_true,Bool.and_eq_true]at h';have h1:=of_decide_eq_true h'.1.1;cases e:codes y with
 |nil=>rw[e]at h1;simp at h1
 |cons c r=>exact⟨y,c,r,rfl,e⟩
|_=>exact absurd (show false=true from h) Bool.false_ne_true
theorem TK{y:Str}{c:Nat}{r:List Nat}(e:codes y=c::r):atI y.cps.toList 0=some c:=by have e':y.cps.toList=c::r:=e;rw[e'];exact ZD (j:=0) rfl
theorem _root_.L2.Th.strLen{H:Hp}{y:Str}{T:String}(h:Th H (.str y) T):y.length<=1000:=by
 cases h with
|str z h=>exact h
theorem GZ{x:V}{n:Int}{z:Str}(h:Sn x n z=false):Uy x n z=false:=by
 cases x with
|str y=>have h':YH n (codes z) (codes y)=false:=h;show(YH n (codes z) (codes y)&&_)=false;rw[h',Bool.false_and]
|_=>rfl
theorem DS:FnScope ["thing"] ["thing"] (Zc EX):=⟨rfl,rfl,rfl,by decide +kernel,rfl,by decide +kernel,by decide +kernel⟩
theorem Dg(T:Txt K mg)(D:Df K mg "is_name" EX ["thing"])(CT:Can P w K mg base 1 "is_text_of" ["thing","longest","signs"] MC):Can P w K mg base 2 "is_name" ["thing"] (Pe 8 tNAME):=by
 refine D.can DS (λvs H Q E h=>?_) (λf cdv A outer s H vs Q E hr h=>?_)
 ·obtain⟨x,T',rfl,_⟩:=h;rfl
 ·obtain⟨x,T',rfl,th,k⟩:=h;obtain⟨t1,h1⟩:=T.ln;obtain⟨t2,h2⟩:=T.names;obtain⟨t3,h3⟩:=T.lets;refine⟨_,Zd (Zl (Y3 (YB CT hr rfl (Zh (pv 0) (Zh (Z4 (v:=V.int 8) rfl h1 ⟨t1,rfl⟩) (Zh (Z4 (v:=V.str tNAME) rfl h2 ⟨t2,rfl⟩) Zk)))) (YJ (YE U9 (Yg PK (pv 0) Zb (λ_ _=>rfl)) (Z4 (v:=V.str tLET) rfl h3 ⟨t3,rfl⟩) (by with_unfolding_all rfl))))),?_⟩;refine⟨_,rfl,x,T',8,tNAME,rfl,th,λH' sm=>⟨_,rfl,?_⟩⟩;have fin:∀b,b=Uy x 8 tNAME->Q (.bl b) H':=λb e=>e▸k H' sm;refine ite2 (λe=>?_) (λe=>fin _ ?_)
  ·obtain⟨y,c,r,rfl,ey⟩:=Nv e;refine⟨_,rfl,y,0,c,rfl,rfl,slen th.strLen,TK ey,_,_,rfl,rfl,fin _ ?_⟩;have e':YH 8 (codes tNAME) (codes y)=true:=e;show _=(YH 8 (codes tNAME) (codes y)&&decide ((codes y).getD 0 0∈LET));rw[RL,e',Bool.true_and,cLET,ey];rfl
  ·exact(GZ (by simpa using e)).symm
theorem KH:FnScope ["thing"] ["thing"] (Zc KW):=⟨rfl,rfl,rfl,by decide +kernel,rfl,by decide +kernel,by decide +kernel⟩
theorem WV(T:Txt K mg)(D:Df K mg "is_group_name" KW ["thing"])(CT:Can P w K mg base 1 "is_text_of" ["thing","longest","signs"] MC):Can P w K mg base 2 "is_group_name" ["thing"] (Pe 12 tGROUP):=by
 refine D.can KH (λvs H Q E h=>?_) (λf cdv A outer s H vs Q E hr h=>?_)
 ·obtain⟨x,T',rfl,_⟩:=h;rfl
 ·obtain⟨x,T',rfl,th,k⟩:=h;obtain⟨t1,h1⟩:=T.lg;obtain⟨t2,h2⟩:=T.groups;obtain⟨t3,h3⟩:=T.lets;refine⟨_,Zd (Zl (Y3 (YB CT hr rfl (Zh (pv 0) (Zh (Z4 (v:=V.int 12) rfl h1 ⟨t1,rfl⟩) (Zh (Z4 (v:=V.str tGROUP) rfl h2 ⟨t2,rfl⟩) Zk)))) (YJ (YE U9 (Yg PK (pv 0) Zb (λ_ _=>rfl)) (Z4 (v:=V.str tLET) rfl h3 ⟨t3,rfl⟩) (by with_unfolding_all rfl))))),?_⟩;refine⟨_,rfl,x,T',12,tGROUP,rfl,th,λH' sm=>⟨_,rfl,?_⟩⟩;have fin:∀b,b=Uy x 12 tGROUP->Q (.bl b) H':=λb e=>e▸k H' sm;refine ite2 (λe=>?_) (λe=>fin _ ?_)
  ·obtain⟨y,c,r,rfl,ey⟩:=Nv e;refine⟨_,rfl,y,0,c,rfl,rfl,slen th.strLen,TK ey,_,_,rfl,rfl,fin _ ?_⟩;have e':YH 12 (codes tGROUP) (codes y)=true:=e;show _=(YH 12 (codes tGROUP) (codes y)&&decide ((codes y).getD 0 0∈LET));rw[RL,e',Bool.true_and,cLET,ey];rfl
  ·exact(GZ (by simpa using e)).symm
end
end K1
namespace TB
open PySem L2 PySem.Spec PyProof.Rows
section
variable {P:Program}{w:World}{K:aa}{mg:Str->Option Value}{base:Heap}{C:Addr}
structure Txt(K:aa)(mg:Str->Option Value):Prop where
 turns:∃t,mg "MOST_TURNS"=some (.int 50 t)
 room:∃t,mg "MOST_ROOM"=some (.int 1000 t)
 way:∃t,mg "LONGEST_WAY"=some (.int 50 t)
 people:∃t,mg "MOST_PEOPLE"=some (.int 300 t)
 isi:mg "isinstance"=none
 str:mg "str"=none
 tup:mg "tuple"=none
 lst:mg "list"=none
 len:mg "len"=none
noncomputable def Yy(r:V):V:=if(decide (r=.non)||K1.Zw r 0 1000)=true then .non else .str "number"
def MB:Sp:=λvs H Q _=>∃p n r T,vs=[.ref p]/\H p=some (.tup [n,r])/\Th H r T/\Q (Yy r) H
theorem KL:FnScope ["row"] ["row"] (Zc T.f_wrong_place):=scO
theorem RS(G:Txt K mg)(D:Df K mg "wrong_place" T.f_wrong_place ["row"])(CI:Can P w K mg base 2 "is_within" ["thing","low","high"] K1.Xb):Can P w K mg base 3 "wrong_place" ["row"] MB:=by
 obtain⟨t1,h1⟩:=G.room;refine D.cn KL λf cdv A outer s H vs Q E hr h=>?_;obtain⟨p,n,r,T',rfl,hp,th,k⟩:=h;refine⟨_,Za (ZG (PW.pt (JT (Zt X3 (Yg Z9 (pv 0) Zb (λ_ _=>rfl)) ZF (ZC _)) (Xh (ZT (YB CI hr rfl (Zh (Yg Z9 (pv 0) Zb (λ_ _=>rfl)) (Zh Zb (Zh (Z4 (v:=V.int 1000) rfl h1 ⟨t1,rfl⟩) Zk)))))))) (Zd (Zl ZF)) Zp) (Zd (Zl ZE)),?_⟩;refine⟨_,rfl,p,[n,r],1,r,rfl,rfl,SqT.of hp,rfl,rfl,_,rfl,?_⟩;unfold Yy at k;refine ite2 (λe=>?_) (λe=>?_)
 ·rw[if_pos (by simp[e])]at k;exact iteT k
 ·refine⟨_,rfl,p,[n,r],1,r,rfl,rfl,SqT.of hp,rfl,r,T',0,1000,rfl,th,_,rfl,?_⟩;refine ite2 (λe2=>?_) (λe2=>?_)
  ·rw[if_pos (by simp[e2])]at k;exact k
  ·rw[if_neg (by simpa using⟨by simpa using e,by simpa using e2⟩)]at k;exact k
noncomputable def ZV(x:V)(kvs:List (Key×V)):Bool:=match x with
|.str z=>(valV kvs (.inr z)).isSome
|_=>false
def Pf:Sp:=λvs H Q _=>∃x T d kvs,vs=[x,.ref d]/\Th H x T/\H d=some (.dK kvs)/\Q (.bl (ZV x kvs)) H
theorem DU:FnScope ["thing","names"] ["thing","names"] (Zc T.f_is_known):=scO
theorem NY(G:Txt K mg)(D:Df K mg "is_known" T.f_is_known ["thing","names"]):Can P w K mg base 1 "is_known" ["thing","names"] Pf:=by
 refine D.cn DU λf cdv A outer s H vs Q E hr h=>?_;obtain⟨x,T',d,kvs,rfl,th,hd,k⟩:=h;refine⟨_,Zd (Zl (Y3 (Xu (c:="str") (pv 0) rfl G.isi rfl G.str Ds) (YJ (FQ (Lo (YS hr) (pv 0) (pv 1)))))),?_⟩;refine⟨_,rfl,_,_,_,_,rfl,th.ty,th.kitS,_,rfl,?_⟩;have fin:∀b,b=ZV x kvs->Q (.bl b) H:=λb e=>e▸k;refine ite2 (λe=>?_) (λe=>fin _ ?_)
 ·obtain⟨z,rfl⟩:∃z,x=.str z:=by cases th<;>first|exact⟨_,rfl⟩|(exact absurd (show false=true from e) Bool.false_ne_true)
  exact⟨_,rfl,_,rfl,d,_,rfl,DGet.k (k:=cV z) hd,k⟩
 ·cases th<;>first|rfl|(exact absurd rfl e)
end
end TB
namespace L2
open PySem PySem.Spec PyProof.Rows
theorem XE:bF "tuple"=some (.type "tuple"):=by decide +kernel
theorem Xn:bF "list"=some (.type "list"):=by decide +kernel
theorem Th.kitT{K:aa}{H:Hp}{v:V}{T:String}(h:Th H v T):aH K (.type T) (.type "tuple")=some (decide (T="tuple")):=by cases h<;>(unfold aH;first|rfl|decide +kernel|(show _=_;simp;rfl))
end L2
namespace TB
open PySem L2 PySem.Spec PyProof.Rows
noncomputable def Z8(g:Bool)(x:V):Bool:=if g=true then K1.Uy x 12 K1.tGROUP else K1.Uy x 8 K1.tNAME
noncomputable def begV(g:Bool)(n:Nat)(kvs:List (Key×V))(xs:List V):V:=if xs.length≠n then .str "form" else if Z8 g (xs.getD 0 .non)=false then .str "name" else if ZV (xs.getD 0 .non) kvs=true then .str "double" else .non
def Row(H:Hp)(v:V)(r:Option (List V)):Prop:=match r with
|none=>∃T,Th H v T/\T≠"tuple"
|some xs=>∃p,v=.ref p/\H p=some (.tup xs)/\∀x∈xs,∃T,Th H x T
noncomputable def begR(g:Bool)(n:Nat)(kvs:List (Key×V)):Option (List V)->V
|none=>.str "form"
|some xs=>begV g n kvs xs
structure Sizes(K:aa)(w:World)(mg:Str->Option Value):Prop where
 at_:∃a,mg "ROW_SIZES"=some (.ref a)/\XF K w a "places" (.int 2)/\XF K w a "rides" (.int 6)/\XF K w a "ways" (.int 5)/\XF K w a "groups" (.int 4)
noncomputable def Qo:List (Str×Nat):=[("places",2),("rides",6),("ways",5),("groups",4)]
def Jg:Sp:=λvs H Q _=>∃z n row r d kvs,vs=[.str z,row,.ref d]/\(z,n)∈Qo/\Row H row r/\H d=some (.dK kvs)/\∀H',Same H H'->Q (begR (decide (z="groups")) n kvs r) H'
section
variable {P:Program}{w:World}{K:aa}{mg:Str->Option Value}{base:Heap}{C:Addr}
theorem KN:FnScope ["part","row","names_ahead","fits"] ["part","row","names_ahead"] (Zc T.f_wrong_beginning):=scO
theorem RU(G:Txt K mg)(Z:Sizes K w mg)(D:Df K mg "wrong_beginning" T.f_wrong_beginning ["part","row","names_ahead"])(CN:Can P w K mg base 2 "is_name" ["thing"] (K1.Pe 8 K1.tNAME))(CG:Can P w K mg base 2 "is_group_name" ["thing"] (K1.Pe 12 K1.tGROUP)):Can P w K mg base 3 "wrong_beginning" ["part","row","names_ahead"] Jg:=by
 obtain⟨aS,hS,k1,k2,k3,k4⟩:=Z.at_;have nd:(["part","row","names_ahead","fits"]:List Str).Nodup:=by decide +kernel
 refine D.cn KN λf cdv A outer s H vs Q E hr h=>?_;obtain⟨z,n,row,r,d,kvs,rfl,hz,hrow,hd,k⟩:=h;have hK:XF K w aS z (.int n):=by simp only[Qo,ao,gj,aF,or_false]at hz;rcases hz with⟨rfl,rfl⟩|⟨rfl,rfl⟩|⟨rfl,rfl⟩|⟨rfl,rfl⟩<;>assumption
 refine⟨_,Za (ZG (PW.pt (JT (ZY (ZT (Xu (c:="tuple") (pv 1) rfl G.isi rfl G.tup XE))) (Xh (Zt NG (Zv JQ rfl G.len ba (Zh (pv 1) Zk)) (SS (Z4 (v:=V.ref aS) rfl hS rfl) (pv 0) (λ_ _=>rfl)) (ZC _))))) (Zd (Zl ZE)) Zp) (Za (Yn (i:=3) nd rfl (aO rfl) (Qn (Zt Xw (pv 0) ZE (ZC _)) (YB CG hr rfl (Zh (Yg Z9 (pv 1) Zb (λ_ _=>rfl)) Zk)) (YB CN hr rfl (Zh (Yg Z9 (pv 1) Zb (λ_ _=>rfl)) Zk)))) (Za (ZG (ZY (ZT (pv 3))) (Zd (Zl ZE)) Zp) (Za (ZG (FJ (Lo (YS hr) (Yg Z9 (pv 1) Zb (λ_ _=>rfl)) (pv 2))) (Zd (Zl ZE)) Zp) (Zd (Zl ZF))))),?_⟩;cases r with
|none=>obtain⟨T',th,hT⟩:=hrow;refine⟨_,rfl,_,_,_,_,rfl,th.ty,th.kitT,_,rfl,?_⟩;rw[decide_eq_false hT];refine iteT ?_;exact k H (Same.refl H)
|some xs=>
  obtain⟨p,rfl,hp,hx⟩:=hrow;have th:Th H (.ref p) "tuple":=.tup hp;refine⟨_,rfl,_,_,_,_,rfl,th.ty,th.kitT,_,rfl,?_⟩;refine iteF ?_;refine⟨_,rfl,p,xs,rfl,.inr (SqT.of hp),_,rfl,aS,z,.int n,rfl,rfl,hK,rfl,_,rfl,?_⟩;refine ite2 (λe=>?_) (λe=>?_)
  ·have hl:xs.length≠n:=λq=>by rw[q]at e;simp at e
   show Q (.str "form") H;have q:=k H (Same.refl H);simpa[begR,begV,hl]using q
  ·have hl:xs.length=n:=by
    have e':(xs.length:Int)=n:=by simpa using e
    omega
   obtain⟨x,r,rfl⟩:∃x r,xs=x::r:=by
    cases xs with
   |nil=>simp only[Qo,ao,gj,aF,or_false]at hz;simp at hl;omega
   |cons x r=>exact⟨x,r,rfl⟩
   obtain⟨T',tx⟩:=hx x (by simp);have a0:∀(u:V)(l:List V),atI (u::l) 0=some u:=λu l=>ZD (xs:=u::l) (j:=0) rfl;have fin:∀b H',Same H H'->b=Z8 (decide (z="groups")) x->(if(!b)=true then Q (.str "name") H' else if ZV x kvs=true then Q (.str "double") H' else Q .non H'):=by
    rintro b H' sm rfl;have q:=k H' sm;simp only[begR,begV,hl,ne_eq,not_true_eq_false,if_false,List.getD_cons_zero]at q;cases hb:Z8 (decide (z="groups")) x with
   |false=>rw[if_pos (by decide)];rw[hb,if_pos rfl]at q;exact q
   |true=>
     rw[if_neg (by decide)];rw[hb,if_neg (by decide)]at q;by_cases hk:ZV x kvs=true
     ·rw[if_pos hk]at q ⊢;exact q
     ·rw[if_neg hk]at q ⊢;exact q
   have isS:∀b,b=Z8 (decide (z="groups")) x->b=true->∃y,x=.str y:=by
    rintro _ rfl hb;unfold Z8 at hb;cases x with
   |str y=>exact⟨y,rfl⟩
   |_=>split at hb<;>cases hb
   refine⟨_,rfl,rfl,_,rfl,?_⟩;refine ite2 (λe2=>?_) (λe2=>?_)
   ·refine⟨_,rfl,p,x::r,0,x,rfl,rfl,SqT.of hp,a0 x r,x,T',rfl,tx,λH' sm=>?_⟩;have hb:K1.Uy x 12 K1.tGROUP=Z8 (decide (z="groups")) x:=by
     have e3:z="groups":=by simpa using e2
     simp[Z8,e3]
    have q:=fin _ H' sm hb;refine⟨_,rfl,_,rfl,?_⟩;refine ite2 (λe3=>?_) (λe3=>?_)
    ·rw[if_pos e3]at q;exact q
    ·rw[if_neg e3]at q;obtain⟨y,rfl⟩:=isS _ hb (by simpa using e3);exact⟨_,rfl,p,_::r,0,_,rfl,rfl,SqT.of (sm _ _ hp),a0 _ r,_,rfl,d,_,rfl,DGet.k (k:=cV y) (sm _ _ hd),_,rfl,q⟩
   ·refine⟨_,rfl,p,x::r,0,x,rfl,rfl,SqT.of hp,a0 x r,x,T',rfl,tx,λH' sm=>?_⟩;have hb:K1.Uy x 8 K1.tNAME=Z8 (decide (z="groups")) x:=by
     have e3:z≠"groups":=by simpa using e2
     simp[Z8,e3]
    have q:=fin _ H' sm hb;refine⟨_,rfl,_,rfl,?_⟩;refine ite2 (λe3=>?_) (λe3=>?_)
    ·rw[if_pos e3]at q;exact q
    ·rw[if_neg e3]at q;obtain⟨y,rfl⟩:=isS _ hb (by simpa using e3);exact⟨_,rfl,p,_::r,0,_,rfl,rfl,SqT.of (sm _ _ hp),a0 _ r,_,rfl,d,_,rfl,DGet.k (k:=cV y) (sm _ _ hd),_,rfl,q⟩
end
end TB
namespace L2
open PySem PySem.Spec PyProof.Rows
def DfM(K:aa)(C:Addr)(m qual:Str)(st:Stmt)(ps:List Str):Prop:=∃f fd,Fun K m qual st f fd/\Meth K C m f/\Binds K fd ps []
def CanM(P:Program)(w:World)(K:aa)(mg:Str->Option Value)(base:Heap)(CX:CXT)(k:Nat)(C:Addr)(m:Str)(ps:List Str)(sp:Sp):Prop:=∃f fd,FnOk P w K mg base CX k f fd ps sp/\Meth K C m f/\Binds K fd ps []
section
variable {P:Program}{w:World}{K:aa}{mg:Str->Option Value}{base:Heap}{C:Addr}{m qual:Str}{st:Stmt}{N ps:List Str}{k:Nat}{sp:Sp}
theorem DfM.can(D:DfM K C m qual st ps)(S:FnScope N ps (Zc st))(len:∀vs H Q E,sp vs H Q E->vs.length=ps.length)(hbody:∀(f:Addr)(cdv:Value)(A:a9)(outer:List Env)(s:ag)(H:Hp)(vs:List V)(Q:VK)(E:XK),Room k (A.deeper (dU qual (Zc st) s.heap.objs.size f cdv))->sp vs H Q E ->∃t,PSs (cxOf CX0 P w K mg base N qual (Zc st) f cdv A outer s H E).nox (ZQ st) t/\t {nx:=λ_ H'=>Q .non H',rt:=Q} (start N vs) H):CanM P w K mg base CX0 (k+1) C m ps sp:=by obtain⟨f,fd,F,me,b⟩:=D;exact⟨f,fd,F.ok S len (λcdv A outer s H vs Q E hr h=>hbody f cdv A outer s H vs Q E hr h),me,b⟩
theorem DfM.cn(D:DfM K C m qual st ps)(S:FnScope N ps (Zc st))(hbody:∀(f:Addr)(cdv:Value)(A:a9)(outer:List Env)(s:ag)(H:Hp)(vs:List V)(Q:VK)(E:XK),Room k (A.deeper (dU qual (Zc st) s.heap.objs.size f cdv))->sp vs H Q E ->∃t,PSs (cxOf CX0 P w K mg base N qual (Zc st) f cdv A outer s H E).nox (ZQ st) t/\t {nx:=λ_ H'=>Q .non H',rt:=Q} (start N vs) H)(len:∀vs H Q E,sp vs H Q E->vs.length=ps.length:=by intro _ _ _ _ h;repeat (obtain⟨a,h⟩:=h;first|(subst a;rfl)|skip)):CanM P w K mg base CX0 (k+1) C m ps sp:=D.can S len hbody
end
section
variable {X:Cx}{CX:CXT}{k:Nat}{C:Addr}{ps:List Str}{sp:Sp}{E:XK}{m:Str}{pos apos:Pos}{e o:Expr}{es:List Expr}{ta:TE}{t:TA}
theorem Yx{pl:Sem Bool}(c:CanM X.prog X.w X.K X.mg X.base CX k C m ps sp)(cl:Cls X.K C)(hx:Passes CX X E)(hr:Room k X.A)(he:PE X o ta)(ha:PA X (e::es) t)
  (hst:aI (e::es) X.env=(false,eval e X.env)::aI es X.env:=by rfl) (hpl:(b8 pos (aI es X.env)).any (·.1)=false:=by rfl)
  (ht:eval (.Call (.Attribute o m apos) (e::es) [] pos) X.env=(do
   let ov <-eval o X.env
   ib apos.atName
   let (f,first) <-eV [ov] (fJ ov m pl)
   g9 pos f first (b8 pos (aI (e::es) X.env)) (fg pos (da [] X.env))):=by rfl):
  PE X (.Call (.Attribute o m apos) (e::es) [] pos) (Ny C m sp [] E ta t):=by
 obtain⟨f,fd,F,me,b⟩:=c
 exact Ee he cl me F hr b .nil hx ha hst hpl ht
end
end L2
namespace TB
open PySem L2 PySem.Spec PyProof.Rows
noncomputable def fields:List Str:=["turns","places","room_by_place","rides","ride_by_name","ways","way_by_name","groups","group_by_name"]
structure TCl(K:aa)(C:Addr):Prop where
 cl:Cls K C
 na:∀f∈fields,Xk K C f
structure Tab(H:Hp)(C t:Addr)(fs:List (Str×V)):Prop where
 at_:∃dx,H t=some (.ins C dx fs)
 only:∀g,g∉fields->fs.lookup g=none
section
variable {P:Program}{w:World}{K:aa}{mg:Str->Option Value}{base:Heap}{C:Addr}
def G5(C:Addr)(fld:Str):Sp:=λvs H Q _=>∃t x T fs d kvs,vs=[.ref t,x]/\Tab H C t fs/\fs.lookup fld=some (.ref d)/\H d=some (.dK kvs)/\Th H x T/\Q (.bl (ZV x kvs)) H
theorem Au:FnScope ["self","thing"] ["self","thing"] (Zc T.m_Table_is_place):=scO
theorem Ma(Z:TCl K C)(D:DfM K C "is_place" "Table.is_place" T.m_Table_is_place ["self","thing"])(CK:Can P w K mg base 1 "is_known" ["thing","names"] Pf):CanM P w K mg base CX0 2 C "is_place" ["self","thing"] (G5 C "room_by_place"):=by refine D.cn Au λf cdv A outer s H vs Q E hr h=>?_;obtain⟨t,x,T',fs,d,kvs,rfl,⟨⟨dx,ht⟩,_⟩,hl,hd,th,k⟩:=h;refine⟨_,Zd (Zl (YB CK hr rfl (Zh (pv 1) (Zh (ZZ (pv 0) rfl) Zk)))),?_⟩;exact⟨_,rfl,_,rfl,t,C,dx,fs,_,rfl,ht,Z.cl,Z.na _ (by simp[fields]),hl,x,T',d,kvs,rfl,th,hd,k⟩
noncomputable def UA(x:V)(kvs:List (Key×V)):Bool:=match x with
|.str z=>decide (valV kvs (.inr z)=some .non)
|_=>false
theorem Yu{x:V}{kvs:List (Key×V)}(h:ZV x kvs=true):∃z v,x=.str z/\valV kvs (.inr z)=some v:=by
 cases x with
|str z=>have h':(valV kvs (.inr z)).isSome=true:=h;exact⟨z,_,rfl,(Option.some_get h').symm⟩
|_=>cases h
theorem RM{x:V}{kvs:List (Key×V)}(h:ZV x kvs=false):UA x kvs=false:=by
 cases x with
|str z=>
  have h':(valV kvs (.inr z)).isSome=false:=h;show decide (valV kvs (.inr z)=some .non)=false;cases e:valV kvs (.inr z)with
 |none=>simp
 |some v=>rw[e]at h';cases h'
|_=>rfl
def Up(C:Addr):Sp:=λvs H Q _=>∃t x T fs d kvs,vs=[.ref t,x]/\Tab H C t fs/\fs.lookup ("room_by_place":Str)=some (.ref d)/\H d=some (.dK kvs)/\Th H x T/\Q (.bl (UA x kvs)) H
theorem KR:FnScope ["self","thing"] ["self","thing"] (Zc T.m_Table_is_home):=scO
theorem Nc(Z:TCl K C)(D:DfM K C "is_home" "Table.is_home" T.m_Table_is_home ["self","thing"])(CP:CanM P w K mg base CX0 2 C "is_place" ["self","thing"] (G5 C "room_by_place")):CanM P w K mg base CX0 3 C "is_home" ["self","thing"] (Up C):=by
 refine D.cn KR λf cdv A outer s H vs Q E hr h=>?_;obtain⟨t,x,T',fs,d,kvs,rfl,tb,hl,hd,th,k⟩:=h;obtain⟨dx,ht⟩:=id tb.at_;refine⟨_,Zd (Zl (Y3 (Yx CP Z.cl Yl hr (pv 0) (Zh (pv 1) Zk)) (YJ (YE X3 (Px (YS hr) (ZZ (pv 0) rfl) (pv 1) (λ_ _=>rfl)) ZF (by with_unfolding_all rfl))))),?_⟩;refine mthV ht (tb.only _ (by decide +kernel)) ⟨_,rfl,t,x,T',fs,d,kvs,rfl,tb,hl,hd,th,_,rfl,?_⟩;have fin:∀b,b=UA x kvs->Q (.bl b) H:=λb e=>e▸k;refine ite2 (λe=>?_) (λe=>fin _ ?_)
 ·obtain⟨z,v,rfl,hv⟩:=Yu e;refine⟨_,rfl,t,C,dx,fs,_,rfl,ht,Z.cl,Z.na _ (by simp[fields]),hl,_,rfl,d,v,rfl,(by rw[<-hv];exact DGet.k (k:=cV z) hd),rfl,fin _ ?_⟩;show decide (v=.non)=decide (valV kvs (.inr z)=some .non);rw[hv];simp
 ·have e':ZV x kvs=false:=by simpa using e
  exact(RM e').symm
noncomputable def YT(kvs:List (Key×V))(s g:V):V:=if(!ZV s kvs||!ZV g kvs)=true then .str "place" else if UA s kvs=true then .str "home" else if g=s then .str "alike" else .non
def Ri(C:Addr):Sp:=λvs H Q _=>∃t x y T T' fs d kvs,vs=[.ref t,x,y]/\Tab H C t fs/\fs.lookup ("room_by_place":Str)=some (.ref d)/\H d=some (.dK kvs)/\Th H x T/\Th H y T'/\Q (YT kvs x y) H
theorem FG:FnScope ["table","start","goal"] ["table","start","goal"] (Zc T.f_wrong_ends):=scO
theorem Dn(Z:TCl K C)(D:Df K mg "wrong_ends" T.f_wrong_ends ["table","start","goal"])(CP:CanM P w K mg base CX0 2 C "is_place" ["self","thing"] (G5 C "room_by_place"))(CH:CanM P w K mg base CX0 3 C "is_home" ["self","thing"] (Up C)):Can P w K mg base 4 "wrong_ends" ["table","start","goal"] (Ri C):=by
 refine D.cn FG λf cdv A outer s H vs Q E hr h=>?_;obtain⟨t,x,y,T1,T2,fs,d,kvs,rfl,tb,hl,hd,tx,ty,k⟩:=h;obtain⟨dx,ht⟩:=id tb.at_;have hr2:Room 2 (A.deeper (dU "wrong_ends" (Zc T.f_wrong_ends) s.heap.objs.size f cdv)):=hr.mono (by decide);refine⟨_,Za (ZG (PW.pt (JT (ZY (ZT (Yx CP Z.cl Yl hr2 (pv 0) (Zh (pv 1) Zk)))) (Xh (ZY (ZT (Yx CP Z.cl Yl hr2 (pv 0) (Zh (pv 2) Zk))))))) (Zd (Zl ZE)) Zp) (Za (ZG (ZT (Yx CH Z.cl Yl hr (pv 0) (Zh (pv 1) Zk))) (Zd (Zl ZE)) Zp) (Za (ZG (Zt Xw (pv 2) (pv 1) (ZC _)) (Zd (Zl ZE)) Zp) (Zd (Zl ZF)))),?_⟩;unfold YT at k;refine mthV ht (tb.only _ (by decide +kernel)) ⟨_,rfl,t,x,T1,fs,d,kvs,rfl,tb,hl,hd,tx,_,rfl,?_⟩;refine ite2 (λe=>?_) (λe=>?_)
 ·rw[if_pos (by rw[e];rfl)]at k;exact iteT k
 ·refine mthV ht (tb.only _ (by decide +kernel)) ⟨_,rfl,t,y,T2,fs,d,kvs,rfl,tb,hl,hd,ty,_,rfl,?_⟩;refine ite2 (λe2=>?_) (λe2=>?_)
  ·rw[if_pos (by rw[e2];simp)]at k;exact k
  ·have kx:ZV x kvs=true:=by simpa using e
   have ky:ZV y kvs=true:=by simpa using e2
   rw[if_neg (by rw[kx,ky];decide)]at k;refine mthV ht (tb.only _ (by decide +kernel)) ⟨_,rfl,t,x,T1,fs,d,kvs,rfl,tb,hl,hd,tx,_,rfl,?_⟩;refine ite2 (λe3=>?_) (λe3=>?_)
   ·rw[if_pos e3]at k;exact k
   ·rw[if_neg e3]at k;obtain⟨zx,_,rfl,_⟩:=Yu kx;obtain⟨zy,_,rfl,_⟩:=Yu ky;refine⟨_,rfl,_,rfl,rfl,_,rfl,?_⟩;refine ite2 (λe4=>?_) (λe4=>?_)
    ·rw[if_pos (by simpa using e4)]at k;exact k
    ·rw[if_neg (by simpa using e4)]at k;exact k
noncomputable def Us(kvs:List (Key×V))(n:Int)(s l g a m:V):V:=if YT kvs s g≠.non then YT kvs s g else match l with
 |.int i=>if(!K1.Zw (.int i) 0 (n-1)||!K1.Zw a (i+1) n)=true then .str "turn" else if(!K1.Zw m 0 1000)=true then .str "number" else .non
 |_=>.str "turn"
noncomputable def wayV(kvs:List (Key×V))(s g l m:V):V:=if YT kvs s g≠.non then YT kvs s g else if(!K1.Zw l 1 50||!K1.Zw m 0 1000)=true then .str "number" else .non
theorem at0{α:Type}{xs:List α}(j:Nat){v:α}(h:xs[j]?=some v):atI xs (j:Int)=some v:=ZD h
def Rg(C:Addr):Sp:=λvs H Q _=>∃t p x0 x1 x2 x3 x4 x5 fs d kvs n,vs=[.ref t,.ref p]/\Tab H C t fs/\fs.lookup ("room_by_place":Str)=some (.ref d)/\fs.lookup ("turns":Str)=some (.int n)/\H d=some (.dK kvs) /\H p=some (.tup [x0,x1,x2,x3,x4,x5])/\(∀x∈[x0,x1,x2,x3,x4,x5],∃T,Th H x T)/\Q (Us kvs n x1 x2 x3 x4 x5) H
theorem FE:FnScope ["table","row","leave","why"] ["table","row"] (Zc T.f_wrong_ride):=scO
theorem L8(G:Txt K mg)(Z:TCl K C)(D:Df K mg "wrong_ride" T.f_wrong_ride ["table","row"])(CI:Can P w K mg base 2 "is_within" ["thing","low","high"] K1.Xb)(CE:Can P w K mg base 4 "wrong_ends" ["table","start","goal"] (Ri C)):Can P w K mg base 5 "wrong_ride" ["table","row"] (Rg C):=by
 obtain⟨t1,h1⟩:=G.room;have nd:(["table","row","leave","why"]:List Str).Nodup:=by decide +kernel
 refine D.cn FE λf cdv A outer s H vs Q E hr h=>?_;obtain⟨t,p,x0,x1,x2,x3,x4,x5,fs,d,kvs,n,rfl,tb,hl,hn,hd,hp,hx,k⟩:=h;obtain⟨dx,ht⟩:=id tb.at_;obtain⟨T1,h01⟩:=hx x1 (by simp);obtain⟨T2,h02⟩:=hx x2 (by simp);obtain⟨T3,h03⟩:=hx x3 (by simp);obtain⟨T4,h04⟩:=hx x4 (by simp);obtain⟨T5,h05⟩:=hx x5 (by simp);have hr2:Room 2 (A.deeper (dU "wrong_ride" (Zc T.f_wrong_ride) s.heap.objs.size f cdv)):=hr.mono (by decide);refine⟨_,Za (Yn (i:=2) nd rfl (aO rfl) (Yg Z9 (pv 1) Zb (λ_ _=>rfl))) (Za (Yn (i:=3) nd rfl (aO rfl) (YB CE hr rfl (Zh (pv 0) (Zh (Yg Z9 (pv 1) Zb (λ_ _=>rfl)) (Zh (Yg Z9 (pv 1) Zb (λ_ _=>rfl)) Zk))))) (Za (ZG (Zt VD (pv 3) ZF (ZC _)) (Zd (Zl (pv 3))) Zp) (Za (ZG (PW.pt (JT (ZY (ZT (YB CI hr2 rfl (Zh (pv 2) (Zh Zb (Zh (Zo XZ (ZZ (pv 0) rfl) Zb) Zk)))))) (Xh (ZY (ZT (YB CI hr2 rfl (Zh (Yg Z9 (pv 1) Zb (λ_ _=>rfl)) (Zh (Zo ZI (pv 2) Zb) (Zh (ZZ (pv 0) rfl) Zk))))))))) (Zd (Zl ZE)) Zp) (Za (ZG (ZY (ZT (YB CI hr2 rfl (Zh (Yg Z9 (pv 1) Zb (λ_ _=>rfl)) (Zh Zb (Zh (Z4 (v:=V.int 1000) rfl h1 ⟨t1,rfl⟩) Zk)))))) (Zd (Zl ZE)) Zp) (Zd (Zl ZF)))))),?_⟩;refine⟨_,rfl,p,_,2,x2,rfl,rfl,SqT.of hp,at0 2 rfl,?_⟩;refine⟨_,rfl,_,rfl,p,_,1,x1,rfl,rfl,SqT.of hp,at0 1 rfl,_,rfl,p,_,3,x3,rfl,rfl,SqT.of hp,at0 3 rfl,t,x1,x3,T1,T3,fs,d,kvs,rfl,tb,hl,hd,h01,h03,?_⟩;unfold Us at k;refine⟨_,rfl,rfl,_,rfl,?_⟩;refine ite2 (λe=>?_) (λe=>?_)
 ·have e':YT kvs x1 x3≠.non:=by simpa using e
  rw[if_pos e']at k;exact⟨_,rfl,k⟩
 ·have e':¬YT kvs x1 x3≠.non:=by simpa using e
  rw[if_neg e']at k;refine⟨_,rfl,_,rfl,t,C,dx,fs,_,rfl,ht,Z.cl,Z.na _ (by simp[fields]),hn,_,_,rfl,rfl,x2,T2,0,n-1,rfl,h02,_,rfl,?_⟩;refine ite2 (λe2=>?_) (λe2=>?_)
  ·have q:Q (.str "turn") H:=by
    cases x2 with
   |int i=>
     have k':Q (if(!K1.Zw (.int i) 0 (n-1)||!K1.Zw x4 (i+1) n)=true then V.str "turn" else if(!K1.Zw x5 0 1000)=true then .str "number" else .non) H:=k
     rw[if_pos (by rw[e2];rfl)]at k';exact k'
   |_=>exact k
   exact iteT q
  ·obtain⟨i,rfl⟩:∃i,x2=.int i:=by
    cases x2 with
   |int i=>exact⟨i,rfl⟩
   |_=>exact absurd rfl e2
   have k':Q (if(!K1.Zw (.int i) 0 (n-1)||!K1.Zw x4 (i+1) n)=true then V.str "turn" else if(!K1.Zw x5 0 1000)=true then .str "number" else .non) H:=k
   have w1:K1.Zw (.int i) 0 (n-1)=true:=by simpa using e2
   rw[w1]at k';refine⟨_,rfl,p,_,4,x4,rfl,rfl,SqT.of hp,at0 4 rfl,_,rfl,_,_,rfl,rfl,_,rfl,t,C,dx,fs,_,rfl,ht,Z.cl,Z.na _ (by simp[fields]),hn,x4,T4,i+1,n,rfl,h04,_,rfl,?_⟩;refine ite2 (λe3=>?_) (λe3=>?_)
   ·rw[if_pos (by rw[e3];rfl)]at k';exact k'
   ·have w2:K1.Zw x4 (i+1) n=true:=by simpa using e3
    rw[w2,if_neg (by decide)]at k';refine⟨_,rfl,p,_,5,x5,rfl,rfl,SqT.of hp,at0 5 rfl,x5,T5,0,1000,rfl,h05,_,rfl,?_⟩;refine ite2 (λe4=>?_) (λe4=>?_)
    ·rw[if_pos e4]at k';exact k'
    ·rw[if_neg e4]at k';exact k'
noncomputable def Y6(kvs:List (Key×V))(n pa:Int)(p t m:V):V:=if(!ZV p kvs)=true then .str "place" else if(!K1.Zw t 0 n)=true then .str "turn" else match m with
 |.int i=>if(!K1.Zw (.int i) 0 300)=true then .str "number" else if pa+i>300 then .str "people" else .non
 |_=>.str "number"
def Km(C:Addr):Sp:=λvs H Q _=>∃t p x0 x1 x2 x3 x4 fs d kvs,vs=[.ref t,.ref p]/\Tab H C t fs/\fs.lookup ("room_by_place":Str)=some (.ref d)/\H d=some (.dK kvs) /\H p=some (.tup [x0,x1,x2,x3,x4])/\(∀x∈[x0,x1,x2,x3,x4],∃T,Th H x T)/\Q (wayV kvs x1 x2 x3 x4) H
theorem As:FnScope ["table","row","why"] ["table","row"] (Zc T.f_wrong_way):=scO
theorem ED(G:Txt K mg)(Z:TCl K C)(D:Df K mg "wrong_way" T.f_wrong_way ["table","row"])(CI:Can P w K mg base 2 "is_within" ["thing","low","high"] K1.Xb)(CE:Can P w K mg base 4 "wrong_ends" ["table","start","goal"] (Ri C)):Can P w K mg base 5 "wrong_way" ["table","row"] (Km C):=by
 obtain⟨t1,h1⟩:=G.room;obtain⟨t2,h2⟩:=G.way;have nd:(["table","row","why"]:List Str).Nodup:=by decide +kernel
 refine D.cn As λf cdv A outer s H vs Q E hr h=>?_;obtain⟨t,p,x0,x1,x2,x3,x4,fs,d,kvs,rfl,tb,hl,hd,hp,hx,k⟩:=h;obtain⟨dx,ht⟩:=id tb.at_;obtain⟨T1,h01⟩:=hx x1 (by simp);obtain⟨T2,h02⟩:=hx x2 (by simp);obtain⟨T3,h03⟩:=hx x3 (by simp);obtain⟨T4,h04⟩:=hx x4 (by simp);have hr2:Room 2 (A.deeper (dU "wrong_way" (Zc T.f_wrong_way) s.heap.objs.size f cdv)):=hr.mono (by decide);refine⟨_,Za (Yn (i:=2) nd rfl (aO rfl) (YB CE hr rfl (Zh (pv 0) (Zh (Yg Z9 (pv 1) Zb (λ_ _=>rfl)) (Zh (Yg Z9 (pv 1) Zb (λ_ _=>rfl)) Zk))))) (Za (ZG (Zt VD (pv 2) ZF (ZC _)) (Zd (Zl (pv 2))) Zp) (Za (ZG (PW.pt (JT (ZY (ZT (YB CI hr2 rfl (Zh (Yg Z9 (pv 1) Zb (λ_ _=>rfl)) (Zh Zb (Zh (Z4 (v:=V.int 50) rfl h2 ⟨t2,rfl⟩) Zk)))))) (Xh (ZY (ZT (YB CI hr2 rfl (Zh (Yg Z9 (pv 1) Zb (λ_ _=>rfl)) (Zh Zb (Zh (Z4 (v:=V.int 1000) rfl h1 ⟨t1,rfl⟩) Zk))))))))) (Zd (Zl ZE)) Zp) (Zd (Zl ZF)))),?_⟩;refine⟨_,rfl,_,rfl,p,_,1,x1,rfl,rfl,SqT.of hp,at0 1 rfl,_,rfl,p,_,2,x2,rfl,rfl,SqT.of hp,at0 2 rfl,t,x1,x2,T1,T2,fs,d,kvs,rfl,tb,hl,hd,h01,h02,?_⟩;unfold wayV at k;refine⟨_,rfl,rfl,_,rfl,?_⟩;refine ite2 (λe=>?_) (λe=>?_)
 ·have e':YT kvs x1 x2≠.non:=by simpa using e
  rw[if_pos e']at k;exact⟨_,rfl,k⟩
 ·have e':¬YT kvs x1 x2≠.non:=by simpa using e
  rw[if_neg e']at k;refine⟨_,rfl,p,_,3,x3,rfl,rfl,SqT.of hp,at0 3 rfl,x3,T3,1,50,rfl,h03,_,rfl,?_⟩;refine ite2 (λe2=>?_) (λe2=>?_)
  ·rw[if_pos (by rw[e2];rfl)]at k;exact iteT k
  ·have w1:K1.Zw x3 1 50=true:=by simpa using e2
   rw[w1]at k;refine⟨_,rfl,p,_,4,x4,rfl,rfl,SqT.of hp,at0 4 rfl,x4,T4,0,1000,rfl,h04,_,rfl,?_⟩;refine ite2 (λe3=>?_) (λe3=>?_)
   ·rw[if_pos (by rw[e3];rfl)]at k;exact k
   ·have w2:K1.Zw x4 0 1000=true:=by simpa using e3
    rw[w2,if_neg (by decide)]at k;exact k
def Pg(C:Addr):Sp:=λvs H Q _=>∃t p x0 x1 x2 x3 fs d kvs n pa,vs=[.ref t,.ref p,.int pa]/\Tab H C t fs/\fs.lookup ("room_by_place":Str)=some (.ref d)/\fs.lookup ("turns":Str)=some (.int n)/\H d=some (.dK kvs) /\H p=some (.tup [x0,x1,x2,x3])/\(∀x∈[x0,x1,x2,x3],∃T,Th H x T)/\Q (Y6 kvs n pa x1 x2 x3) H
theorem DV:FnScope ["table","row","people_ahead"] ["table","row","people_ahead"] (Zc T.f_wrong_group):=scO
theorem RT(G:Txt K mg)(Z:TCl K C)(D:Df K mg "wrong_group" T.f_wrong_group ["table","row","people_ahead"])(CI:Can P w K mg base 2 "is_within" ["thing","low","high"] K1.Xb)(CP:CanM P w K mg base CX0 2 C "is_place" ["self","thing"] (G5 C "room_by_place")):Can P w K mg base 3 "wrong_group" ["table","row","people_ahead"] (Pg C):=by
 obtain⟨t1,h1⟩:=G.people;refine D.cn DV λf cdv A outer s H vs Q E hr h=>?_;obtain⟨t,p,x0,x1,x2,x3,fs,d,kvs,n,pa,rfl,tb,hl,hn,hd,hp,hx,k⟩:=h;obtain⟨dx,ht⟩:=id tb.at_;obtain⟨T1,h01⟩:=hx x1 (by simp);obtain⟨T2,h02⟩:=hx x2 (by simp);obtain⟨T3,h03⟩:=hx x3 (by simp);refine⟨_,Za (ZG (ZY (ZT (Yx CP Z.cl Yl hr (pv 0) (Zh (Yg Z9 (pv 1) Zb (λ_ _=>rfl)) Zk)))) (Zd (Zl ZE)) Zp) (Za (ZG (ZY (ZT (YB CI hr rfl (Zh (Yg Z9 (pv 1) Zb (λ_ _=>rfl)) (Zh Zb (Zh (ZZ (pv 0) rfl) Zk)))))) (Zd (Zl ZE)) Zp) (Za (ZG (ZY (ZT (YB CI hr rfl (Zh (Yg Z9 (pv 1) Zb (λ_ _=>rfl)) (Zh Zb (Zh (Z4 (v:=V.int 300) rfl h1 ⟨t1,rfl⟩) Zk)))))) (Zd (Zl ZE)) Zp) (Za (ZG (Zt NH (Zo ZI (pv 2) (Yg Z9 (pv 1) Zb (λ_ _=>rfl))) (Z4 (v:=V.int 300) rfl h1 ⟨t1,rfl⟩) (ZC _)) (Zd (Zl ZE)) Zp) (Zd (Zl ZF))))),?_⟩;unfold Y6 at k;refine mthV ht (tb.only _ (by decide +kernel)) ⟨_,rfl,p,_,1,x1,rfl,rfl,SqT.of hp,at0 1 rfl,t,x1,T1,fs,d,kvs,rfl,tb,hl,hd,h01,_,rfl,?_⟩;refine ite2 (λe=>?_) (λe=>?_)
 ·rw[if_pos e]at k;exact k
 rw[if_neg e]at k;refine⟨_,rfl,p,_,2,x2,rfl,rfl,SqT.of hp,at0 2 rfl,_,rfl,t,C,dx,fs,_,rfl,ht,Z.cl,Z.na _ (by simp[fields]),hn,x2,T2,0,n,rfl,h02,_,rfl,?_⟩;refine ite2 (λe2=>?_) (λe2=>?_)
 ·rw[if_pos e2]at k;exact k
 rw[if_neg e2]at k;refine⟨_,rfl,p,_,3,x3,rfl,rfl,SqT.of hp,at0 3 rfl,x3,T3,0,300,rfl,h03,_,rfl,?_⟩;refine ite2 (λe3=>?_) (λe3=>?_)
 ·cases x3 with
 |int i=>have k':Q (if(!K1.Zw (.int i) 0 300)=true then V.str "number" else if pa+i>300 then .str "people" else .non) H:=k;rw[if_pos e3]at k';exact k'
 |_=>exact k
 ·obtain⟨i,rfl⟩:∃i,x3=.int i:=by
   cases x3 with
  |int i=>exact⟨i,rfl⟩
  |_=>exact absurd rfl e3
  have k':Q (if(!K1.Zw (.int i) 0 300)=true then V.str "number" else if pa+i>300 then .str "people" else .non) H:=k;rw[if_neg e3]at k';refine⟨_,rfl,_,rfl,p,_,3,_,rfl,rfl,SqT.of hp,at0 3 rfl,_,_,rfl,rfl,_,_,rfl,rfl,_,rfl,?_⟩;refine ite2 (λe4=>?_) (λe4=>?_)
  ·rw[if_pos (by simpa using e4)]at k';exact k'
  ·rw[if_neg (by simpa using e4)]at k';exact k'
end
end TB
namespace L2
open PySem PySem.Spec PyProof.Rows
theorem sameNew{l:Addr}{H H1:Hp}{o:HO}(x:Same H H1)(hl:H1 l=none):Same H (upd H1 l o):=λc u h=>by rw[Zg (Zi (x c u h) hl)];exact x c u h
theorem nl{c:Addr}{H:Hp}{o:HO}{G:Hp->Prop}(h:H c=none)(k:∀H',Same H H'->H' c=some o->G H'):G (upd H c o):=k _ (sameNew (λ_ _ e=>e) h) Zf
theorem nl2{c:Addr}{H:Hp}{o:HO}{R:Type}{q:R}{G:Hp->R->Prop}(h:H c=none)(k:∀H',Same H H'->H' c=some o->G H' q):G (upd H c o) q:=nl (G:=λH=>G H q) h k
theorem Sk:∀{cs:List String}{us:List Value},Vals (cs.map V.ty) us->us=cs.map Value.type
|[],_,h=>by cases h;rfl
|c::cs,_,h=>by
  cases h with
 |cons r t=>have e:=Sk t;cases(show _=Value.type c from r);rw[e];rfl
section
variable {X:Cx}
theorem WX:YI X (.builtin "isinstance") (λxs H Q=>∃(x:V)(p:Addr)(cs:List String)(T:String)(b:Bool),xs=[x,.ref p]/\Th H x T/\H p=some (.tup (cs.map V.ty))/\iH X.K (.type T) (cs.map Value.type)=some b/\Q (.bl b) H):=by
 intro pins s σ H xs us Q I r h;obtain⟨x,p,cs,T,b,rfl,th,hp,e,q⟩:=h;obtain⟨u,w',rfl,ru,rw'⟩:=vals2 r;cases(show w'=Value.ref p from rw');obtain⟨_,its,rv,⟨oc,od,odt,osl⟩,h1,hc,n,hdt⟩:=(show ZR X.prog X.w H s.heap p (.tup (cs.map V.ty))from I.hok p _ hp);have ei:=Sk rv;subst ei;obtain rfl:oc=.type "tuple":=hc;obtain rfl:odt=.seq (cs.map Value.type).toArray n:=hdt;have fin:∀tk,EP X pins σ Q (.bool b) {s with toks:=tk}:=λtk=>⟨.bl b,H,I.tok tk,rfl,q⟩;cases th with
|non=>cases(show u=Value.none from ru);exact c7 PySem.W.kitx_none I.kIn bG h1 e (λz=>nomatch z) fin
|bl y=>cases(show u=Value.bool y from ru);exact c7 PySem.W.kitx_bool I.kIn bG h1 e (λz=>nomatch z) fin
|int i=>obtain⟨t,z⟩:=(show ∃t,u=Value.int i t from ru);cases z;exact c7 PySem.W.kitx_int I.kIn bG h1 e (λz=>nomatch z) fin
|str y _=>obtain⟨t,z⟩:=(show ∃t,u=Value.str y t from ru);cases z;exact c7 PySem.W.kitx_str I.kIn bG h1 e (λz=>nomatch z) fin
|@lst a xs ea=>cases(show u=Value.ref a from ru);obtain⟨_,_,n',_,h2⟩:=(show ZR X.prog X.w H s.heap a (.lst xs)from I.hok a _ ea);exact c7 gT I.kIn ⟨_,h2,rfl⟩ h1 e (λz=>nomatch z) fin
|@tup a xs ea=>cases(show u=Value.ref a from ru);obtain⟨_,_,_,o,h2,h3,_⟩:=(show ZR X.prog X.w H s.heap a (.tup xs)from I.hok a _ ea);exact c7 PySem.W.kitx_tuple I.kIn ⟨o,h2,h3⟩ h1 e (λz=>nomatch z) fin
|@dK a kvs ea=>cases(show u=Value.ref a from ru);obtain⟨_,_,vs,_,o,es,ep,h2,h3,_⟩:=(show ZR X.prog X.w H s.heap a (.dK kvs)from I.hok a _ ea);exact c7 gU I.kIn ⟨o,h2,h3.1⟩ h1 e (λz=>nomatch z) fin
end
theorem Th.kitLT{K:aa}{H:Hp}{v:V}{T:String}(h:Th H v T):iH K (.type T) (["list","tuple"].map Value.type)=some (decide (T="list"\/T="tuple")):=by cases h<;>(first|kernel_rfl|(unfold iH;rfl))
end L2
namespace TB
open PySem L2 PySem.Spec PyProof.Rows
structure Mosts(K:aa)(w:World)(mg:Str->Option Value):Prop where
 at_:∃a,mg "MOST_ROWS"=some (.ref a)/\XF K w a "places" (.int 14)/\XF K w a "rides" (.int 80)/\XF K w a "ways" (.int 40)/\XF K w a "groups" (.int 300)
noncomputable def SV:List (Str×Nat):=[("places",14),("rides",80),("ways",40),("groups",300)]
def Part(H:Hp)(v:V)(r:Option (List V)):Prop:=match r with
|none=>∃T,Th H v T/\T≠"list"/\T≠"tuple"
|some xs=>∃p,v=.ref p/\(H p=some (.lst xs)\/H p=some (.tup xs))
end TB
namespace L2
open PySem PySem.Spec PyProof.Rows
open AutoSeq1 (wpAny_loadPart')
section
variable {prog:Program}{w:World}{A:a9}{E:Value->ag->Prop}{s:ag}
theorem Ek{it t:Addr}{i:Nat}{items:Array Value}{x:Value}{Q:Value->ag->Prop}(hit:s.heap.IsTupleIter it t i)(ht:s.heap.IsTuple t items)(hx:items[i]?=some x)(hQ:∀h',h'.IsTupleIter it t (i+1)->Heap.SameBut it s.heap h'->Q x {s with heap:=h'}):wpAny (model prog w) A (c5 (.ref it)) Q E s:=by obtain⟨o,ho,hc,hd⟩:=id hit;obtain⟨ol,hol,_,nl,hdl⟩:=id ht;unfold c5;refine ae (cg (name:=Str.ofString "__next__") hit.typeIs F.slot_tuple_iterator_next (c9 F.slot_tuple_iterator_next hit.typeIs F.entry_tuple_iterator_next ?_ (F.args_tuple_iterator_next_1 _)));show wpAny (model prog w) _ (field (.ref it) 0 >>= _) _ _ s;refine ae (cQ (x:=.ref t) ho hd rfl ?_);show wpAny (model prog w) _ (if(Value.ref t==Value.none)=true then _ else _) _ _ s;rw[if_neg (by exact Bool.false_ne_true)];show wpAny (model prog w) _ (field (.ref it) 1 >>= _) _ _ s;refine ae (cQ (x:=.int i 0) ho hd rfl ?_);show wpAny (model prog w) _ (seqItems? (.ref t) >>= _) _ _ s;refine ae (wpAny_seqItems hol hdl ?_);simp only[hx,Int.toNat_natCast];refine ae (c8 ho hd (by simp) (ai ⟨x,rfl,ai (hQ _ ⟨_,Heap.get?_update_self _ ho (Obj.isFreed_of_fields (Obj.data_mapFields hd _)),(Obj.cls_mapFields ..).trans hc,by rw[Obj.data_mapFields hd];simp[dh]⟩ (Heap.SameBut.update ..))⟩))
theorem Lx{it t:Addr}{i:Nat}{items:Array Value}{Q:Value->ag->Prop}(hh:A.handled=none)(hit:s.heap.IsTupleIter it t i)(ht:s.heap.IsTuple t items)(hx:items[i]?=none)(hE:∀h' e,Heap.ExtBut it s.heap h'->(∃o,h'.get? e=some o/\o.cls=.type "StopIteration")->E (.ref e) {s with heap:=h'}):wpAny (model prog w) A (c5 (.ref it)) Q E s:=by
 obtain⟨o,ho,hc,hd⟩:=id hit;obtain⟨ol,hol,_,nl,hdl⟩:=id ht;unfold c5;refine ae (cg (name:=Str.ofString "__next__") hit.typeIs F.slot_tuple_iterator_next (c9 F.slot_tuple_iterator_next hit.typeIs F.entry_tuple_iterator_next ?_ (F.args_tuple_iterator_next_1 _)));show wpAny (model prog w) _ (field (.ref it) 0 >>= _) _ _ s;refine ae (cQ (x:=.ref t) ho hd rfl ?_);show wpAny (model prog w) _ (if(Value.ref t==Value.none)=true then _ else _) _ _ s;rw[if_neg (by exact Bool.false_ne_true)];show wpAny (model prog w) _ (field (.ref it) 1 >>= _) _ _ s;refine ae (cQ (x:=.int i 0) ho hd rfl ?_);show wpAny (model prog w) _ (seqItems? (.ref t) >>= _) _ _ s;refine ae (wpAny_seqItems hol hdl ?_);simp only[hx,Int.toNat_natCast];refine ae (d_ (ae (c8 ho hd (by simp) ?_)));show wpAny (model prog w) _ (newExc (.type "StopIteration") [] >>= _) _ _ _;refine ae ?_;simp only[newTuple,newExc];refine ae (cS (ae (m:=hX _ _) (g_ (a:=Value.none) (by first|rfl|(simp only[hX];rfl)) (cS ?_ (by size_fits)))) (by size_fits))
 simp only[raiseNew];refine ae (wpAny_handled ?_);first|rw[show A.in1.handled=none from hh]|rw[hh]
 refine ae (ai (wpAny_throw ?_));exact hE _ _ (((Heap.SameBut.update ..).extBut.push _).push _) ⟨_,Heap.get?_push_size _ rfl,rfl⟩
end
theorem NS{prog:Program}{w:World}{A:a9}(hh:A.handled=none)(it t:Addr)(hne:t≠it)(items:Array Value):
  Draws prog w A it [it,t] items.size (λi v=>items[i]?=some v) (λi h=>h.IsTupleIter it t i/\h.IsTuple t items) where
 live:=λ_ _ st=>by obtain⟨⟨o,ho,_⟩,_⟩:=st;exact⟨o,ho⟩
 frame:=λ_ _ _ st hk=>by
  obtain⟨⟨o,ho,r⟩,⟨o2,ho2,r2⟩⟩:=st
  exact⟨⟨o,hk it (by simp) o ho,r⟩,⟨o2,hk t (by simp) o2 ho2,r2⟩⟩
 item:=λi s Q E hi st hQ=>Ek st.1 st.2 (x:=items[i]) (by simp[hi]) λh' hit' hs'=>hQ _ h' s.toks (by simp[hi]) ⟨hit',st.2.extBut hs'.extBut hne⟩ hs'
 done:=λs Q E st hE=>Lx hh st.1 st.2 (by simp) hE
theorem Ww(l:Addr)(items:Array Value)(n:Nat)(dct:Option Addr)(sl:Array (Option Value)):Meets (dD.«enumerate.__new__» ⟨[.type "enumerate",.ref l],[]⟩) (λ_ R s=>s.heap.get? l=some {cls:=.type "tuple",dict:=dct,data:=.seq items n,slots:=sl} /\R (.ok (.ret (.ref (s.heap.push {cls:=.type "tuple_iterator",data:=.fields #[.ref l,.int 0 0]}).objs.size))) {s with heap:=(s.heap.push {cls:=.type "tuple_iterator",data:=.fields #[.ref l,.int 0 0]}).push {cls:=.type "enumerate",data:=.fields #[.none,.bool false,.ref s.heap.objs.size,dh 0,.none,.none]}}):=.of_wp λprog w A R s h=>by
  obtain⟨hp,g,d,tk,os⟩:=s;obtain⟨hl,h⟩:=h;have hsub:=sub_enumerate;have hT:Heap.IsTuple (Shared.heap ⟨hp,g,d,tk,os⟩) l items:=⟨_,hl,rfl,n,rfl⟩;wp_walk using gD hl;refine wpAny_stack_any λst=>ai ?_;split
  ·rename_i c _ _ _ _ _;cases(c==Value.type "enumerate")<;>(wp_walk using gD hl,iE hT;exact⟨_,rfl,h⟩)
  ·wp_walk using gD hl,iE hT;exact⟨_,rfl,h⟩
theorem Sd{prog:Program}{w:World}{A:a9}{E:Value->ag->Prop}{s:ag}{l:Addr}{items:Array Value}{Q:Value->ag->Prop}(hL:s.heap.IsTuple l items)(h:∀h',IsEnum h' (s.heap.objs.size+1) s.heap.objs.size 0 .none->h'.IsTupleIter s.heap.objs.size l 0->(∀b o,s.heap.get? b=some o->h'.get? b=some o)->Q (.ref (s.heap.objs.size+1)) {s with heap:=h'}):wpAny (model prog w) A (call (.type "enumerate") [.ref l]) Q E s:=by
 obtain⟨⟨c,dct,dt,sl⟩,hl,hc,n,hd⟩:=hL;simp only at hc hd;subst hc hd;refine callType_new F.called_enumerate (by decide) (F.typeCall_enumerate_1 _) (F.newCall_enumerate_1 _) (λobj=>F.args_object_init_2 obj _) F.entry_enumerate_new (Ww l items n dct sl) ⟨hl,?_⟩;have hz:(s.heap.push {cls:=.type "tuple_iterator",data:=.fields #[.ref l,.int 0 0]}).objs.size=s.heap.objs.size+1:=Heap.size_push ..;show _/\_;rw[hz];have he:IsEnum ((s.heap.push {cls:=.type "tuple_iterator",data:=.fields #[.ref l,.int 0 0]}).push {cls:=.type "enumerate",data:=.fields #[.none,.bool false,.ref s.heap.objs.size,dh 0,.none,.none]}) (s.heap.objs.size+1) s.heap.objs.size 0 .none:=by have:=Heap.get?_push_size (s.heap.push {cls:=.type "tuple_iterator",data:=.fields #[.ref l,.int 0 0]}) (o:={cls:=.type "enumerate",data:=.fields #[.none,.bool false,.ref s.heap.objs.size,dh 0,.none,.none]}) rfl;rwa [hz]at this
 exact⟨⟨_,he,rfl⟩,h _ he ⟨_,Heap.get?_push_of_some _ (Heap.get?_push_size _ rfl),rfl,rfl⟩ λb o x=>Heap.get?_push_of_some _ (Heap.get?_push_of_some _ x)⟩
noncomputable def Iten(l:Addr):It:=⟨λi H=>∃xs,H l=some (.tup xs)/\i<xs.length,λi H x H'=>∃(T:Addr)(xs:List V)(y:V),H T=none/\H l=some (.tup xs)/\xs[i]?=some y/\x=.ref T/\H'=upd H T (.tup [.int i,y]),λi H=>∃xs,H l=some (.tup xs)/\i=xs.length⟩
theorem Q8{P:Program}{w:World}{K:aa}{es:List Expr}{k:Nat}{pt:Pos}(l e it:Addr)(hei:e≠it)(hle:l≠e)(hli:l≠it):
  Turn P w K (.Tuple es k pt) (Iten l) [e,it] e (λi h=>(∃old,IsEnum h e it i old)/\h.IsTupleIter it l i) where
 mem:=by simp
 obj:=λi h st b hb=>by
  obtain⟨⟨old,he⟩,o,ho,c,d⟩:=st
  have hb':b=e\/b=it:=by simpa using hb
  rcases hb' with rfl|rfl
  ·exact⟨_,he,λv z=>by cases z⟩
  ·exact⟨o,ho,λv z=>by rw[d]at z;cases z⟩
 keep:=λi h h' st kk=>by
  obtain⟨⟨old,he⟩,o,ho,r⟩:=st
  exact⟨⟨old,kk e (by simp) _ he⟩,o,kk it (by simp) o ho,r⟩
 item:=by
  intro X hP hw hK hc i pins s σ H E I hf st hg
  subst hP hw hK
  obtain⟨xs,hx,hi⟩:=hg
  obtain⟨⟨old,he⟩,hs⟩:=st
  obtain⟨its,rv,pl,_⟩:=I.tuple (SqT.of hx)
  have hlen:=rv.length
  have D:=NS (prog:=X.prog) (w:=X.w) (A:=X.A.in1) (I.ok.hd hc) it l hli its.toArray
  have W:=fw D e hei (by simp[hei,bo hle]) (by simp)
  refine W.item i s _ _ (by simp only[aq];omega) ⟨⟨old,he⟩,hs,pl⟩ λT vals h' tk hv hT ht hm kk=>?_
  obtain⟨tk',u,hu,rfl⟩:=hv
  obtain⟨y,hy⟩:∃y,xs[i]?=some y:=⟨xs[i],gE hi⟩
  obtain⟨u2,hu2,ru⟩:=rv.get hy
  have hu':its[i]?=some u:=by simpa using hu
  rw[hu']at hu2;cases hu2
  refine⟨_,rfl,?_⟩
  refine W.go es k pt i T {s with heap:=h',toks:=tk} _ _ hm λh2 st2 kk2=>?_
  have hTn:H T=none:=I.hok.fresh hT
  have hap:=W.apart i T h' hm
  have hb2:∀b,b∉[e,it]->∀o,s.heap.get? b=some o->h2.get? b=some o:=λb hb o q=>kk2 b o hb (kk b o hb q)
  have nb:∀b u,H b=some u->b∉[e,it]:=λb u q hb=>by rw[(hf b hb).1]at q;cases q
  have I1:Inv X pins σ (upd H T (.tup [.int i,y])) {s with heap:=h2,toks:=tk}:=by
   refine I.step (g':=s.gens) (d':=s.drawn) (ch:=[e,it]) (λb hb=>?_) (λb o _ _ hb q _=>hb2 b hb o q) (λb o _ _ hb q _=>⟨o.slots,hb2 b hb o q⟩)
    (λb o hb q n=>?_) (λb o hb q=>⟨o,hb2 b hb o q⟩) (λb xs q=>?_) (λb o u q=>?_) (λb ps q=>?_) (λm hm=>?_) ?_ I.bare
   ·obtain⟨g0,g1,g2,g3,g4,g5⟩:=hf b hb
    exact⟨g3,g1,g4,g5⟩
   ·rw[Zg (Nat.ne_of_lt (Nat.lt_of_lt_of_le (Heap.lt_size q) hT))];exact n
   ·rw[Zg (Zi q hTn)];exact q
   ·rw[Zg (Zi q hTn)];exact q
   ·exact⟨#[],by rw[Zg (Zi q hTn),q];simp⟩
   ·obtain⟨o,es',ep,ho,r⟩:=hm
    refine⟨o,es',ep,hb2 _ ?_ o ho,r⟩
    intro hb
    obtain⟨g0,g1,_⟩:=hf _ hb
    exact g1 rfl
   ·intro b ob q
    by_cases hb:b=T
    ·subst hb
     rw[Zf]at q
     cases q
     obtain⟨o,h1,h2',h3⟩:=ht
     exact⟨zl,[.int i tk',u],.cons ⟨_,rfl⟩ (.cons ru .nil),⟨o,kk2 _ _ hap h1,h2',h3⟩⟩
    ·rw[Zg hb]at q
     refine(I.hok b ob q).stay (λc' v hc' q'=>hb2 c' ?_ v q') (λc' q'=>by rw[Zg (Zi q' hTn)];exact q') λc' xs q'=>by rw[Zg (Zi q' hTn)];exact q'
     rcases hc' with rfl|hc'
     ·exact nb _ _ q
     ·exact nb _ _ hc'
  refine⟨.ref T,_,I1,rfl,⟨T,xs,y,hTn,hx,hy,rfl,rfl⟩,⟨st2.1,st2.2.1⟩,λb hb=>?_⟩
  rw[Zg]
  ·exact(hf b hb).1
  ·rintro rfl
   exact hap hb
 done:=by
  intro X hP hw hK hc i pins s σ H E I hf st hg
  subst hP hw hK
  obtain⟨xs,hx,hi⟩:=hg
  obtain⟨⟨old,he⟩,hs⟩:=st
  obtain⟨its,rv,pl,_⟩:=I.tuple (SqT.of hx)
  have hlen:=rv.length
  have D:=NS (prog:=X.prog) (w:=X.w) (A:=X.A.in1) (I.ok.hd hc) it l hli its.toArray
  have W:=fw D e hei (by simp[hei,bo hle]) (by simp)
  have ei:i=its.toArray.size:=by simp only[aq];omega
  subst ei
  refine W.done s _ _ ⟨⟨old,he⟩,hs,pl⟩ λh' tk kk=>⟨rfl,?_⟩
  have nb:∀b u,H b=some u->b∉[e,it]:=λb u q hb=>by rw[(hf b hb).1]at q;cases q
  refine I.step (g':=s.gens) (d':=s.drawn) (ch:=[e,it]) (λb hb=>?_) (λb o _ _ hb q _=>kk b o hb q) (λb o _ _ hb q _=>⟨o.slots,kk b o hb q⟩)
   (λb o hb q n=>n) (λb o hb q=>⟨o,kk b o hb q⟩) (λb xs q=>q) (λb o u q=>q) (λb ps q=>⟨#[],by rw[q];simp⟩) (λm hm=>?_) (λb u q=>?_) I.bare
  ·obtain⟨g0,g1,g2,g3,g4,g5⟩:=hf b hb
   exact⟨g3,g1,g4,g5⟩
  ·obtain⟨o,es',ep,ho,r⟩:=hm
   refine⟨o,es',ep,kk _ o ?_ ho,r⟩
   intro hb
   obtain⟨g0,g1,_⟩:=hf _ hb
   exact g1 rfl
  ·refine(I.hok b u q).stay (λc' v hc' q'=>kk c' v ?_ q') (λ_ q'=>q') λ_ _ q'=>q'
   rcases hc' with rfl|hc'
   ·exact nb _ _ q
   ·exact nb _ _ hc'
 self:=λA i s Q E st h=>by
  obtain⟨⟨old,he⟩,_⟩:=st
  exact fT he h
section
variable {X:Cx}
noncomputable def iEnT(ta:TA):TI:=λσ H R=>ta σ H λvs H1=>∃(l:Addr)(xs:List V),vs=[.ref l]/\H1 l=some (.tup xs)/\R (Iten l) H1
theorem Uv{a:Expr}{ta:TA}{p pos pt:Pos}{es:List Expr}{k:Nat}(hg:Gl X "enumerate")(hm:X.mg "enumerate"=none)(ha:PA X [a] ta)(hb:bF "enumerate"=some (.type "enumerate"))(hs:aI [a] X.env=[(false,eval a X.env)]:=by rfl):PI X (.Tuple es k pt) (.Call (.Name "enumerate" p) [a] [] pos) (iEnT ta):=by
 intro pins s σ H R I h;refine Call_ (Ua I hg hm hb (b7 (thn (ha pos pins s σ H _ I h) λus s1 hZ=>?_) hs rfl));obtain⟨vs,H1,I1,r1,q1⟩:=hZ;obtain⟨l,xs,e,hx,q⟩:=q1;subst e;cases r1 with
|cons r rr=>
  cases rr;cases r;obtain⟨its,rv,pl,_⟩:=I1.tuple (SqT.of hx);refine Sd pl λh' he hst kk=>?_;have I2:Inv X pins σ H1 {s1 with heap:=h'}:=I1.kept (t':=s1.toks) kk;refine fT he ?_;have lt:l<s1.heap.objs.size:=I1.hok.lt hx;refine⟨s1.heap.objs.size+1,[s1.heap.objs.size+1,s1.heap.objs.size],_,_,H1,rfl,I2,Q8 l (s1.heap.objs.size+1) s1.heap.objs.size (Nat.succ_ne_self _) (Nat.ne_of_lt (Nat.lt_succ_of_lt lt)) (Nat.ne_of_lt lt),⟨⟨_,he⟩,hst⟩,λb hb=>?_,q⟩;have e:b=s1.heap.objs.size+1\/b=s1.heap.objs.size:=by simpa using hb
  rcases e with e|e<;>subst e
  ·exact I1.fpOk (Nat.le_succ _) (I1.hok.fresh (Nat.le_succ _))
  ·exact I1.fpOk (Nat.le_refl _) (I1.hok.fresh (Nat.le_refl _))
end
theorem Mt:bF "enumerate"=some (.type "enumerate"):=by decide +kernel
def tOrX(K:aa)(ta tb:TE):TE:=λσ H Q=>ta σ H λx H1=>∃k,TruV K x H1 k/\if k=true then Q x H1 else tb σ H1 Q
theorem Pw{X:Cx}{a b:Expr}{rest:List Expr}{pos:Pos}{ta tb:TE}(ha:PE X a ta)(hb:PE X (.BoolOp .Or (b::rest) pos) tb):PE X (.BoolOp .Or (a::b::rest) pos) (tOrX X.K ta tb):=by
 intro pins s σ H Q I h;refine BoolOp_or (thn (ha pins s σ H _ I h) λv s1 hZ=>?_);obtain⟨x,H1,I1,r1,k,q1,q2⟩:=hZ;refine thn (Fs pins s1 σ H1 x v (λk' H'=>H'=H1/\k'=k) I1 r1 ⟨k,q1,rfl,rfl⟩) λc s2 hZ=>?_;obtain⟨H2,I2,e1,e2⟩:=hZ;subst e1 e2;cases c with
|false=>exact hb pins s2 σ H2 Q I2 q2
|true=>exact⟨x,H2,I2,r1,q2⟩
def Zj(b:Addr)(H H':Hp):Prop:=∀c o,H c=some o->c≠b->H' c=some o
theorem Zj.refl(b:Addr)(H:Hp):Zj b H H:=λ_ _ h _=>h
theorem Zj.trans{b:Addr}{H H1 H2:Hp}(x:Zj b H H1)(y:Zj b H1 H2):Zj b H H2:=λc o h hc=>y c o (x c o h hc) hc
theorem Zj.upd{b:Addr}{H H1:Hp}{o:HO}(x:Zj b H H1):Zj b H (upd H1 b o):=λc u h hc=>by rw[Zg hc];exact x c u h hc
theorem Zj.of{b:Addr}{H H1:Hp}(x:Same H H1):Zj b H H1:=λc u h _=>x c u h
theorem Th.sameB{H H':Hp}{t C dx:Addr}{fs:List (Str×V)}(ht:H t=some (.ins C dx fs))(s:Zj t H H'){v:V}{T:String}(h:Th H v T):Th H' v T:=by
 cases h with
|non=>exact .non
|bl b=>exact .bl b
|int i=>exact .int i
|str z h=>exact .str z h
|lst e=>exact .lst (s _ _ e (ne_of e ht (by intro z;cases z)))
|tup e=>exact .tup (s _ _ e (ne_of e ht (by intro z;cases z)))
|dK e=>exact .dK (s _ _ e (ne_of e ht (by intro z;cases z)))
theorem YC{J:It}{g:TG}{tb:TS}{D:Ends}{σ:L2.St}{H:Hp}(n:Nat)(Pv:Nat->L2.St->Hp->Prop)(h0:Pv 0 σ H)(hgo:∀i σ H,i<n->Pv i σ H->J.go i H)(hstop:∀σ H,Pv n σ H->J.stop n H)(hs:∀i σ H x H',i<n->Pv i σ H->J.yld i H x H'->g x σ H' λσ2 H2=>tb {D with nx:=Pv (i+1),ct:=Pv (i+1),bk:=D.nx} σ2 H2)(hd:∀σ H,Pv n σ H->D.nx σ H):∃W:Nat->Nat->L2.St->Hp->Prop,(∃m,W 0 m σ H)/\∀i m σ H,W i m σ H ->(J.stop i H/\D.nx σ H)\/(J.go i H/\∃N:L2.St->Hp->Prop,(∀σ' H',N σ' H'->∃m',m'<m/\W (i+1) m' σ' H')/\∀x H',J.yld i H x H'->g x σ H' λσ2 H2=>tb {D with nx:=N,ct:=N,bk:=D.nx} σ2 H2):=by
 refine⟨λi m σ H=>m=n-i/\i<=n/\Pv i σ H,⟨n,rfl,Nat.zero_le _,h0⟩,?_⟩;rintro i m σ H ⟨rfl,hi,p⟩;by_cases hlt:i<n
 ·exact .inr ⟨hgo i σ H hlt p,Pv (i+1),λσ' H' p'=>⟨n-(i+1),by omega,rfl,hlt,p'⟩,λx H' y=>hs i σ H x H' hlt p y⟩
 ·have e:i=n:=by omega
  subst e;exact .inl ⟨hstop σ H p,hd σ H p⟩
end L2
namespace TB
open PySem L2 PySem.Spec PyProof.Rows
theorem Row.sameB{H H':Hp}{t C dx:Addr}{fs:List (Str×V)}(ht:H t=some (.ins C dx fs))(s:Zj t H H'){v:V}{r:Option (List V)}(h:Row H v r):Row H' v r:=by
 cases r with
|none=>obtain⟨T,th,hT⟩:=h;exact⟨T,th.sameB ht s,hT⟩
|some xs=>obtain⟨p,rfl,hp,hx⟩:=h;exact⟨p,rfl,s _ _ hp (ne_of hp ht (by intro z;cases z)),λx hx'=>let ⟨T,th⟩:=hx x hx';⟨T,th.sameB ht s⟩⟩
def YZ(H:Hp)(xs:List V)(rs:List (Option (List V))):Prop:=xs.length=rs.length/\∀(i:Nat)x r,xs[i]?=some x->rs[i]?=some r->Row H x r
noncomputable def Jm:Nat->List (Key×V)->List (Option (List V))->Sum (Nat×V) (List (Key×V))
|_,kvs,[]=>.inr kvs
|i,kvs,r::rs=>
  if begR false 2 kvs r≠.non then .inl (i,begR false 2 kvs r)else match r with
  |some [.str n,room]=>if Yy room≠.non then .inl (i,Yy room)else Jm (i+1) (putK kvs (.inr n) room) rs
  |_=>.inl (i,.str "form")
theorem Ru{i:Nat}{kvs:List (Key×V)}{r:Option (List V)}{rs:List (Option (List V))}(h:begR false 2 kvs r≠.non):Jm i kvs (r::rs)=.inl (i,begR false 2 kvs r):=by unfold Jm;rw[if_pos h]
theorem Dt{g:Bool}{n:Nat}{kvs:List (Key×V)}{r:Option (List V)}(h:begR g n kvs r=.non):∃xs y,r=some xs/\xs.length=n/\xs.getD 0 .non=.str y:=by
 cases r with
|none=>cases h
|some xs=>
  have h':begV g n kvs xs=.non:=h;unfold begV at h';by_cases h1:xs.length≠n
  ·rw[if_pos h1]at h';cases h'
  ·rw[if_neg h1]at h';by_cases h2:Z8 g (xs.getD 0 .non)=false
   ·rw[if_pos h2]at h';cases h'
   ·have h2':Z8 g (xs.getD 0 .non)=true:=by simpa using h2
    unfold Z8 at h2';cases e:xs.getD 0 .non with
   |str y=>exact⟨xs,y,rfl,by omega,e⟩
   |_=>rw[e]at h2';split at h2'<;>cases h2'
noncomputable def nameOf(ys:List V):Str:=match ys.getD 0 .non with
|.str y=>y
|_=>Str.empty
noncomputable def JD(g:Bool)(n:Nat)(why:List V->V):Nat->List (Key×V)->List (V×Option (List V))->Sum (Nat×V) (List (Key×V))
|_,kvs,[]=>.inr kvs
|i,kvs,(x,r)::rs=>
  if begR g n kvs r≠.non then .inl (i,begR g n kvs r)else match r with
  |some ys=>if why ys≠.non then .inl (i,why ys)else JD g n why (i+1) (putK kvs (.inr (nameOf ys)) x) rs
  |none=>.inl (i,.str "form")
theorem K0{g:Bool}{n:Nat}{why:List V->V}{i:Nat}{kvs:List (Key×V)}{x:V}{r:Option (List V)}{rs:List (V×Option (List V))}(h:begR g n kvs r≠.non):JD g n why i kvs ((x,r)::rs)=.inl (i,begR g n kvs r):=by unfold JD;rw[if_pos h]
theorem TX{g:Bool}{n:Nat}{why:List V->V}{i:Nat}{kvs:List (Key×V)}{x:V}{ys:List V}{rs:List (V×Option (List V))}(h:begR g n kvs (some ys)=.non):JD g n why i kvs ((x,some ys)::rs)=if why ys≠.non then .inl (i,why ys)else JD g n why (i+1) (putK kvs (.inr (nameOf ys)) x) rs:=by
 conv=>lhs;unfold JD
 rw[if_neg (λz=>z h)]
noncomputable def at_(ys:List V)(i:Nat):V:=ys.getD i .non
noncomputable def K3(kvs:List (Key×V))(n:Int)(ys:List V):V:=Us kvs n (at_ ys 1) (at_ ys 2) (at_ ys 3) (at_ ys 4) (at_ ys 5)
noncomputable def wayW(kvs:List (Key×V))(ys:List V):V:=wayV kvs (at_ ys 1) (at_ ys 2) (at_ ys 3) (at_ ys 4)
noncomputable def Ge(kvs:List (Key×V))(n pp:Int)(ys:List V):V:=Y6 kvs n pp (at_ ys 1) (at_ ys 2) (at_ ys 3)
noncomputable def Zz(ys:List V):Int:=match ys.getD 3 .non with
|.int i=>i
|_=>0
noncomputable def Xy(kvsP:List (Key×V))(nT:Int):Nat->Int->List (Key×V)->List (V×Option (List V))->Sum (Nat×V) (List (Key×V))
|_,_,kvs,[]=>.inr kvs
|i,pp,kvs,(x,r)::rs=>
  if begR true 4 kvs r≠.non then .inl (i,begR true 4 kvs r)else match r with
  |some ys=>if Ge kvsP nT pp ys≠.non then .inl (i,Ge kvsP nT pp ys)else Xy kvsP nT (i+1) (pp+Zz ys) (putK kvs (.inr (nameOf ys)) x) rs
  |none=>.inl (i,.str "form")
section
variable {kvsP:List (Key×V)}{nT pp:Int}{i:Nat}{kvs:List (Key×V)}{x:V}{rs:List (V×Option (List V))}
theorem QI{ys:List V}(h:begR true 4 kvs (some ys)=.non):Xy kvsP nT i pp kvs ((x,some ys)::rs)=if Ge kvsP nT pp ys≠.non then .inl (i,Ge kvsP nT pp ys)else Xy kvsP nT (i+1) (pp+Zz ys) (putK kvs (.inr (nameOf ys)) x) rs:=by
 conv=>lhs;unfold Xy
 rw[if_neg (λz=>z h)]
end
noncomputable abbrev PR:=Option (List V×List (Option (List V)))
def DA(H:Hp)(v:V)(r:PR):Prop:=match r with
|none=>Part H v none
|some (xs,rs)=>Part H v (some xs)/\YZ H xs rs
theorem YZ.sameB{H H':Hp}{t C dx:Addr}{fs:List (Str×V)}(ht:H t=some (.ins C dx fs))(s:Zj t H H'){xs:List V}{rs:List (Option (List V))}(h:YZ H xs rs):YZ H' xs rs:=⟨h.1,λi x r a b=>(h.2 i x r a b).sameB ht s⟩
noncomputable def Lp(n:Nat)(go:List V->List (Option (List V))->Sum (Nat×V) (List (Key×V)))(r:PR):Sum (V×V) (List (Key×V)):=match r with
|none=>.inl (.non,.str "form")
|some (xs,rs)=>if xs.length>n then .inl (.int n,.str "many")else match go xs rs with
 |.inl (i,why)=>.inl (.int i,why)
 |.inr kvs=>.inr kvs
noncomputable def goP(_:List V)(rs:List (Option (List V))):Sum (Nat×V) (List (Key×V)):=Jm 0 [] rs
noncomputable def goR(k1:List (Key×V))(n:Int)(xs:List V)(rs:List (Option (List V))):Sum (Nat×V) (List (Key×V)):=JD false 6 (K3 k1 n) 0 [] (xs.zip rs)
noncomputable def goW(k1:List (Key×V))(xs:List V)(rs:List (Option (List V))):Sum (Nat×V) (List (Key×V)):=JD false 5 (wayW k1) 0 [] (xs.zip rs)
noncomputable def goG(k1:List (Key×V))(n:Int)(xs:List V)(rs:List (Option (List V))):Sum (Nat×V) (List (Key×V)):=Xy k1 n 0 0 [] (xs.zip rs)
noncomputable abbrev Ks:=List (Key×V)×List (Key×V)×List (Key×V)×List (Key×V)
def Vx(H:Hp)(fs:List (Str×V))(f g:Str)(r:PR)(k:List (Key×V)):Prop:=∃l d xs rs,fs.lookup f=some (.ref l)/\fs.lookup g=some (.ref d)/\r=some (xs,rs)/\H l=some (.tup xs)/\H d=some (.dK k)
structure TabOf(H:Hp)(C t:Addr)(fs:List (Str×V))(n:Int)(r1 r2 r3 r4:PR)(k:Ks):Prop where
 tab:Tab H C t fs
 turns:fs.lookup ("turns":Str)=some (.int n)
 p:Vx H fs "places" "room_by_place" r1 k.1
 r:Vx H fs "rides" "ride_by_name" r2 k.2.1
 w:Vx H fs "ways" "way_by_name" r3 k.2.2.1
 g:Vx H fs "groups" "group_by_name" r4 k.2.2.2
end TB
namespace L2
open PySem PySem.Spec PyProof.Rows
section
variable {X:Cx}{CX:CXT}{k:Nat}{C:Addr}{ps:List Str}{sp:Sp}{E:XK}{m:Str}{pos apos:Pos}{o:Expr}{ta:TE}
theorem Uw{pl:Sem Bool}(c:CanM X.prog X.w X.K X.mg X.base CX k C m ps sp)(cl:Cls X.K C)(hx:Passes CX X E)(hr:Room k X.A)(he:PE X o ta)
  (ht:eval (.Call (.Attribute o m apos) [] [] pos) X.env=(do
   let ov <-eval o X.env
   ib apos.atName
   let (f,first) <-eV [ov] (fJ ov m pl)
   g9 pos f first (b8 pos (aI [] X.env)) (fg pos (da [] X.env))):=by rfl):
  PE X (.Call (.Attribute o m apos) [] [] pos) (Ny C m sp [] E ta tNil):=by
 obtain⟨f,fd,F,me,b⟩:=c
 exact Lj he cl me F hr b .nil hx ht
end
section
variable {prog:Program}{w:World}{A:a9}{E:Value->ag->Prop}
theorem NT{it l:Addr}{items:Array Value}(hne:l≠it):∀(n i:Nat)(s:ag)(Q:List Value->ag->Prop),s.heap.IsListIter it l i->s.heap.IsList l items->i+n<=items.size ->(∀h',h'.IsListIter it l (i+n)->Heap.SameBut it s.heap h'->Q ((items.toList.drop i).take n) {s with heap:=h'})->wpAny (model prog w) A (draw (.ref it) n) Q E s
|0,i,s,Q,hit,_,_,hQ=>by show wpAny _ _ (pure []) Q E s;exact ai (by simpa using hQ s.heap hit (Heap.SameBut.refl ..))
|n+1,i,s,Q,hit,hl,hle,hQ=>by
  have hlt:i<items.size:=by omega
  show wpAny _ _ (pyNext (.ref it) >>= _) Q E s;refine ae (wpAny_pyNext_list_item hit hl (x:=items[i]) (by simp[hlt]) λh₁ hit₁ hs₁=>?_);refine ae (a8 (NT hne n (i+1) _ _ hit₁ (hl.at λo e=>hs₁.extBut _ _ hne e) (by omega) λh₂ hit₂ hs₂=>ai ?_));have hd:items.toList.drop i=items[i]::items.toList.drop (i+1):=by simp[fD,hlt]
  have:=hQ h₂ (by rw[show i+(n+1)=i+1+n by omega];exact hit₂) (hs₁.trans hs₂);rw[hd,List.take_succ_cons]at this;exact this
theorem U0{s:ag}{t:Addr}{items:Array Value}{Q:List Value->ag->Prop}(hh:A.handled=none)(ht:s.heap.IsList t items)(hQ:∀h',Heap.ExtBut s.heap.objs.size s.heap h'->Q items.toList {s with heap:=h'}):wpAny (model prog w) A (unpackItems (.ref t) items.size none) Q E s:=by
 have hlt:t≠s.heap.objs.size:=by obtain⟨o,ho,_⟩:=ht;exact Nat.ne_of_lt (Heap.lt_size ho)
 unfold unpackItems;refine ae ?_
 ·unfold notIterableAtAll;refine ae (wpAny_specialOf ht.typeIs slot_list_iter.lookup ?_);refine ai ?_;simp only[Bool.false_eq_true,if_false];refine ae (a8 (eJ ht ?_));have ht0:(s.heap.push {cls:=.type "list_iterator",data:=.fields #[.ref t,.int 0 0]}).IsList t items:=ht.at λo e=>Heap.get?_push_of_some _ e;refine ae (a8 (NT hlt items.size 0 _ _ ⟨_,Heap.get?_push_size _ rfl,rfl,rfl⟩ ht0 (by omega) λh₁ hit₁ hs₁=>?_));have hall:List.take items.size (List.drop 0 items.toList)=items.toList:=by rw[gm];exact aX (by simp)
  rw[hall];rw[if_neg (by simp)];have ht₁:h₁.IsList t items:=ht0.at λo e=>hs₁.extBut _ _ hlt e;refine ae (a8 (wpAny_pyNext_list_end hh hit₁ ht₁ (by simp) λh₂ he₂=>?_));simp only[Option.isSome_none,Bool.false_eq_true,if_false];refine ai (hQ h₂ λb o hb e=>he₂ b o hb (hs₁.extBut b o hb (Heap.get?_push_of_some _ e)))
theorem UX{s:ag}{env:Env}{elts:List Expr}{x1}{pos:Pos}{t:Addr}{items:Array Value}{Q:Unit->ag->Prop}(hh:A.handled=none)(ht:s.heap.IsList t items)(hn:(cD elts env).length=items.size)(hstar:(cD elts env).findIdx? (·.1)=none)(h:∀h',Heap.ExtBut s.heap.objs.size s.heap h'->wpAny (model prog w) A (assignInOrder ((cD elts env).map (·.2)) items.toList) Q E {s with heap:=h'}):wpAny (model prog w) A (assign (.Tuple elts x1 pos) env (.ref t)) Q E s:=by rw[assign_Tuple];refine ae (e_ ?_);unfold unpack;rw[hn,hstar];exact ae (a8 (U0 hh ht h))
end
section
variable {X:Cx}{pos:Pos}
def gLst(K:aa)(n:Nat)(t:TGs):TG:=λv σ H Q=>∃a xs,v=.ref a/\SqL K H a xs/\xs.length=n/\t xs σ H Q
theorem FO{es:List Expr}{k:Nat}{t:TGs}{n:Nat}(hc:X.calm=true)(h:PGs X es t)(hn:(cD es X.env).length=n:=by rfl)(hst:(cD es X.env).findIdx? (·.1)=none:=by rfl):PG X (.Tuple es k pos) (gLst X.K n t):=by intro pins s σ H v u Q I r hw;obtain⟨a,xs,e1,hq,hl,hw⟩:=hw;subst e1;cases r;obtain⟨its,rv,ht,hz⟩:=I.list hq;refine UX (I.ok.hd hc) ht.isList (by simp[hn,<-hl,rv.length]) hst λh' hx=>?_;have I1:Inv X pins σ H {s with heap:=h'}:=I.kept (t':=s.toks) λb o e=>hx b o (Nat.ne_of_lt (Heap.lt_size e)) e;exact h pins _ σ H xs _ Q I1 (by simpa using rv) hw
noncomputable def rLen(K:aa):List V->Hp->VK->Prop:=λxs H Q=>∃p ys,xs=[.ref p]/\(SqL K H p ys\/SqT K H p ys)/\Q (.int ys.length) H
theorem Z1:YI X (.builtin "len") (rLen X.K):=JQ
noncomputable def rSum(K:aa):List V->Hp->VK->Prop:=λxs H Q=>∃(p:Addr)(ns:List Int),xs=[.ref p]/\SqL K H p (ns.map V.int)/\Q (.int ns.sum) H
theorem VP(hc:X.calm=true):YI X (.builtin "sum") (rSum X.K):=by intro pins s σ H xs us Q I r h;obtain⟨p,ns,rfl,hq,q⟩:=h;obtain⟨u,rfl,rx⟩:=vals1 r;cases rx;obtain⟨its,rv,pl,hz⟩:=I.list hq;have hi:IntsAre its ns:=intsAre_of rv;obtain⟨xs',e⟩:=(show AllInts its.toArray from hi.allInts).items;have hl:s.heap.IsList p (intItems xs'):=e▸pl.isList;refine sum_intListG (I.ok.hd hc) hl λh' tk t' hk=>⟨.int ns.sum,H,I.kept hk,⟨t',?_⟩,q⟩;rw[preSum_eq,aX (by simp),<-nums_intItems,<-e];have:numsOf its=ns:=hi.numsOf;rw[show its.toArray.toList=its from rfl,this]
end
mutual
inductive Is(H:Hp):V->PyData->Prop
|non:Is H .non .none
|bl (b:Bool):Is H (.bl b) (.bool b)
|int (i:Int):Is H (.int i) (.int i)
|str (z:Str):Is H (.str z) (.str z)
|lst {a:Addr}{xs:List V}{ds:List PyData} (e:H a=some (.lst xs)) (r:IsAll H xs ds):Is H (.ref a) (.list ds)
|tup {a:Addr}{xs:List V}{ds:List PyData} (e:H a=some (.tup xs)) (r:IsAll H xs ds):Is H (.ref a) (.tuple ds)
inductive IsAll(H:Hp):List V->List PyData->Prop
|nil:IsAll H [] []
|cons {x:V}{xs:List V}{d:PyData}{ds:List PyData} (h:Is H x d) (r:IsAll H xs ds):IsAll H (x::xs) (d::ds)
end
section
variable {P:Program}{w:World}{H:Hp}{h:Heap}
mutual
theorem Is.reads(ok:HOk P w H h):∀{x:V}{d:PyData}{v:Value},Is H x d->RelV x v->∃as,Reads h v d as
|_,_,_,.non,r=>by cases r;exact⟨_,.none⟩
|_,_,_,.bl b,r=>by cases r;exact⟨_,.bool b⟩
|_,_,_,.int i,r=>by obtain⟨t,rfl⟩:=r;exact⟨_,.int i t⟩
|_,_,_,.str z,r=>by obtain⟨t,rfl⟩:=r;exact⟨_,.str z t⟩
|_,_,_,.lst e q,r=>by cases r;obtain⟨_,its,n,rv,e2⟩:=ok _ _ e;obtain⟨as,ra⟩:=IsAll.reads ok q rv;exact⟨_,.list e2 rfl rfl (by simpa using ra)⟩
|_,_,_,.tup e q,r=>by cases r;obtain⟨_,its,rv,o,e2,hc,n,hd⟩:=ok _ _ e;obtain⟨as,ra⟩:=IsAll.reads ok q rv;exact⟨_,.tuple e2 hc hd (by simpa using ra)⟩
theorem IsAll.reads(ok:HOk P w H h):∀{xs:List V}{ds:List PyData}{us:List Value},IsAll H xs ds->Vals xs us->∃as,ReadsAll h us ds as
|_,_,_,.nil,r=>by cases r;exact⟨_,.nil⟩
|_,_,_,.cons a b,r=>by
  cases r with
 |cons r1 r2=>obtain⟨as,h1⟩:=Is.reads ok a r1;obtain⟨bs,h2⟩:=IsAll.reads ok b r2;exact⟨_,.cons h1 h2⟩
end
mutual
theorem Is.nodict:∀{x:V}{d:PyData},Is H x d->d.hasDict=false
|_,_,.non=>by simp only[PyData.hasDict]
|_,_,.bl b=>by simp only[PyData.hasDict]
|_,_,.int i=>by simp only[PyData.hasDict]
|_,_,.str z=>by simp only[PyData.hasDict]
|_,_,.lst e q=>by simp only[PyData.hasDict];exact IsAll.nodict q
|_,_,.tup e q=>by simp only[PyData.hasDict];exact IsAll.nodict q
theorem IsAll.nodict:∀{xs:List V}{ds:List PyData},IsAll H xs ds->PyData.hasDictAll ds=false
|_,_,.nil=>by simp only[PyData.hasDictAll]
|_,_,.cons a b=>by simp only[PyData.hasDictAll,Is.nodict a,IsAll.nodict b,Bool.or_false]
end
mutual
theorem Is.same{H':Hp}(s:Same H H'):∀{x:V}{d:PyData},Is H x d->Is H' x d
|_,_,.non=>.non
|_,_,.bl b=>.bl b
|_,_,.int i=>.int i
|_,_,.str z=>.str z
|_,_,.lst e q=>.lst (s _ _ e) (IsAll.same s q)
|_,_,.tup e q=>.tup (s _ _ e) (IsAll.same s q)
theorem IsAll.same{H':Hp}(s:Same H H'):∀{xs:List V}{ds:List PyData},IsAll H xs ds->IsAll H' xs ds
|_,_,.nil=>.nil
|_,_,.cons a b=>.cons (Is.same s a) (IsAll.same s b)
end
end
section
variable {X:Cx}
noncomputable def AB:List V->Hp->VK->Prop:=λxs H Q=>∃a d,xs=[.ref a]/\Is H (.ref a) d/\d.showable=true/\d.depth<=64/\d.shown.length<=sizeLine/\Q (.str d.shown) H
theorem Nd{k:Nat}(hr:Room k X.A):YI X (.builtin "repr") AB:=by intro pins s σ H xs us Q I r h;obtain⟨a,d,rfl,hd,hs,hdp,hz,q⟩:=h;obtain⟨u,rfl,rx⟩:=vals1 r;obtain⟨as,rd⟩:=hd.reads I.hok rx;cases rx;exact hV rd hs (PyData.noDict_hsm hd.nodict) hr.gd (by have:=hr.un;omega) (λ_ _ e=>e) (λh' u tk hk=>⟨.str d.shown,H,I.kept hk,⟨u,rfl⟩,q⟩) hz
end
theorem Zj.new'{b l:Addr}{H H1:Hp}{o:HO}(x:Zj b H H1)(hl:H1 l=none):Zj b H (L2.upd H1 l o):=λc u h hc=>by rw[Zg (Zi (x c u h hc) hl)];exact x c u h hc
theorem Zj.put{b:Addr}{H H1:Hp}{o:HO}(x:Zj b H H1):Zj b H (L2.upd H1 b o):=λc u h hc=>by rw[Zg hc];exact x c u h hc
theorem at_of{α:Type}{xs:List α}{r:Int}(h0:0<=r)(h1:r<(xs.length:Int)):∃v,atI xs r=some v/\v∈xs:=by
 have e1:((r.toNat:Nat):Int)=r:=Int.toNat_of_nonneg h0;have hr':r.toNat<xs.length:=by omega
 refine⟨xs[r.toNat],?_,aE hr'⟩;have h:=ZD (xs:=xs) (gE hr');rwa [e1]at h
end L2
namespace WD
open PySem L2 PySem.Spec PyProof.Rows TB
noncomputable def Blts:List Str:=["len","range","int","list","tuple","zip","sum","repr","max","isinstance","bool","str","enumerate"]
theorem bm{mg:Str->Option Value}(B:∀x∈Blts,mg x=none){x:Str}(h:x∈Blts:=by decide +kernel):mg x=none:=B x h
noncomputable def boxV(x y z:Int):HO:=.lst [.int x,.int y,.int z]
def ZA(H:Hp)(b:Addr):Prop:=∃x y z:Int,H b=some (boxV x y z)
theorem ZA.new{H:Hp}{b l:Addr}{o:HO}(h:ZA H b)(hl:H l=none):ZA (upd H l o) b:=by obtain⟨x,y,z,e⟩:=h;exact⟨x,y,z,by rw[Zg (Zi e hl)];exact e⟩
theorem ZA.ne{H:Hp}{b l:Addr}(h:ZA H b)(hl:H l=none):l≠b:=by obtain⟨x,y,z,e⟩:=h;exact(Zi e hl).symm
theorem ZA.same{H H':Hp}{b:Addr}(h:ZA H b)(s:Same H H'):ZA H' b:=by obtain⟨x,y,z,e⟩:=h;exact⟨x,y,z,s _ _ e⟩
theorem al{b c:Addr}{H:Hp}{o:HO}{G:Hp->Prop}(B:ZA H b)(h:H c=none)(k:∀H',ZA H' b->Zj b H H'->H' c=some o->c≠b->G H'):G (upd H c o):=k _ (B.new h) ((Zj.refl b H).new' h) Zf (B.ne h)
theorem al2{b c:Addr}{H:Hp}{o:HO}{R:Type}{q:R}{G:Hp->R->Prop}(B:ZA H b)(h:H c=none)(k:∀H',ZA H' b->Zj b H H'->H' c=some o->c≠b->G H' q):G (upd H c o) q:=al (G:=λH=>G H q) B h k
theorem al2E{b c:Addr}{H:Hp}{o o':HO}{R:Type}{q:R}{G:Hp->R->Prop}(e:o=o')(B:ZA H b)(h:H c=none)(k:∀H',ZA H' b->Zj b H H'->H' c=some o'->c≠b->G H' q):G (upd H c o) q:=by subst e;exact al2 B h k
def SE:Sp:=λvs H Q _=>∃c:Int,vs=[.int c]/\∀l H',H l=none->ZA H' l->Same H H'->Q (.ref l) H'
def Y1:Sp:=λvs H Q _=>∃(b:Addr)(n:Int),vs=[.ref b,.int n]/\ZA H b/\0<n/\n.natAbs.log2<9000/\∀(r:Int)H',0<=r->r<n->ZA H' b->Zj b H H'->Q (.int r) H'
theorem NC(a m:Int)(h:0<m)(hm:m<2 ^ 64):-(2 ^ 64)<a % m/\a % m<2 ^ 64:=by have h1:=Int.emod_nonneg a (by omega:m≠0);have h2:=Int.emod_lt_of_pos a h;omega
theorem Yj{n:Int}(h:0<=n)(h2:n<=1000):n.natAbs.log2<9000:=Nat.lt_of_le_of_lt (Nat.log2_le_self _) (by omega)
theorem tkC{b:Addr}{i:Nat}{n:Int}{σ:L2.St}{H:Hp}{Q:VK}{E:XK}(hb:ZA H b)(k:∀(r:Int)H',0<=r->r<n->ZA H' b->Zj b H H'->Q (.int r) H')(h0:0<n:=by decide)(hl:n.natAbs.log2<9000:=by exact Yj (by decide) (by decide))(hv:σ[i]?=some (some (.ref b)):=by rfl):G0 Y1 [] E (Yo (tVar i) (Yo (tC (.int n)) tNil)) σ H Q:=⟨_,hv,b,n,rfl,hb,h0,hl,k⟩
theorem XS{p:Bool}{A B:Prop}(h1:p=true->A)(h2:p=false->B):if p=true then A else B:=by
 cases p
 ·exact h2 rfl
 ·exact h1 rfl
section
variable {P:Program}{w:World}{K:aa}{mg:Str->Option Value}{base:Heap}
theorem Rm:FnScope ["_law_cell_here"] ["_law_cell_here"] (Zc T.f__law_box):=scO
theorem EH(B:∀x∈Blts,mg x=none)(D:Df K mg "_law_box" T.f__law_box ["_law_cell_here"]):Can P w K mg base 1 "_law_box" ["_law_cell_here"] SE:=by refine D.cn Rm λf cdv A outer s H vs Q E hr h=>?_;obtain⟨c,rfl,k⟩:=h;refine⟨_,(Zd (Zl (Zy (Ze (Zv (GX rfl) rfl (bm B) fA (Ze Zb (Ze (Zo XZ (pv 0) (Zo FT Zb Zb)) Zk))) (Ze (Zo Xi (pv 0) Zb) (Ze Zb Zk)))))),?_⟩;refine⟨_,rfl,_,_,rfl,rfl,⟨by decide,by decide,by decide⟩,_,_,rfl,rfl,_,_,rfl,_,rfl,_,_,rfl,rfl,(by show(0:Int)<2147483647;decide),(zl),λp hp=>?_⟩;exact k p _ hp ⟨_,_,_,Zf⟩ (sameNew (Same.refl _) hp)
theorem XI:FnScope [q_b,"_law_many","_law_digit","_law_number"] [q_b,"_law_many"] (Zc T.f__law_take):=scO
theorem L6(D:Df K mg "_law_take" T.f__law_take [q_b,"_law_many"]):Can P w K mg base 1 "_law_take" [q_b,"_law_many"] Y1:=by
 refine D.cn XI λf cdv A outer s H vs Q E hr h=>?_;obtain⟨b,n,rfl,⟨x,y,z,hb⟩,hn,hlog,k0⟩:=h;have k:∀r x' y' z':Int,0<=r->r<n->Q (.int r) (upd H b (boxV x' y' z')):=λr x' y' z' h0 h1=>k0 r _ h0 h1 ⟨_,_,_,Zf⟩ (Zj.refl b H).put;refine⟨_,(Za (ZG (Zt NH (il K (pv 0) Zb) Zb (ZC _)) (Za (st 2 XI.nd (Zo Xi (il K (pv 0) Zb) (pv 1))) (Za (V9 (Zo Lr (il K (pv 0) Zb) (pv 1)) (Rv (pv 0) Zb set_list)) (Zd (Zl (pv 2))))) Zp) (Za (V9 (Zo ZI (il K (pv 0) Zb) Zb) (Rv (pv 0) Zb set_list)) (Za (st 3 XI.nd (Zo Xi (Zo ZI (Zo ZI (Zo JJ (il K (pv 0) Zb) Zb) (Zo JJ Zb (il K (pv 0) Zb))) Zb) Zb)) (Za (st 3 XI.nd (Zo Xi (Zo JJ (Zo Xi (Zo JJ (pv 3) (pv 3)) Zb) Zb) Zb)) (Zd (Zl (Zo Xi (Zo PD (Zo Xi (Zo JJ (pv 3) (pv 3)) Zb) Zb) (pv 1)))))))),?_⟩;have a0:atI [V.int x,V.int y,V.int z] 0=some (.int x):=ZD (j:=0) rfl;refine iaL hb a0 ⟨_,_,rfl,rfl,_,rfl,?_⟩;refine ite2 (λe=>?_) (λe=>?_)
 ·refine iaL hb a0 ⟨_,rfl,_,_,rfl,rfl,hn,?_⟩;refine iaL hb a0 ⟨_,rfl,_,_,rfl,rfl,⟨hn,hlog⟩,?_⟩;refine⟨_,rfl,b,_,0,0,rfl,rfl,hb,rfl,_,rfl,?_⟩;exact k _ _ _ _ (Int.emod_nonneg _ (by omega)) (Int.emod_lt_of_pos _ hn)
 ·have a2:atI [V.int x,V.int y,V.int z] 2=some (.int z):=ZD (j:=2) rfl;refine iaL hb a2 ⟨_,_,rfl,rfl,?_⟩;refine⟨_,rfl,b,_,2,2,rfl,rfl,hb,rfl,?_⟩;have hb2:upd H b (.lst ([V.int x,V.int y,V.int z].set 2 (.int (z+1)))) b=some (boxV x y (z+1)):=Zf;have b1:atI [V.int x,V.int y,V.int (z+1)] 1=some (.int y):=ZD (j:=1) rfl;have b2:atI [V.int x,V.int y,V.int (z+1)] 2=some (.int (z+1)):=ZD (j:=2) rfl;refine iaL hb2 b1 ⟨_,_,rfl,rfl,.inr ⟨by decide,by decide⟩,iaL hb2 b2 ⟨_,_,rfl,rfl,.inl ⟨by decide,by decide⟩,_,_,rfl,rfl,_,_,rfl,rfl,_,_,rfl,rfl,(by show(0:Int)<2147483629;decide),?_⟩⟩;refine⟨_,rfl,_,rfl,_,_,rfl,rfl,.inl (NC _ _ (by decide) (by decide)),_,_,rfl,rfl,(by show(0:Int)<2147483587;decide),_,_,rfl,rfl,.inr ⟨by decide,by decide⟩,_,_,rfl,rfl,(by show(0:Int)<2147483647;decide),?_⟩;refine⟨_,rfl,_,rfl,_,_,rfl,rfl,.inl (NC _ _ (by decide) (by decide)),_,_,rfl,rfl,(by show(0:Int)<2147483629;decide),_,_,rfl,rfl,⟨by decide,by decide⟩,_,rfl,_,_,rfl,rfl,hn,?_⟩;exact k _ _ _ _ (Int.emod_nonneg _ (by omega)) (Int.emod_lt_of_pos _ hn)
end
noncomputable abbrev codes:=K1.codes
noncomputable abbrev LET:=K1.LET
theorem WE{a b:Str}(h:codes a=codes b):a=b:=by
 obtain⟨x⟩:=a;obtain⟨y⟩:=b;have:x=y:=by simpa[K1.codes]using h
 rw[this]
theorem YF(a b:Str):codes (a++b)=codes a++codes b:=by show(a.cps++b.cps).toList=_;simp[K1.codes]
theorem WC(c:Nat):codes ⟨#[c]⟩=[c]:=rfl
theorem V8{α:Type}(xs:List α)(a:Nat):∀k,a+k<=xs.length->((aV k).map λi=>a+i).filterMap (λi=>xs[i]?)=(xs.drop a).take k
|0,_=>by simp
|k+1,h=>by
  rw[bV,aL,List.filterMap_append,V8 xs a k (by omega)];have hk:a+k<xs.length:=by omega
  rw[bc];congr 1;simp[hk]
theorem LL(n:Nat)(j:Int)(h:0<=j):c6 none (some j) 1 n=(aV (min j.toNat n)).map λi=>0+i:=by
 unfold c6 sliceRange;obtain⟨m,rfl⟩:=Int.eq_ofNat_of_zero_le h;simp only[show(1:Int)>0 by decide,if_true,show ¬(m:Int)<0 by omega,if_false];rw[show max 0 (min (m:Int) n)=((min m n:Nat):Int) by omega,Int.toNat_natCast];generalize min m n=t;have e:(if(0:Int)<t then((t:Int)-0+1-1) / 1 else 0).toNat=t:=by rw[Int.ediv_one];split<;>omega
 rw[e];apply dR;intro k _;omega
theorem LM(n:Nat)(j:Int)(h:0<=j)(h2:j<=n):c6 (some j) none 1 n=(aV (n-j.toNat)).map λi=>j.toNat+i:=by
 unfold c6 sliceRange;obtain⟨m,rfl⟩:=Int.eq_ofNat_of_zero_le h;simp only[show(1:Int)>0 by decide,if_true,show ¬(m:Int)<0 by omega,if_false];rw[show max 0 (min (m:Int) n)=m by omega,Int.toNat_natCast];have e:(if(m:Int)<(n:Int)then((n:Int)-m+1-1) / 1 else 0).toNat=n-m:=by rw[Int.ediv_one];split<;>omega
 rw[e];apply dR;intro k _;omega
theorem Ql(x:Str)(l:List Nat):(l.filterMap (x.cps[·]?))=l.filterMap (λi=>(codes x)[i]?):=by congr 1;funext i;simp[K1.codes]
theorem ZX(x:Str):(codes x).length=x.length:=K1.clen x
theorem M9(x:Str)(j:Int)(h:0<=j):codes (Txt.slice x none (some j))=(codes x).take j.toNat:=by
 unfold Txt.slice;rw[LL _ _ h];split
 ·rename_i hq;have:min j.toNat x.length=x.length:=by simpa using hq
  rw[aX (by rw[ZX];omega)]
 ·show(List.filterMap _ _)=_;rw[Ql,V8 _ 0 _ (by rw[ZX];omega),gm];rcases Nat.le_total j.toNat x.length with hh|hh
  ·rw[Nat.min_eq_left hh]
  ·rw[Nat.min_eq_right hh,aX (by rw[ZX];exact Nat.le_refl _),aX (by rw[ZX];omega)]
theorem RP(x:Str)(j:Int)(h:0<=j)(h2:j<=x.length):codes (Txt.slice x (some j) none)=(codes x).drop j.toNat:=by
 unfold Txt.slice;rw[LM _ _ h h2];split
 ·rename_i hq;have:x.length-j.toNat=x.length:=by simpa using hq
  have hl:=ZX x;rcases Nat.eq_zero_or_pos x.length with e|e
  ·have:codes x=[]:=iK (by omega);rw[this];simp
  ·have:j.toNat=0:=by omega
   rw[this,gm]
 ·show(List.filterMap _ _)=_;rw[Ql,V8 _ j.toNat _ (by rw[ZX];omega),aX (by rw[bD,ZX];omega)]
theorem Na:∀(ts:List Str),codes (Txt.join Str.empty ts)=(ts.map codes).flatten
|[]=>rfl
|[t]=>by show codes (Txt.join Str.empty [t])=_;unfold Txt.join;rw[gN];show codes t=_;simp
|t::u::r=>by have ih:=Na (u::r);unfold Txt.join at ih ⊢;rw[gN]at ih ⊢;show codes (t++Str.empty++Str.join Str.empty (u::r))=_;rw[YF,YF,ih];simp[K1.codes,Str.empty]
def Bs(n:Nat)(t:Str):Prop:=(codes t).length=n/\∀c∈codes t,c∈LET
theorem Bs.join{ts:List Str}(h:∀t∈ts,Bs 1 t):Bs ts.length (Txt.join Str.empty ts):=by
 unfold Bs;rw[Na];induction ts with
|nil=>simp
|cons t r ih=>
  obtain⟨a,b⟩:=h t aG;obtain⟨a',b'⟩:=ih λu hu=>h u (av _ hu);refine⟨by simp only[ar,dj,aj,aR];omega,λc hc=>?_⟩;rw[ar,dj]at hc;rcases aD.mp hc with hc|hc
  ·exact b c hc
  ·exact b' c hc
theorem nodup_map_on{α β:Type}{f:α->β}:∀{l:List α},l.Nodup->(∀a∈l,∀b∈l,f a=f b->a=b)->(l.map f).Nodup
|[],_,_=>dA
|a::l,h,i=>by rw[ar,bz];rw[bz]at h;refine⟨λhm=>?_,nodup_map_on h.2 λx hx y hy e=>i x (av _ hx) y (av _ hy) e⟩;obtain⟨b,hb,e⟩:=ah.mp hm;exact h.1 (i b (av _ hb) a aG e▸hb)
noncomputable def put(base:Str)(at_:Nat)(c:Nat):Str:=Txt.slice base none (some (at_:Int))++⟨#[c]⟩++Txt.slice base (some (at_:Int)) none
theorem WB{base:Str}{a:Nat}(h:a<=base.length)(c:Nat):codes (put base a c)=(codes base).take a++[c]++(codes base).drop a:=by unfold put;rw[YF,YF,M9 _ _ (by omega),RP _ _ (by omega) (by omega),WC];simp
noncomputable def sgn(f k:Nat):Nat:=LET.getD ((f+5*k) % 26) 0
noncomputable def puts(base:Str)(a f n:Nat):List Str:=(aV n).map λk=>put base a (sgn f k)
end WD
namespace L2
open PySem PySem.Spec PyProof.Rows
section
variable {X:Cx}
theorem Mi{i:Nat}{x:Str}{pos' pos2:Pos}{elt iter tg:Expr}{ifs:List Expr}{scope:Scope}{pos:Pos}{N:List Str}{cp:List (Option Nat)}{wi:TI}{g:TG}{tc:TT}{te:TE}(hNd:X.N.Nodup)(hix:X.N[i]?=some x)(hlx:Loc X.env.scope x)(hc:X.calm=true){sc:Scope}{N0:List Str}(hS0:CompScope scope sc)(hN0:CompNames N0 scope N cp)
  (hi:PI X tg iter wi) (hg:∀C s H ex pn,PG (Xz X scope N C s H ex pn) tg g) (ht:∀C s H ex pn,PTs (Xz X scope N C s H ex pn) ifs tc) (he:∀C s H ex pn,PE (Xz X scope N C s H ex pn) elt te)
  (hsw:fH (.ListComp elt [⟨tg,iter,ifs,0⟩] scope pos) (some (.Name x pos')) pos2.line X.env=pure true:=by with_unfolding_all rfl) (hff:X.fn x=true\/X.env.scope.names.lookup x=some .local:=by first|exact .inl rfl|exact .inr rfl|assumption)
  (hsc:X.env.scope=sc:=by rfl) (hxn:X.N=N0:=by rfl) (hs:∀x,fU iter X.env x=pure x:=by intro _;rfl):PS X (.Assign [.Name x pos'] (.ListComp elt [⟨tg,iter,ifs,0⟩] scope pos) pos2) (tAsg (Ke cp wi g tc te) (Zq i)):=by
 subst hsc hxn
 intro pins s σ H D I h
 rw[exec_Assign_Name_used _ _ _ _ hsw]
 refine ae (e_ (ae ?_))
 show wpAny _ _ (do let _ <-comprehension (.ListComp elt [⟨tg,iter,ifs,0⟩] scope pos) scope X.env _ (newList []) false (eval iter X.env) (some (assign (.Name x pos') X.env))) _ _ s
 refine ae (cj (NV (R:=λ_ s'=>SP X pins D .next s') (use:=some (assign (.Name x pos') X.env)) hc hS0 hN0 hi hg ht he hs I h λD' C H5 s4 m I5 hn h1 h2 h3 h4 h5 q=>?_) (λ_ s' hq=>ai (ai hq)) λ_ _ e=>e)
 refine wpAny_assign_Name (NA I5 hNd hix hlx (v:=.ref D') rfl (λs' I6 hsb=>?_) hff)
 obtain⟨a,hsb,ha⟩:=hsb
 have haC:C≠a:=by
  rcases ha with rfl|ha
  ·exact h1
  ·exact(h2 _ _ ha).symm
 exact⟨m,hn.sameBut hsb haC,λh'' hs''=>⟨_,_,I6.turned (t':=s'.toks) (it:=C) (λb o hb e=>(hs''.2 b hb).trans e) h3 h1 (.inr h4) h2 h5,q⟩⟩
end
end L2
namespace WD
open PySem L2 PySem.Spec PyProof.Rows TB
noncomputable abbrev Pl:=List (Str×Option Int)
noncomputable def Ur:Option Int->V
|none=>.non
|some i=>.int i
noncomputable def plRow(p:Str×Option Int):List V:=[.str p.1,Ur p.2]
def Y8(b:Addr)(H:Hp)(l:Addr)(rows:List (List V)):Prop:=l≠b/\∃as:List Addr,H l=some (.lst (as.map V.ref))/\as.length=rows.length/\∀(i:Nat)a r,as[i]?=some a->rows[i]?=some r->a≠b/\H a=some (.tup r)
theorem Y8.same{b:Addr}{H H':Hp}{l:Addr}{rows:List (List V)}(s:Zj b H H')(h:Y8 b H l rows):Y8 b H' l rows:=by obtain⟨n,as,e,hl,r⟩:=h;exact⟨n,as,s _ _ e n,hl,λi a q h1 h2=>let ⟨x,y⟩:=r i a q h1 h2;⟨x,s _ _ y x⟩⟩
theorem ZA.same_ne{H:Hp}{b q:Addr}{o:HO}(h:ZA H b)(n:q≠b):ZA (upd H q o) b:=by obtain⟨x,y,z,e⟩:=h;exact⟨x,y,z,by rw[Zg n.symm];exact e⟩
theorem ND{b q:Addr}{H H4 H6:Hp}{o:HO}(s:Zj b H H6)(s4:Zj b H H4)(nqb:q≠b)(hq:H4 q=none):Zj b H (upd H6 q o):=λc u h hc=>by
 have:c≠q:=λz=>by rw[z]at h hc;rw[s4 _ _ h hc]at hq;cases hq
 rw[Zg this];exact s c u h hc
structure Rd where
 nm:Str
 st:Str
 lv:Int
 gl:Str
 cm:Int
 se:Int
noncomputable def SK(r:Rd):List V:=[.str r.nm,.str r.st,.int r.lv,.str r.gl,.int r.cm,.int r.se]
structure Wy where
 nm:Str
 st:Str
 gl:Str
 lo:Int
 wi:Int
noncomputable def Sj(r:Wy):List V:=[.str r.nm,.str r.st,.str r.gl,.int r.lo,.int r.wi]
structure Gr where
 nm:Str
 pl:Str
 tu:Int
 ma:Int
noncomputable def QK(r:Gr):List V:=[.str r.nm,.str r.pl,.int r.tu,.int r.ma]
structure Ends(ps:Pl)(s g:Str):Prop where
 st:∃i,(s,some i)∈ps
 gl:∃r,(g,r)∈ps
 ne:s≠g
structure GoodRd(n:Int)(ps:Pl)(r:Rd):Prop where
 ends:Ends ps r.st r.gl
 lv0:0<=r.lv
 lv1:r.lv<=n-1
 cm0:r.lv+1<=r.cm
 cm1:r.cm<=n
 se0:0<=r.se
 se1:r.se<=1000
structure GoodWy(ps:Pl)(r:Wy):Prop where
 ends:Ends ps r.st r.gl
 lo0:1<=r.lo
 lo1:r.lo<=50
 wi0:0<=r.wi
 wi1:r.wi<=1000
theorem Y0{i lo hi:Int}(h1:lo<=i)(h2:i<=hi):K1.Zw (.int i) lo hi=true:=by show(decide (lo<=i)&&decide (i<=hi))=true;simp[h1,h2]
end WD
namespace L2
open PySem PySem.W PySem.Spec PyProof.Rows
section
variable {X:Cx}
def rNil(neg:Bool)(K:aa):R2:=λx y H Q=>∃a b xs,x=.ref a/\y=.ref b/\SqL K H a xs/\H b=some (.lst [])/\Q (.bl (if neg then !decide (xs=[])else decide (xs=[]))) H
noncomputable def YK(xs ys:List V):Bool:=(aV (min xs.length ys.length)).all (λj=>eqV (xs.getD j .non) (ys.getD j .non))&&xs.length==ys.length
theorem LS{x:V}(h:Yw x=true):eqV x x=true:=by
 cases x with
|bl b=>simp[eqV]
|int i=>simp[eqV]
|str z=>simp[eqV]
|non=>rfl
|_=>cases h
theorem MP{xs:List V}(h:xs.all Yw=true):YK xs xs=true:=by
 unfold YK;rw[Bool.and_eq_true];refine⟨?_,by simp⟩;rw[bg]at h ⊢;intro j hj;rw[bp]at hj;have hj':j<xs.length:=by omega
 refine LS (h _ ?_);rw[aw,gE hj'];exact aE hj'
noncomputable def rowAt(H:Hp)(v:Value):List V:=match v with
|.ref c=>match H c with
 |some (.tup r)=>r
 |_=>[]
|_=>[]
def DX:R2:=λx y H Q=>∃(a l:Addr)(xs:List V)(as:List Addr)(rows:List (List V)),x=.ref a/\y=.ref l/\H a=some (.tup xs)/\xs.all Yw=true/\H l=some (.lst (as.map V.ref))/\as.length=rows.length /\(∀(i:Nat)c r,as[i]?=some c->rows[i]?=some r->H c=some (.tup r)/\r.all Yw=true)/\Q (.bl (rows.any λr=>YK r xs)) H
theorem MO{H:Hp}{xs:List V}:∀{as:List Addr}{rows:List (List V)},as.length=rows.length->(∀(i:Nat)c r,as[i]?=some c->rows[i]?=some r->H c=some (.tup r)/\r.all Yw=true) ->(as.map Value.ref).any (λu=>YK (rowAt H u) xs)=rows.any λr=>YK r xs
|[],[],_,_=>rfl
|[],_::_,h,_=>by cases h
|_::_,[],h,_=>by cases h
|a::as,r::rows,h,hr=>by
  rw[ar,cq,cq,MO (as:=as) (rows:=rows) (by simpa using h) λi c q h1 h2=>hr (i+1) c q (by simpa using h1) (by simpa using h2)];have:=(hr 0 a r rfl rfl).1;have e:rowAt H (.ref a)=r:=by unfold rowAt;dsimp only;rw[this]
  rw[e]
theorem Pq:∀{as:List Addr}{us:List Value},Vals (as.map V.ref) us->us=as.map Value.ref
|[],_,r=>by cases r;rfl
|a::as,_,r=>by
  cases r with
 |cons r1 r2=>cases r1;rw[Pq r2];rfl
theorem Rx(hu:X.A.units+64<cLine):OpR X (br .In) DX:=by
 intro pins s σ H x y v u Q I rx ry h;obtain⟨a,l,xs,as,rows,rfl,rfl,ha,fx,hl,len,hr,q⟩:=h;cases rx;cases ry;obtain⟨its,rv,p,hz⟩:=I.list (SqL.of hl);have eu:=Pq rv;subst eu;obtain⟨ia,ra,pa,za⟩:=I.tuple (SqT.of ha);have key:∀c r,H c=some (.tup r)->r.all Yw=true->SeqAt.EqAt X.A.in1 s (.ref c) (.ref a) (YK r xs):=λc r hc fr=>by
  by_cases e:c=a
  ·subst e;rw[ha]at hc;cases hc;rw[MP fx];exact gW _
  ·obtain⟨ic,rc,pc,zc⟩:=I.tuple (SqT.of hc);have z:=SeqAt.RcAt.tuples (A:=X.A.in1) (s:=s) (e:=λj=>eqV (r.getD j .non) (xs.getD j .non)) pc pa (by show X.A.units+1<cLine;omega) (λj h1 h2=>by
    have h1':j<r.length:=by rw[rc.length];simpa using h1
    have h2':j<xs.length:=by rw[ra.length];simpa using h2
    obtain⟨u1,e1,r1⟩:=rc.get (gE h1');obtain⟨u2,e2,r2⟩:=ra.get (gE h2');have f1:Yw r[j]=true:=bg.mp fr _ (aE h1');have f2:Yw xs[j]=true:=bg.mp fx _ (aE h2');have g1:r.getD j .non=r[j]:=by rw[aw,gE h1'];rfl
    have g2:xs.getD j .non=xs[j]:=by rw[aw,gE h2'];rfl
    have w1:ic.toArray[j]=u1:=by have:ic[j]?=some u1:=e1;rw[ak]at this;simpa using this.2
    have w2:ia.toArray[j]=u2:=by have:ia[j]?=some u2:=e2;rw[ak]at this;simpa using this.2
    rw[g1,g2,w1,w2];exact RO r1 r2 f1 f2);rw[aq,aq,<-rc.length,<-ra.length]at z;exact SeqAt.EqAt.of_refs e z
 refine SeqAt.in_listAt (λu=>YK (rowAt H u) xs) p.isList (λw hw=>?_) ⟨.bl _,H,I,rfl,?_⟩
 ·have hw':w∈as.map Value.ref:=by simpa using hw
  obtain⟨c,hc,rfl⟩:=ah.mp hw';obtain⟨i,hi⟩:=aY.mp hc;have hi':i<rows.length:=by rw[<-len];exact(ak.mp hi).1
  obtain⟨h1,h2⟩:=hr i c _ hi (gE hi');have e:rowAt H (.ref c)=rows[i]:=by unfold rowAt;dsimp only;rw[h1]
  rw[e];exact key c _ h1 h2
 ·have:(as.map Value.ref).toArray.any (λu=>YK (rowAt H u) xs)=rows.any λr=>YK r xs:=by rw[<-MO len hr];simp
  rw[this];exact q
end
end L2
namespace L2
open PySem PySem.Spec PyProof.Rows
section
variable {X:Cx}
noncomputable def K7:List V->Hp->VK->Prop:=λxs H Q=>∃x d,xs=[x]/\Is H x d/\d.showable=true/\d.depth<=64/\d.shown.length<=sizeLine/\Q (.str d.shown) H
theorem R9{k:Nat}(hr:Room k X.A):YI X (.builtin "repr") K7:=by
 intro pins s σ H xs us Q I r h;obtain⟨x,d,rfl,hd,hs,hdp,hz,q⟩:=h;have q0:=q;cases hd with
|non=>obtain⟨u,rfl,rx⟩:=vals1 r;cases rx;refine PySem.P.repr_of_none ⟨.str (PyData.none).shown,H,I.tok _,⟨s.toks,?_⟩,q⟩;simp only[PyData.shown]
|bl b=>obtain⟨u,rfl,rx⟩:=vals1 r;cases rx;refine PySem.P.repr_of_bool ⟨.str (PyData.bool b).shown,H,I.tok _,⟨s.toks,?_⟩,q⟩;simp only[PyData.shown]
|int i=>obtain⟨u,rfl,t,rfl⟩:=vals1 r;refine PySem.P.repr_of_int (by simpa[PyData.showable]using hs) ⟨.str (PyData.int i).shown,H,I.tok _,⟨s.toks,?_⟩,q⟩;simp only[PyData.shown]
|str z=>obtain⟨u,rfl,t,rfl⟩:=vals1 r;refine PySem.P.repr_of_str ⟨.str (PyData.str z).shown,H,I.tok _,⟨s.toks,?_⟩,q⟩ (by simpa only[PyData.shown]using hz);simp only[PyData.shown]
|lst e ra=>exact Nd hr pins s σ H _ us Q I r ⟨_,_,rfl,.lst e ra,hs,hdp,hz,q⟩
|tup e ra=>exact Nd hr pins s σ H _ us Q I r ⟨_,_,rfl,.tup e ra,hs,hdp,hz,q⟩
end
end L2
namespace WD
open PySem L2 PySem.Spec PyProof.Rows TB
noncomputable def szJ:Nat->Nat
|1=>2|2=>6|3=>5|_=>4
noncomputable def Qw:Nat->Nat
|1=>14|2=>80|3=>40|_=>300
noncomputable def Yr:Nat->Str
|1=>"places"|2=>"rides"|3=>"ways"|_=>"groups"
noncomputable def gJ(j:Nat):Bool:=decide (j=4)
noncomputable abbrev Kv:=List (Key×V)
noncomputable def whyJ(j:Nat)(k1:Kv)(n pp:Int)(ys:List V):V:=match j with
|1=>Yy (at_ ys 1)
|2=>K3 k1 n ys
|3=>wayW k1 ys
|_=>Ge k1 n pp ys
noncomputable def dueJ(j:Nat)(k1:Kv)(n pp:Int)(kvs:Kv)(r:Option (List V)):V:=if begR (gJ j) (szJ j) kvs r≠.non then begR (gJ j) (szJ j) kvs r else match r with
 |some ys=>whyJ j k1 n pp ys
 |none=>.str "form"
noncomputable def JV(j:Nat)(k1:Kv)(n:Int):Nat->Int->Kv->List (V×Option (List V))->Sum (Nat×V) Kv
|_,_,kvs,[]=>.inr kvs
|i,pp,kvs,(x,r)::rs=>if dueJ j k1 n pp kvs r≠.non then .inl (i,dueJ j k1 n pp kvs r)else match r with
 |some ys=>JV j k1 n (i+1) (pp+Zz ys) (putK kvs (.inr (nameOf ys)) (if j=1 then at_ ys 1 else x)) rs
 |none=>.inl (i,.str "form")
theorem VJ{j:Nat}{k1:Kv}{n pp:Int}{kvs:Kv}{r:Option (List V)}(h:begR (gJ j) (szJ j) kvs r≠.non):dueJ j k1 n pp kvs r=begR (gJ j) (szJ j) kvs r:=by unfold dueJ;rw[if_pos h]
theorem Xa{j:Nat}{k1:Kv}{n pp:Int}{kvs:Kv}{ys:List V}(h:begR (gJ j) (szJ j) kvs (some ys)=.non):dueJ j k1 n pp kvs (some ys)=whyJ j k1 n pp ys:=by unfold dueJ;rw[if_neg (λz=>z h)]
theorem VH{j:Nat}{k1:Kv}{n:Int}{i:Nat}{pp:Int}{kvs:Kv}{x:V}{r:Option (List V)}{rs:List (V×Option (List V))}(h:dueJ j k1 n pp kvs r≠.non):JV j k1 n i pp kvs ((x,r)::rs)=.inl (i,dueJ j k1 n pp kvs r):=by unfold JV;rw[if_pos h]
theorem UC{j:Nat}{k1:Kv}{n:Int}{i:Nat}{pp:Int}{kvs:Kv}{x:V}{ys:List V}{rs:List (V×Option (List V))}(h:dueJ j k1 n pp kvs (some ys)=.non):JV j k1 n i pp kvs ((x,some ys)::rs)=JV j k1 n (i+1) (pp+Zz ys) (putK kvs (.inr (nameOf ys)) (if j=1 then at_ ys 1 else x)) rs:=by
 conv=>lhs;unfold JV
 rw[if_neg (λz=>z h)]
theorem M6{g:Bool}{m:Nat}{why:List V->V}{j:Nat}{k1:Kv}{n:Int}(hg:gJ j=g)(hm:szJ j=m)(hj:j≠1)(hw:∀pp ys,whyJ j k1 n pp ys=why ys):∀(rs:List (V×Option (List V)))(i:Nat)(pp:Int)(kvs:Kv),JD g m why i kvs rs=JV j k1 n i pp kvs rs
|[],_,_,_=>rfl
|(x,r)::rs,i,pp,kvs=>by
  subst hg hm;by_cases b:begR (gJ j) (szJ j) kvs r=.non
  ·cases r with
  |none=>cases b
  |some ys=>
    rw[TX b];by_cases h:why ys=.non
    ·rw[if_neg (λz=>z h),UC (by rw[Xa b,hw];exact h),if_neg hj];exact M6 rfl rfl hj hw rs _ _ _
    ·rw[if_pos h,VH (by rw[Xa b,hw];exact h),Xa b,hw]
  ·rw[K0 b,VH (by rw[VJ b];exact b),VJ b]
theorem M8{k1:Kv}{n:Int}:∀(rs:List (V×Option (List V)))(i:Nat)(pp:Int)(kvs:Kv),Xy k1 n i pp kvs rs=JV 4 k1 n i pp kvs rs
|[],_,_,_=>rfl
|(x,r)::rs,i,pp,kvs=>by
  by_cases b:begR true 4 kvs r=.non
  ·cases r with
  |none=>cases b
  |some ys=>
    have b':begR (gJ 4) (szJ 4) kvs (some ys)=.non:=b;rw[QI b];by_cases h:Ge k1 n pp ys=.non
    ·rw[if_neg (λz=>z h),UC (by rw[Xa b'];exact h),if_neg (by decide)];exact M8 rs _ _ _
    ·rw[if_pos h,VH (by rw[Xa b'];exact h),Xa b'];rfl
  ·have b':begR (gJ 4) (szJ 4) kvs r≠.non:=b;rw[VH (by rw[VJ b'];exact b),VJ b'];unfold Xy;rw[if_pos b];rfl
theorem M7{k1:Kv}{n:Int}:∀(xs:List V)(rs:List (Option (List V)))(i:Nat)(pp:Int)(kvs:Kv),xs.length=rs.length->Jm i kvs rs=JV 1 k1 n i pp kvs (xs.zip rs)
|[],[],_,_,_,_=>rfl
|[],_::_,_,_,_,h=>by cases h
|_::_,[],_,_,_,h=>by cases h
|x::xs,r::rs,i,pp,kvs,hl=>by
  rw[gX];by_cases b:begR false 2 kvs r=.non
  ·obtain⟨ys,y,rfl,h2,h0⟩:=Dt b;have b':begR (gJ 1) (szJ 1) kvs (some ys)=.non:=b;obtain⟨x0,room,rfl⟩:=len2 h2;have hx0:x0=.str y:=h0;subst hx0;conv=>lhs;unfold Jm
   rw[if_neg (λz=>z b)];dsimp only;by_cases h:Yy room=.non
   ·rw[if_neg (λz=>z h),UC (by rw[Xa b'];exact h),if_pos rfl];exact M7 xs rs _ _ _ (by simpa using hl)
   ·rw[if_pos h,VH (by rw[Xa b'];exact h),Xa b'];rfl
  ·have b':begR (gJ 1) (szJ 1) kvs r≠.non:=b;rw[Ru b,VH (by rw[VJ b'];exact b),VJ b'];rfl
noncomputable def goJ(j:Nat)(k1:Kv)(n:Int):List V->List (Option (List V))->Sum (Nat×V) Kv:=match j with
|1=>goP
|2=>goR k1 n
|3=>goW k1
|_=>goG k1 n
theorem HN{j:Nat}(hj:j=1\/j=2\/j=3\/j=4){k1:Kv}{n:Int}{xs:List V}{rs:List (Option (List V))}(h:xs.length=rs.length):goJ j k1 n xs rs=JV j k1 n 0 0 [] (xs.zip rs):=by
 rcases hj with rfl|rfl|rfl|rfl
 ·exact M7 xs rs _ _ _ h
 ·exact M6 (j:=2) (k1:=k1) (n:=n) rfl rfl (by decide) (λ_ _=>rfl) _ _ _ _
 ·exact M6 (j:=3) (k1:=k1) (n:=n) rfl rfl (by decide) (λ_ _=>rfl) _ _ _ _
 ·exact M8 _ _ _ _
def UZ(k1:Kv)(t1:List (List V)):Prop:=∀p∈t1,valV k1 (.inr (nameOf p))=some (at_ p 1)
structure PlDict(k1:Kv)(t1:List (List V)):Prop where
 has:UZ k1 t1
 no:∀z,z∉t1.map nameOf->valV k1 (.inr z)=none
def Flat(y:V):Prop:=y=.non\/(∃i,y=.int i)\/∃z,y=.str z/\z.length<=1000
structure RowOk(j:Nat)(n:Int)(t1:List (List V))(ys:List V):Prop where
 len:ys.length=szJ j
 nm:Z8 (gJ j) (at_ ys 0)=true
 why:∀k1,(j≠1->UZ k1 t1)->∀pp,(j=4->pp+Zz ys<=300)->whyJ j k1 n pp ys=.non
 ma:j=4->0<=Zz ys
 flat:∀y∈ys,Flat y
structure RowsOk(j:Nat)(n:Int)(t1 t:List (List V)):Prop where
 nd:(t.map nameOf).Nodup
 row:∀ys∈t,RowOk j n t1 ys
 sum:j=4->(t.map Zz).sum<=300
theorem FZ{g:Bool}{v:V}(h:Z8 g v=true):∃z,v=.str z:=by unfold Z8 at h;split at h<;>(unfold K1.Uy at h;cases v<;>first|exact⟨_,rfl⟩|(exfalso;simp at h))
theorem RowOk.name{j:Nat}{n:Int}{t1:List (List V)}{ys:List V}(h:RowOk j n t1 ys):ys.getD 0 .non=.str (nameOf ys):=by obtain⟨z,e⟩:=FZ h.nm;have e':ys.getD 0 .non=.str z:=e;unfold nameOf;rw[e']
theorem Rb:∀{l:List Int},(∀x∈l,0<=x)->0<=l.sum
|[],_=>by simp
|x::l,h=>by rw[bZ];have:=h x aG;have:=Rb (l:=l) λy hy=>h y (av _ hy);omega
theorem Ts{j:Nat}{k1:Kv}{n:Int}{t1:List (List V)}(hk:j≠1->UZ k1 t1){rest:List (V×Option (List V))}:∀(t:List (List V))(xs:List V)(i:Nat)(pp:Int)(kvs:Kv),xs.length=t.length->(t.map nameOf).Nodup->(∀ys∈t,RowOk j n t1 ys)->(j=4->pp+(t.map Zz).sum<=300)->(∀ys∈t,valV kvs (.inr (nameOf ys))=none) ->∃kvs',JV j k1 n i pp kvs (xs.zip (t.map some)++rest)=JV j k1 n (i+t.length) (pp+(t.map Zz).sum) kvs' rest/\(∀z,z∉t.map nameOf->valV kvs' (.inr z)=valV kvs (.inr z))/\(j=1->UZ kvs' t)/\(∀ys∈t,valV kvs' (.inr (nameOf ys))≠none)/\(j≠1->∀(m:Nat)y x,t[m]?=some y->xs[m]?=some x->valV kvs' (.inr (nameOf y))=some x)
|[],[],i,pp,kvs,_,_,_,_,_=>⟨kvs,by simp,λ_ _=>rfl,λ_ p hp=>(by cases hp),λp hp=>(by cases hp),λ_ m y x h=>by simp at h⟩
|[],_::_,_,_,_,h,_,_,_,_=>by cases h
|_::_,[],_,_,_,h,_,_,_,_=>by cases h
|y::t,x::xs,i,pp,kvs,hl,nd,hr,hs,hn=>by
  have ry:=hr y aG;have ny:=hn y aG;have b:begR (gJ j) (szJ j) kvs (some y)=.non:=by show begV _ _ _ _=_;unfold begV;rw[if_neg (λz=>z ry.len),show Z8 (gJ j) (y.getD 0 .non)=true from ry.nm,if_neg (by decide),ry.name];rw[show ZV (.str (nameOf y)) kvs=false from by show(valV kvs _).isSome=false;rw[ny];rfl,if_neg (by decide)]
  rw[ar,bz]at nd;have ht:∀ys∈t,RowOk j n t1 ys:=λq hq=>hr q (av _ hq);have hs':j=4->pp+Zz y+(t.map Zz).sum<=300:=λe=>by have:=hs e;rw[ar,bZ]at this;omega
  have hy:j=4->pp+Zz y<=300:=λe=>by
   have:=hs' e;have:=Rb (l:=t.map Zz) λx hx=>by obtain⟨q,hq,rfl⟩:=ah.mp hx;exact(ht q hq).ma e
   omega
  have hw:whyJ j k1 n pp y=.non:=ry.why k1 hk pp hy;have yn:∀q∈t,nameOf q≠nameOf y:=λq hq e=>nd.1 (e▸ah.mpr ⟨q,hq,rfl⟩);obtain⟨kvs',e1,e2,e3,e4,e5⟩:=Ts hk (rest:=rest) t xs (i+1) (pp+Zz y) (putK kvs (.inr (nameOf y)) (if j=1 then at_ y 1 else x)) (by simpa using hl) nd.2 ht hs' (λq hq=>by rw[YU,if_neg (λe=>yn q hq (by injection e))];exact hn q (av _ hq));have eY:valV kvs' (.inr (nameOf y))=some (if j=1 then at_ y 1 else x):=by rw[e2 _ nd.1,YU,if_pos rfl]
  refine⟨kvs',?_,λz hz=>?_,λe p hp=>?_,λp hp=>?_,λnj m y' x' h1 h2=>?_⟩
  ·rw[ar,gX,List.cons_append,UC (by rw[Xa b];exact hw),e1,ar,bZ,aR];congr 1<;>omega
  ·rw[ar,ao,not_or]at hz;rw[e2 z hz.2,YU,if_neg (λe=>hz.1 (by injection e))]
  ·rcases ao.mp hp with rfl|hp
   ·rw[eY,if_pos e]
   ·exact e3 e p hp
  ·rcases ao.mp hp with rfl|hp
   ·rw[eY];exact λz=>by cases z
   ·exact e4 p hp
  ·cases m with
  |zero=>simp at h1 h2;subst h1 h2;rw[eY,if_neg nj]
  |succ m=>exact e5 nj m y' x' (by simpa using h1) (by simpa using h2)
def Sf(j:Nat)(n:Int)(t1 t:List (List V)):Prop:=t.length<=Qw j/\RowsOk j n t1 t
section
variable {j:Nat}{k1:Kv}{n:Int}{t1:List (List V)}
theorem T9(hj:j=1\/j=2\/j=3\/j=4)(hk:j≠1->UZ k1 t1){t:List (List V)}(h:Sf j n t1 t){xs:List V}(hx:xs.length=t.length):∃kvs,Lp (Qw j) (goJ j k1 n) (some (xs,t.map some))=.inr kvs/\(j=1->PlDict kvs t)/\(∀z,z∉t.map nameOf->valV kvs (.inr z)=none)/\(j≠1->∀(m:Nat)y x,t[m]?=some y->xs[m]?=some x->valV kvs (.inr (nameOf y))=some x):=by obtain⟨hl,nd,row,sum⟩:=h;obtain⟨kvs,e,e2,e3,_,e5⟩:=Ts (k1:=k1) (n:=n) hk (rest:=[]) t xs 0 0 [] hx nd row (λe=>by have:=sum e;omega) (λ_ _=>rfl);refine⟨kvs,?_,λe=>⟨e3 e,λz hz=>e2 z hz⟩,λz hz=>e2 z hz,e5⟩;unfold Lp;simp only;rw[if_neg (by omega),HN hj (by rw[hx,lm])];rw[bB]at e;rw[e];rfl
end
structure Tb where
 n:Int
 t1:List (List V)
 t2:List (List V)
 t3:List (List V)
 t4:List (List V)
noncomputable def Tb.part(T:Tb):Nat->List (List V)
|1=>T.t1|2=>T.t2|3=>T.t3|_=>T.t4
structure OkTb(T:Tb):Prop where
 n0:1<=T.n
 n1:T.n<=50
 part:∀j,j=1\/j=2\/j=3\/j=4->Sf j T.n T.t1 (T.part j)
noncomputable def prs(xs:List V)(t:List (List V)):PR:=some (xs,t.map some)
structure RwDict(k:Kv)(t:List (List V))(xs:List V):Prop where
 at_:∀(m:Nat)y x,t[m]?=some y->xs[m]?=some x->valV k (.inr (nameOf y))=some x
 no:∀z,z∉t.map nameOf->valV k (.inr z)=none
structure TbDict(T:Tb)(x2 x3 x4:List V)(k:Ks):Prop where
 p:PlDict k.1 T.t1
 r:RwDict k.2.1 T.t2 x2
 w:RwDict k.2.2.1 T.t3 x3
 g:RwDict k.2.2.2 T.t4 x4
end WD
namespace L2
open PySem PySem.Spec PyProof.Rows
structure BaseM(K:aa)(C:Addr)(m:Str)(f:Addr):Prop where
 ga:gR K (.ref C) "__getattribute__"=some (some (.builtin "type.__getattribute__"))
 rd:∃mc,PySem.W.readsIn K C mc=true/\PySem.W.findCls K (.ref C) mc m=some (.val (.ref f))
 kp:aZ K (.ref f)=true
theorem Pz{X:Cx}{CX:CXT}{k:Nat}{f C:Addr}{fd:bP}{ps:List Str}{ds:List Value}{dvs:List V}{sp:Sp}{E:XK}{m:Str}{pos apos:Pos}{e o:Expr}{es:List Expr}{t:TA}{pl:Sem Bool}(he:PE X o (tC (.ref C)))(hm:BaseM X.K C m f)(F:FnOk X.prog X.w X.K X.mg X.base CX k f fd ps sp)(hr:Room k X.A)(hb:Binds X.K fd ps ds)(hd:Vals dvs ds)(hx:Passes CX X E)(ha:PA X (e::es) t)
  (hst:aI (e::es) X.env=(false,eval e X.env)::aI es X.env:=by rfl) (hpl:(b8 pos (aI es X.env)).any (·.1)=false:=by rfl)
  (ht:eval (.Call (.Attribute o m apos) (e::es) [] pos) X.env=(do
   let ov <-eval o X.env
   ib apos.atName
   let (f,first) <-eV [ov] (fJ ov m pl)
   g9 pos f first (b8 pos (aI (e::es) X.env)) (fg pos (da [] X.env))):=by rfl):
  PE X (.Call (.Attribute o m apos) (e::es) [] pos) (G0 sp dvs E t):=by
 intro pins s σ H Q I h
 obtain⟨mc,h1,h2⟩:=hm.rd
 refine d8 (pl:=pl) (he pins s σ H (λv H1=>v=.ref C/\H1=H) I ⟨rfl,rfl⟩ |> λq=>thn q λu s1 hZ=>?_) ht;obtain⟨x,H1,I1,rx,ex,eH⟩:=hZ
 subst ex
 subst eH
 obtain rfl:u=Value.ref C:=rx
 refine PySem.W.method_cls I1.kIn hm.ga (PySem.W.cls_value I1.kIn h1 h2 rfl ?_)
 refine cv (first:=[]) (h₀:=X.base) I.ok.mod.kin hm.kp (thn (ha pos pins _ σ H1 _ (I1.tok _) h) λus s2⟨vs,H2,I2,r,q2⟩=>⟨I2.kIn,?_⟩) hst hpl
 exact MN F hr hb hd hx I2 r q2
section
variable {X:Cx}
def tCut(t:TS):TS:=λD σ H=>∃M:L2.St->Hp->Prop,t {D with nx:=M} σ H/\∀σ' H',M σ' H'->D.nx σ' H'
theorem FL{st:Stmt}{t:TS}(h:PS X st t):PS X st (tCut t):=by
 intro pins s σ H D I ⟨M,q,k⟩;refine thn (h pins s σ H _ I q) λfl s' z=>?_;cases fl with
|next=>obtain⟨σ',H',I',m⟩:=z;exact⟨σ',H',I',k _ _ m⟩
|brk=>exact z
|cont=>exact z
|ret u=>exact z
noncomputable def cstE:Expr->Option V
|.Constant (.str x) _ _=>some (.str x)
|.Constant (.int n) _ _=>some (.int n)
|.Constant .none _ _=>some .non
|_=>none
def tCs(vs:List V):TA:=λ_ H Q=>Q vs H
theorem FP{e:Expr}{v:V}(h:cstE e=some v):PE X e (tC v)/\notStar e=true:=by
 unfold cstE at h;split at h
 ·cases h;exact⟨ZE,rfl⟩
 ·cases h;exact⟨Zb,rfl⟩
 ·cases h;exact⟨ZF,rfl⟩
 ·cases h
theorem JG:∀{es:List Expr},(es.all λe=>(cstE e).isSome)=true->PA X es (tCs (es.filterMap cstE))
|[],_=>Zk
|e::es,h=>by
  rw[List.all_cons,Bool.and_eq_true]at h;obtain⟨v,hv⟩:=cM.mp h.1;obtain⟨pe,ns⟩:=FP (X:=X) hv;have:=Ze pe (JG h.2) ns;have e2:tCs ((e::es).filterMap cstE)=Yo (tC v) (tCs (es.filterMap cstE)):=by rw[cU,hv];rfl
  rw[e2];exact this
end
theorem MT{X:Cx}(hu:X.A.units+64<cLine):OpR X (br .NotEq) (rNil true X.K):=by
 intro pins s σ H x y v u Q I rx ry h;obtain⟨a,b,xs,rfl,rfl,ha,hb,q⟩:=h;cases rx;cases ry;obtain⟨its,rv,p1,_⟩:=I.list ha;obtain⟨_,its2,n2,rv2,_,e2⟩:=I.lstM hb;have h2:=rv2.zero;subst h2;have l2:s.heap.IsList b #[]:=⟨_,e2,rfl,_,rfl⟩;have hl:=rv.length;by_cases hx:xs=[]
 ·subst hx;have h1:=rv.zero;subst h1;refine SeqAt.RcNeAt.lists (A:=X.A) (s:=s) (e:=λ_=>true) p1.isList l2 rfl (by omega) (λj h1 h2=>by simp at h2) X.prog X.w X.xe (EP X pins σ Q) ⟨.bl false,H,I,rfl,?_⟩;simpa using q
 ·refine SeqAt.RcNeAt.lists_lengths (A:=X.A) (s:=s) p1.isList l2 ?_ (by omega) X.prog X.w X.xe (EP X pins σ Q) ⟨.bl true,H,I,rfl,?_⟩
  ·simpa using λz=>hx (by subst z;simpa using hl)
  ·simpa[hx]using q
end L2
namespace WD
open PySem L2 PySem.Spec PyProof.Rows TB K1
def Nx(t:Str):Prop:=(codes t).length<=8/\(∃c r,codes t=c::r/\c∈LET)/\∀c∈codes t,c∈LET++FIG
theorem Ly{t:Str}(h:Nx t):Z8 false (.str t)=true:=by
 obtain⟨h2,⟨c,r,e,hc⟩,h3⟩:=h;show K1.Jn 8 (K1.codes K1.tNAME) (codes t)=true;unfold K1.Jn K1.YH K1.lenB;rw[K1.AZ];simp only[Bool.and_eq_true,decide_eq_true_eq,bg];refine⟨⟨⟨by rw[e,aR];omega,by omega⟩,λd hd=>?_⟩,?_⟩
 ·exact bh _ (h3 d hd)
 ·rw[e];exact hc
noncomputable def sufs:List Str:=[".7","",".10"]
theorem Rc:∀s∈sufs,(codes s).length<=3/\(∀c∈codes s,c∈LET++K1.FIG++[46])/\((codes s).head?.map λc=>decide (c=46))≠some false:=by decide +kernel
theorem HP{t s:Str}(h:Nx t)(hs:s∈sufs):Z8 true (.str (t++s))=true:=by
 obtain⟨h2,⟨c,r,e,hc⟩,h3⟩:=h;obtain⟨s1,s2,_⟩:=Rc s hs;show K1.Jn 12 (K1.codes K1.tGROUP) (codes (t++s))=true;unfold K1.Jn K1.YH K1.lenB;rw[K1.HZ,YF];simp only[Bool.and_eq_true,decide_eq_true_eq,bg,aj];refine⟨⟨⟨by rw[e,aR];omega,by omega⟩,λd hd=>?_⟩,?_⟩
 ·rcases aD.mp hd with hd|hd
  ·exact bh _ (h3 d hd)
  ·exact s2 d hd
 ·rw[e];exact hc
theorem HU:46∉LET++FIG:=by decide +kernel
theorem N9{t s:Str}(h:Nx t)(hs:s∈sufs):(codes (t++s)).takeWhile (λc=>decide (c≠46))=codes t:=by
 obtain⟨_,_,h3⟩:=h;obtain⟨_,_,s3⟩:=Rc s hs;rw[YF,List.takeWhile_append_of_pos (p:=λc=>decide (c≠46)) (λc hc=>decide_eq_true (λ(z:c=46)=>HU (z▸h3 c hc)))];cases e:codes s with
|nil=>simp
|cons c r=>
  rw[e]at s3;have:c=46:=by simpa using s3
  rw[List.takeWhile_cons_of_neg (by simp[this]),bB]
theorem Du{t t' s s':Str}(h:Nx t)(h':Nx t')(hs:s∈sufs)(hs':s'∈sufs)(e:t++s=t'++s'):t=t':=by have:=congrArg (λz=>(codes z).takeWhile (λc=>decide (c≠46))) e;simp only[N9 h hs,N9 h' hs']at this;exact WE this
noncomputable def wdx:List Str:=["ride","home","turns","place","way","group","to","a","out","wait","walk","turn","ab","b"]
noncomputable def wdxFrom(a n:Nat):List Str:=(aV n).map λk=>wdx.getD ((a+3*k) % 14) ""
theorem Fn:∀a<14,∀n<15,(wdxFrom a n).Nodup:=by decide +kernel
theorem Fm:∀t∈wdx,(codes t).length<=8/\((codes t).head?.map λc=>decide (c∈LET))=some true/\∀c∈codes t,c∈LET++FIG:=by decide +kernel
theorem Q4(a n:Nat):∀t∈wdxFrom a n,Nx t:=λt ht=>by
 obtain⟨k,_,rfl⟩:=ah.mp ht;have:(a+3*k) % 14<wdx.length:=Nat.mod_lt _ (by decide);rw[aw,gE this];obtain⟨h1,h2,h3⟩:=Fm _ (aE this);refine⟨h1,?_,h3⟩;show ∃c r,codes wdx[(a+3*k) % 14]=c::r/\c∈LET;generalize codes wdx[(a+3*k) % 14]=l at h2;cases l with
|nil=>cases h2
|cons c r=>exact⟨c,r,rfl,by simpa using h2⟩
theorem Fo(a i:Nat):(wdx.map V.str)[(a+3*i) % 14]?=some (.str (wdx.getD ((a+3*i) % 14) "")):=by have:(a+3*i) % 14<wdx.length:=Nat.mod_lt _ (by decide);rw[aJ,aw,gE this];rfl
noncomputable def sg7(f k:Nat):Nat:=LET.getD ((f+7*k) % 26) 0
theorem SI(f k:Nat):sg7 f k∈LET:=by have:(f+7*k) % 26<LET.length:=Nat.mod_lt _ (by decide);unfold sg7;rw[aw,gE this];exact aE this
theorem FC(f i:Nat):(codes K1.tLET)[(f+7*i) % 26]?=some (sg7 f i):=by have:(f+7*i) % 26<LET.length:=Nat.mod_lt _ (by decide);rw[show codes K1.tLET=LET from K1.cLET,sg7,aw,gE this];rfl
theorem FA:∀f<26,((aV 26).map (sg7 f)).Nodup:=by decide +kernel
theorem DQ{f x y:Nat}(hf:f<26)(hx:x<26)(hy:y<26)(e:sg7 f x=sg7 f y):x=y:=by
 have h1:((aV 26).map (sg7 f))[x]'(by simpa using hx)=((aV 26).map (sg7 f))[y]'(by simpa using hy):=by simpa using e
 exact(iz (FA f hf)).mp h1
noncomputable def end9(k:Nat):Str:=Txt.slice "z9" none (some ((k % 3:Nat):Int))
theorem WG(k:Nat):codes (end9 k)=[122,57].take (k % 3):=by unfold end9;rw[M9 _ _ (by omega)];rfl
noncomputable def put7(base:Str)(a f k:Nat):Str:=put base a (sg7 f k)++end9 k
noncomputable def puts7(base:Str)(a f n:Nat):List Str:=(aV n).map (put7 base a f)
theorem Uh{base:Str}{a:Nat}(h:a<=base.length)(f k:Nat):codes (put7 base a f k)=(codes base).take a++(sg7 f k::((codes base).drop a++[122,57].take (k % 3))):=by unfold put7;rw[YF,WB h,WG];simp
theorem K8{base:Str}{sz:Nat}(hb:Bs sz base)(hs:sz<=5){a:Nat}(ha:a<=sz)(f n:Nat):∀t∈puts7 base a f n,Nx t:=λt ht=>by
 obtain⟨k,_,rfl⟩:=ah.mp ht;have hl:base.length=sz:=by rw[<-ZX];exact hb.1
 have m3:k % 3<3:=Nat.mod_lt _ (by decide);have hall:∀c∈codes base,c∈LET++FIG:=λc hc=>bh _ (hb.2 c hc);have hz:∀c∈([122,57]:List Nat),c∈LET++FIG:=by decide +kernel
 unfold Nx;rw[Uh (by omega)];refine⟨?_,?_,λc hc=>?_⟩
 ·simp only[aj,aR,aN,bD,hb.1,eQ];omega
 ·cases e:(codes base).take a with
 |nil=>exact⟨_,_,rfl,SI f k⟩
 |cons c r=>exact⟨c,_,rfl,hb.2 c (cL (e▸aG))⟩
 ·simp only[aD,ao]at hc;rcases hc with hc|rfl|hc|hc
  ·exact hall c (cL hc)
  ·exact bh _ (SI f k)
  ·exact hall c (gv hc)
  ·exact hz c (cL hc)
theorem K9{base:Str}{sz:Nat}(hb:Bs sz base){a:Nat}(ha:a<=sz){f n:Nat}(hf:f<26)(hn:n<=26):(puts7 base a f n).Nodup:=by
 have hl:base.length=sz:=by rw[<-ZX];exact hb.1
 refine nodup_map_on fP λx hx y hy e=>?_;have e1:=congrArg codes e;rw[Uh (by omega),Uh (by omega)]at e1;have:=List.append_cancel_left e1;injection this with e2 _;rw[bp]at hx hy;exact DQ hf (by omega) (by omega) e2
end WD
namespace WD
open PySem L2 PySem.Spec PyProof.Rows TB
def Pd:Sp:=λvs H Q _=>∃(b:Addr)(n:Int),vs=[.ref b,.int n]/\ZA H b/\0<=n/\n<=20/\∀H' l(ts:List Str),ZA H' b->Zj b H H'->H l=none->H' l=some (.lst (ts.map V.str))->l≠b->(ts.length:Int)=n->ts.Nodup->(∀t∈ts,Nx t)->Q (.ref l) H'
theorem modN{x:Int}{k n:Nat}(h:x=k):x % (n:Int)=((k % n:Nat):Int):=by rw[h];rfl
theorem Ab{r:Int}(h0:0<=r)(h1:r<26):∃c,atI (codes K1.tLET) r=some c/\c∈LET:=by obtain⟨c,h,m⟩:=at_of (xs:=codes K1.tLET) h0 (by rw[show codes K1.tLET=LET from K1.cLET];exact h1);rw[show codes K1.tLET=LET from K1.cLET]at m;exact⟨c,h,m⟩
theorem PV{α:Type}{xs:List α}{i:Int}{j:Nat}{v:α}(e:i=(j:Int))(h:xs[j]?=some v):atI xs i=some v:=by rw[e];exact ZD h
theorem WY{b:Addr}{H H1:Hp}{i:Nat}{ts:List Str}{c:Nat}(e:ts.length=i)(h:∀t∈ts,Bs 1 t)(hc:c∈LET):(ts++[(⟨#[c]⟩:Str)]).length=i+1/\∀t∈ts++[(⟨#[c]⟩:Str)],Bs 1 t:=by
 refine⟨by simp[e],λt ht=>?_⟩;rcases aD.mp ht with ht|ht
 ·exact h t ht
 ·rw[aB]at ht;subst ht;exact⟨rfl,λd hd=>by rw[aB.mp hd];exact hc⟩
theorem Kh:∀(ts:List Str),(∀t∈ts,Bs 1 t)->(ts.map (·.length)).sum=ts.length
|[],_=>rfl
|t::r,h=>by have h1:=(h t aG).1;rw[ZX]at h1;rw[ar,bZ,h1,Kh r λu hu=>h u (av _ hu),aR];omega
theorem YO{b l:Addr}{H H1:Hp}(s:Zj b H H1)(hl:H1 l=none)(n:l≠b):H l=none:=by
 cases e:H l with
|none=>rfl
|some o=>rw[s _ _ e n]at hl;cases hl
section
variable {P:Program}{w:World}{K:aa}{mg:Str->Option Value}{base:Heap}
theorem Z2:FnScope [q_b,"_law_many","_law_letters","_law_words","_law_at","_law_k","_law_base","_law_first","_law_names_here","_law_sign"] [q_b,"_law_many"] (Zc T.f__law_names):=scO
noncomputable def Vp:Scope:=csx [(".0",.local),("_law_k",.local),("_law_at",.free),("_law_words",.free)]
theorem US:CompScope Vp (Zc T.f__law_names):=⟨rfl,by decide +kernel,by decide +kernel,by decide +kernel⟩
theorem UU:(["_law_k","_law_at","_law_words"]:List Str).Nodup:=by decide +kernel
theorem UT:CompNames [q_b,"_law_many","_law_letters","_law_words","_law_at","_law_k","_law_base","_law_first","_law_names_here","_law_sign"] Vp ["_law_k","_law_at","_law_words"] [none,some 4,some 3]:=.mk' (by decide +kernel)
noncomputable def Vo:Scope:=csx [(".0",.local),("_law_k",.local),("_law_take",.globalImplicit),(q_b,.free),("_law_letters",.free)]
theorem UP:CompScope Vo (Zc T.f__law_names):=⟨rfl,by decide +kernel,by decide +kernel,by decide +kernel⟩
theorem UR:(["_law_k",q_b,"_law_letters"]:List Str).Nodup:=by decide +kernel
theorem UQ:CompNames [q_b,"_law_many","_law_letters","_law_words","_law_at","_law_k","_law_base","_law_first","_law_names_here","_law_sign"] Vo ["_law_k",q_b,"_law_letters"] [none,some 0,some 2]:=.mk' (by decide +kernel)
theorem WL(B:∀x∈Blts,mg x=none)(CT:Can P w K mg base 1 "_law_take" [q_b,"_law_many"] Y1)(D:Df K mg "_law_names" T.f__law_names [q_b,"_law_many"]):Can P w K mg base 2 "_law_names" [q_b,"_law_many"] Pd:=by
 refine D.cn Z2 λf cdv A outer s H vs Q E hr h=>?_;obtain⟨b,n,rfl,hb,hn1,hn2,k⟩:=h;have hsz:n.toNat<=sizeLine:=Nat.le_trans (by omega:n.toNat<=1000) (by decide);refine' ⟨_,(@Za _ _ _ _ _ ?h6 (@Za _ _ _ _ _ ?h7 (@Za _ _ _ _ _ ?h8 (@Za _ _ _ _ _ ?h9 (@Za _ _ _ _ _ ?h10 (@Za _ _ _ _ _ ?h11 (@Za _ _ _ _ _ ?h12 (@Za _ _ _ _ _ ?h13 (@Zd _ _ _ ?h14))))))))),?rd⟩;case' h14=>refine' (Zl (pv 8))
 case' h13=>refine' (Yc aT rfl (YD rfl (bm B) (@pa1 _ _ _ (pv 1) (by rfl))) (nmT 5 Z2.nd) (@Za _ _ _ _ _ ?h4 (@Zd _ _ _ ?h5)))
 case' h12=>refine' (@st _ _ _ _ 8 _ _ Z2.nd ?h3 (by rfl) (by exact aO rfl) (by rfl) (by exact .inl rfl))
 case' h11=>refine' (@st _ _ _ _ 7 _ _ Z2.nd (cn CT hr (@pa2 _ _ _ _ _ (pv 0) Zb (by rfl))) (by rfl) (by exact aO rfl) (by rfl) (by exact .inl rfl))
 case' h10=>refine' (@Yn _ _ 4 _ _ _ _ Z2.nd (by rfl) (by exact dC rfl) (cn CT hr (@pa2 _ _ _ _ _ (pv 0) (Zo ZI (Zv PQ rfl (bm B) ba (@pa1 _ _ _ (pv 6) (by rfl))) Zb) (by rfl))) (by rfl) (by exact aO rfl))
 case' h9=>refine' (@st _ _ _ _ 6 _ _ Z2.nd (MS PySem.F.plainAttrs_str PySem.F.slot_str_join PySem.F.type_str_join En ZE (@pa1 _ _ _ (Z0 rfl UP UQ (YD rfl (bm B) (@pa1 _ _ _ (cn CT hr (@pa2 _ _ _ _ _ (pv 0) Zb (by rfl))) (by rfl))) (λC s H ex pn=>(nmT 0 UR)) (λC s H ex pn=>Yp) (λC s H ex pn=>(Yg PK (pv 2) (cn CT hr (Ze (pv 1) (Ze Zb Zk))) (λ_ _=>rfl)))) (by rfl))) (by rfl) (by exact aO rfl) (by rfl) (by exact .inl rfl))
 case' h8=>refine' (FL (@ZG _ _ _ _ _ _ _ _ (PW.pt (U8 (@Zt _ _ _ _ _ _ _ _ SW (pv 1) Zb (ZC _)) (VA (@Zt _ _ _ _ _ _ _ _ Xw (cn CT hr (@pa2 _ _ _ _ _ (pv 0) Zb (by rfl))) Zb (ZC _))))) (@Za _ _ _ _ _ ?h1 (@Zd _ _ _ ?h2)) Zp))
 case' h7=>refine' (@Yn _ _ 3 _ _ _ _ Z2.nd (by rfl) (by exact dC rfl) (@Zy _ _ _ _ (@JG _ _ (by decide +kernel))) (by rfl) (by exact aO rfl))
 case' h6=>refine' (@Yn _ _ 2 _ _ _ _ Z2.nd (by rfl) (by exact dC rfl) ZE (by rfl) (by exact aO rfl))
 case' h5=>refine' (Z7 (MS b6 dN dM VF (pv 8) (@pa1 _ _ _ (Zo JK (Zo JK (Zo JK (Xd Rj (pv 6) XO (XN (pv 4))) (pv 9)) (Xd Rj (pv 6) (XN (pv 4)) XO)) (Xd Rj ZE XO (XN (Zo Xi (pv 5) Zb)))) (by rfl))))
 case' h4=>refine' (@st _ _ _ _ 9 _ _ Z2.nd (Yg PK (pv 2) (Zo Xi (Zo ZI (pv 7) (Zo JJ Zb (pv 5))) Zb) (λ_ _=>rfl)) (by rfl) (by exact aO rfl) (by rfl) (by exact .inl rfl))
 case' h3=>refine' (@Zy _ _ _ _ Zk)
 case' h2=>refine' (Zl (Z0 rfl US UT (YD rfl (bm B) (@pa1 _ _ _ (pv 1) (by rfl))) (λC s H ex pn=>(nmT 0 UU)) (λC s H ex pn=>Yp) (λC s H ex pn=>(il K (pv 2) (Zo Xi (Zo ZI (pv 1) (Zo JJ Zb (pv 0))) Zb)))))
 case' h1=>refine' (@Yn _ _ 4 _ _ _ _ Z2.nd (by rfl) (by exact dC rfl) (cn CT hr (@pa2 _ _ _ _ _ (pv 0) Zb (by rfl))) (by rfl) (by exact aO rfl))
 case' rd=>
 refine⟨zl,λl hl=>?_⟩;have nlb:=hb.ne hl;have e0:upd H l (.lst (wdx.map V.str)) l=some (.lst (wdx.map V.str)):=Zf;have B0:ZA (upd H l (.lst (wdx.map V.str))) b:=hb.new hl;have S0:Zj b H (upd H l (.lst (wdx.map V.str))):=(Zj.refl b H).new' hl;show tSeq _ _ _ _ (upd H l (.lst (wdx.map V.str)));generalize upd H l (.lst (wdx.map V.str))=H0 at e0 B0 S0 ⊢;refine⟨λσ' H'=>ZA H' b/\Zj b H H'/\σ'=[some (.ref b),some (.int n),some (.str K1.tLET),some (.ref l),none,none,none,none,none,none],?_,?_⟩
 ·refine⟨_,rfl,_,_,rfl,rfl,_,rfl,?_⟩;refine ite2 (λe15=>?_) (λ_=>?_)
  ·refine tkC B0 (λr H1 h0 h1 B1 S1=>?_);refine⟨rfl,_,rfl,?_⟩;refine ite2 (λ_=>?_) (λ_=>⟨B1,S0.trans S1,rfl⟩);have hn15:n<15:=of_decide_eq_true e15;refine tkC B1 (λr2 H2 h02 h12 B2 S2=>?_);have hw:H2 l=some (.lst (wdx.map V.str)):=S2 _ _ (S1 _ _ e0 nlb) nlb;have S02:=(S0.trans S1).trans S2;refine⟨_,rfl,n,rfl,by omega,by omega,YY (J:=Itr 0 n.toNat) n.toNat hsz
    (λi ys τ H'=>H'=H2/\ys=(wdxFrom r2.toNat i).map V.str/\∃v,τ=[v,some (.int r2),some (.ref l)]) ⟨rfl,rfl,none,rfl⟩ (λi ys τ H' p=>?_) (λi ys τ H' hi p=>hi) (λys τ H' p=>Nat.le_refl _) (λi ys τ H' x' H3 hi p yl=>?_) (λys τ H' p q hq=>?_)⟩
   ·obtain⟨_,rfl,_⟩:=p;simp[wdxFrom]
   ·obtain⟨rfl,rfl,v,rfl⟩:=p;obtain⟨rfl,rfl⟩:=yl;refine⟨_,rfl,_,rfl,_,rfl,_,_,rfl,rfl,.inl ⟨by decide,by decide⟩,_,_,rfl,rfl,_,_,rfl,rfl,(by show(0:Int)<14;decide),l,_,_,_,rfl,rfl,SqL.of hw,PV (j:=(r2.toNat+3*i) % 14) (modN (n:=14) (by omega)) (Fo _ _),rfl,?_,_,rfl⟩;simp[wdxFrom,bV]
   ·obtain⟨rfl,rfl,v,rfl⟩:=p;exact k _ q _ (B2.new hq) (S02.new' hq) (YO S02 hq (B2.ne hq)) Zf (B2.ne hq) (by simp[wdxFrom];omega) (Fn _ (by omega) _ (by omega)) (Q4 _ _)
  ·exact⟨B0,S0,rfl⟩
 ·intro σ' H1 hM;obtain⟨B1,S1,rfl⟩:=hM;clear e0 B0 S0;refine⟨rfl,tkC B1 (λsz H2 h02 h12 B2 S2=>?_)⟩;have S02:=S1.trans S2;refine⟨sz,rfl,by omega,by omega,YY (J:=Itr 0 sz.toNat) sz.toNat (Nat.le_trans (by omega:sz.toNat<=8) (by decide))
    (λi ys τ H'=>ZA H' b/\Zj b H H'/\(∃ts:List Str,ys=ts.map V.str/\ts.length=i/\∀t∈ts,Bs 1 t)/\∃v,τ=[v,some (.ref b),some (.str K1.tLET)]) ⟨B2,S02,⟨[],rfl,rfl,by simp⟩,none,rfl⟩ (λi ys τ H' p=>?_) (λi ys τ H' hi p=>hi) (λys τ H' p=>Nat.le_refl _) (λi ys τ H' x' H3 hi p yl=>?_) (λys τ H' p q hq=>?_)⟩
  ·obtain⟨_,_,⟨ts,rfl,e,_⟩,_⟩:=p;rw[lm,e];exact Nat.le_refl _
  ·obtain⟨bx,sm,⟨ts,rfl,e,ho⟩,v,rfl⟩:=p;obtain⟨rfl,rfl⟩:=yl;refine⟨_,rfl,tkC bx (λr4 H4 h04 h14 B4 S4=>?_)⟩;obtain⟨c,hat,hc⟩:=Ab h04 h14;obtain⟨g1,g2⟩:=WY (b:=b) (H:=H) (H1:=H) e ho hc;exact⟨_,r4,c,rfl,rfl,by decide +kernel,hat,B4,sm.trans S4,⟨ts++[⟨#[c]⟩],by rw[aL];rfl,g1,g2⟩,_,rfl⟩
  ·obtain⟨bx,sm,⟨ts,rfl,e,ho⟩,v,rfl⟩:=p;refine⟨_,q,ts,rfl,rfl,SqL.of Zf,?_,?_⟩
   ·rw[Kh _ ho,e];show sz.toNat+sz.toNat*0<=16777216;omega
   have hbs:Bs ts.length (Txt.join (Str.ofString "") ts):=Bs.join ho;rw[e]at hbs;have hl8:(Txt.join (Str.ofString "") ts).length=sz.toNat:=by rw[<-ZX];exact hbs.1
   have B3:=bx.new hq (o:=.lst (ts.map V.str));have S3:=sm.new' hq (o:=.lst (ts.map V.str));generalize upd H' q (.lst (ts.map V.str))=H3 at B3 S3 ⊢;clear bx sm hq;generalize Txt.join (Str.ofString "") ts=bs at hbs hl8 ⊢;dsimp only[Zq,ay];have z1:(100:Nat)<=sizeLine:=by decide
   refine⟨_,rfl,_,rfl,_,rfl,by omega,_,_,rfl,rfl,b,_,rfl,B3,?_,Yj ?_ ?_,λat_ H4 h03 h13 B4 S4=>?_⟩
   ·rw[hl8];omega
   ·rw[hl8];omega
   ·rw[hl8];omega
   have S04:=S3.trans S4;refine tkC B4 (λfi H5 h05 h15 B5 S5=>?_);have S05:=S04.trans S5;refine⟨Nat.zero_le _,λl2 hl2=>?_⟩;have nl2:=B5.ne hl2;have n0:=YO S05 hl2 nl2;dsimp only[Zq,ay];refine⟨_,rfl,n,rfl,by omega,by omega,?_⟩;refine YC (J:=Itr 0 n.toNat) n.toNat (λi σ H'=>ZA H' b/\Zj b H H'/\H' l2=some (.lst ((puts7 bs at_.toNat fi.toNat i).map V.str))/\∃o5 o9,σ=[some (.ref b),some (.int n),some (.str K1.tLET),some (.ref l),some (.int at_),o5,some (.str bs),some (.int fi),some (.ref l2),o9]) ⟨B5.new hl2,S05.new' hl2,Zf,_,_,rfl⟩ (λi σ H' hi q=>hi) (λσ H' q=>Nat.le_refl _) (λi σ H' v H6 hi q yl=>?_) (λσ H' q=>?_)
   ·obtain⟨bx,sm,el,o5,o9,rfl⟩:=q;obtain⟨rfl,rfl⟩:=yl;dsimp only[Zq,ay];refine td λD' hdd=>?_;refine⟨_,rfl,_,rfl,_,rfl,_,_,rfl,rfl,.inl ⟨by decide,by decide⟩,_,_,rfl,rfl,_,_,rfl,rfl,(by show(0:Int)<26;decide),_,_,_,rfl,rfl,by decide +kernel,PV (j:=(fi.toNat+7*i) % 26) (modN (n:=26) (by omega)) (FC _ _),?_⟩;have e1:=Txt.slice_le bs none (some at_);have e2:=Txt.slice_le bs (some at_) none;have e3:=Txt.slice_le "z9" none (some ((0+(i:Int)) % 3));have e4:("z9":Str).length=2:=by decide +kernel
    refine⟨_,rfl,.inl ⟨rfl,_,SqL.of el⟩,?_⟩;refine⟨_,rfl,_,rfl,_,rfl,_,rfl,by omega,_,rfl,_,_,rfl,rfl,?_,_,rfl,_,rfl,_,rfl,_,rfl,by omega,_,_,rfl,rfl,?_,_,rfl,_,_,rfl,rfl,(by show(0:Int)<3;decide),_,rfl,_,rfl,by omega,_,_,rfl,rfl,?_,?_⟩
    ·show _+1<=_;omega
    ·rw[Str.length_append];show _+1+_<=_;omega
    ·rw[Str.length_append,Str.length_append];show _+1+_+_<=_;omega
    have ev:Txt.slice bs none (some at_)++{cps:=#[sg7 fi.toNat i]}++Txt.slice bs (some at_) none++Txt.slice (Str.ofString "z9") none (some ((0+(i:Int)) % 3))=put7 bs at_.toNat fi.toNat i:=by
     have e5:at_=((at_.toNat:Nat):Int):=by omega
     have e6:(0+(i:Int)) % 3=((i % 3:Nat):Int):=by omega
     rw[e6,put7,put,end9,<-e5]
    rw[ev];refine⟨l2,_,_,rfl,rfl,el,Nat.lt_of_le_of_lt (by rw[lm];show(puts7 bs at_.toNat fi.toNat i).length<=99;simp[puts7];omega) z1,?_⟩;refine hdd _ _ ⟨ZA.same_ne bx nl2,ND sm S05 nl2 hl2,?_,_,_,rfl⟩;rw[Zf];simp[puts7,bV]
   ·obtain⟨bx,sm,el,o5,o9,rfl⟩:=q;refine⟨_,rfl,?_⟩;exact k _ l2 _ bx sm n0 el nl2 (by simp[puts7];omega) (K9 hbs (by omega) (by omega) (by omega)) (K8 hbs (by omega) (by omega) _ _)
def Ph(K:aa):Sp:=λvs H Q _=>∃(a:Addr)(ns:List Int)(k:Nat),vs=[.ref a,.int k]/\SqL K H a (ns.map V.int)/\ns.length<=1000/\k<=1000/\∀c:Int,Q (.int c) H
theorem Tr{ns:List Int}{i:Int}(h0:0<=i)(h1:i<ns.length):∃c,atI (ns.map V.int) i=some (.int c):=by obtain⟨v,h,m⟩:=at_of (xs:=ns.map V.int) h0 (by rw[lm];exact h1);obtain⟨c,_,rfl⟩:=ah.mp m;exact⟨c,h⟩
theorem Qe:FnScope ["_law_script","_law_k"] ["_law_script","_law_k"] (Zc T.f__law_cell):=scO
theorem Dp(B:∀x∈Blts,mg x=none)(D:Df K mg "_law_cell" T.f__law_cell ["_law_script","_law_k"]):Can P w K mg base 1 "_law_cell" ["_law_script","_law_k"] (Ph K):=by
 refine D.cn Qe λf cdv A outer s H vs Q E hr h=>?_;obtain⟨a,ns,k,rfl,hS,hl,hk,q⟩:=h;refine' ⟨_,(@Za _ _ _ _ _ ?h5 (@Za _ _ _ _ _ ?h6 (@Zd _ _ _ ?h7))),?rd⟩;case' h7=>refine' (Zl (Zo ZI (Zo PD ?h4 (Zo ZI (pv 1) Zb)) (Zo JJ Zb (pv 1))))
 case' h6=>refine' (@ZG _ _ _ _ _ _ _ _ (@Zt _ _ _ _ _ _ _ _ Xw (Zv (r:=rLen K) Z1 rfl (bm B) ba (@pa1 _ _ _ (pv 0) (by rfl))) Zb (ZC _)) (@Zd _ _ _ ?h3) Zp)
 case' h5=>refine' (@ZG _ _ _ _ _ _ _ _ (@Zt _ _ _ _ _ _ _ _ SW (pv 1) (Zv (r:=rLen K) Z1 rfl (bm B) ba (@pa1 _ _ _ (pv 0) (by rfl))) (ZC _)) (@Zd _ _ _ ?h2) Zp)
 case' h4=>refine' (@il _ _ _ _ _ _ K (pv 0) (Zo Xi (pv 1) (Zv (r:=rLen K) Z1 rfl (bm B) ba (@pa1 _ _ _ (pv 0) (by rfl)))) (by rfl) (by exact λ_ _=>rfl))
 case' h3=>refine' (Zl (Zo ZI (Zo JJ Zb (pv 1)) Zb))
 case' h2=>refine' (Zl ?h1)
 case' h1=>refine' (@il _ _ _ _ _ _ K (pv 0) (pv 1) (by rfl) (by exact λ_ _=>rfl))
 case' rd=>
 refine⟨_,rfl,_,rfl,a,_,rfl,.inl hS,_,_,rfl,rfl,_,rfl,?_⟩;refine ite2 (λe=>?_) (λe=>?_)
 ·have hlt:(k:Int)<ns.length:=by have:=of_decide_eq_true e;rw[lm]at this;exact this
  obtain⟨c,hc⟩:=Tr (ns:=ns) (i:=k) (by omega) hlt;exact⟨_,rfl,_,rfl,a,_,_,_,rfl,rfl,hS,hc,q c⟩
 ·refine⟨_,rfl,a,_,rfl,.inl hS,rfl,_,rfl,?_⟩;refine ite2 (λe2=>?_) (λe2=>?_)
  ·exact⟨_,rfl,_,_,rfl,rfl,.inl ⟨by decide,by decide⟩,_,_,rfl,rfl,q _⟩
  ·have hl0:ns.length≠0:=λz=>by rw[lm,z]at e2;exact e2 (decide_eq_true rfl)
   have m0:0<=(k:Int) % ns.length:=Int.emod_nonneg _ (by omega);have m1:(k:Int) % ns.length<ns.length:=Int.emod_lt_of_pos _ (by omega);obtain⟨c,hc⟩:=Tr (ns:=ns) m0 m1;refine⟨_,rfl,_,rfl,_,rfl,a,_,rfl,.inl hS,_,_,rfl,rfl,(by rw[lm];omega),a,_,_,_,rfl,rfl,hS,(by rw[lm];exact hc),_,rfl,_,_,rfl,rfl,_,_,rfl,rfl,⟨by omega,by omega⟩,_,rfl,_,_,rfl,rfl,.inl ⟨by decide,by decide⟩,_,_,rfl,rfl,q _⟩
end
end WD
namespace L2
open PySem PySem.Spec PyProof.Rows
theorem LZ(xs:List V){i:Int}(h0:0<=i):cutV xs none (some i)=xs.take i.toNat:=by
 obtain⟨n,rfl⟩:=Int.eq_ofNat_of_zero_le h0;show(xs.drop 0).take (HT.sIx xs.length xs.length (some (n:Int))-0)=_;rw[HT.sIx_nat,gm,Nat.sub_zero,Int.toNat_natCast];by_cases h:n<=xs.length
 ·rw[Nat.min_eq_left h]
 ·rw[Nat.min_eq_right (by omega),aX (Nat.le_refl _),aX (by omega)]
theorem QU(xs:List V){i:Int}(h0:0<=i):cutV xs (some i) none=xs.drop i.toNat:=by
 obtain⟨n,rfl⟩:=Int.eq_ofNat_of_zero_le h0;show(xs.drop (HT.sIx xs.length 0 (some (n:Int)))).take (xs.length-HT.sIx xs.length 0 (some (n:Int)))=_;rw[HT.sIx_nat,Int.toNat_natCast];by_cases h:n<=xs.length
 ·rw[Nat.min_eq_left h,aX (by rw[bD];exact Nat.le_refl _)]
 ·rw[Nat.min_eq_right (by omega),d9 (Nat.le_refl _),d9 (by omega),List.take_nil]
theorem Dv{c:Bool}{x y:Int}:atI [V.int x,.int y] (if c=true then 1 else 0)=some (.int (if c=true then y else x)):=by
 cases c
 ·exact ZD (j:=0) rfl
 ·exact ZD (j:=1) rfl
end L2
namespace WD
open PySem L2 PySem.Spec PyProof.Rows TB
theorem Y8.app{b:Addr}{H:Hp}{l:Addr}{rows:List (List V)}(h:Y8 b H l rows):∃xs:List V,H l=some (.lst xs)/\xs.length=rows.length/\∀q row,H q=none->q≠b->Y8 b (upd (upd H q (.tup row)) l (.lst (xs++[.ref q]))) l (rows++[row]):=by
 obtain⟨n,as,e,hl,r⟩:=h;refine⟨_,e,by rw[lm,hl],λq row hq nq=>⟨n,as++[q],?_,by simp[hl],λi a r' h1 h2=>?_⟩⟩
 ·rw[Zf,aL];rfl
 ·have nl:q≠l:=λz=>by rw[z,e]at hq;cases hq
  rcases Nat.lt_or_ge i as.length with hi|hi
  ·rw[a_ hi]at h1;rw[a_ (by omega)]at h2;obtain⟨x,y⟩:=r i a r' h1 h2;refine⟨x,?_⟩;rw[Zg (ne_of y e (λz=>nomatch z)),Zg (Zi y hq)];exact y
  ·rw[a6 hi]at h1;rw[a6 (by omega)]at h2;have hi0:i-as.length=0:=by
    rcases Nat.eq_zero_or_pos (i-as.length)with z|z
    ·exact z
    ·rw[de (by simp;omega)]at h1;cases h1
   rw[hi0]at h1;rw[<-hl,hi0]at h2;cases h1;cases h2;refine⟨nq,?_⟩;rw[Zg nl];exact Zf
theorem KZ{b:Addr}{H H':Hp}{l l':Addr}{rows:List (List V)}{n:Nat}(h:Y8 b H l rows)(s:Zj b H H')(nl:l'≠b)(e':∀xs,H l=some (.lst xs)->H' l'=some (.lst (xs.drop n++xs.take n))):Y8 b H' l' (rows.drop n++rows.take n):=by
 obtain⟨_,as,e,hl,r⟩:=h;refine⟨nl,as.drop n++as.take n,by rw[e' _ e,aL,gP,List.map_take],by simp[hl],λi a q h1 h2=>?_⟩;have key:∃j:Nat,as[j]?=some a/\rows[j]?=some q:=by
  rcases Nat.lt_or_ge i (as.drop n).length with hi|hi
  ·rw[a_ hi,List.getElem?_drop]at h1;rw[a_ (by rw[bD]at hi ⊢;omega),List.getElem?_drop]at h2;exact⟨_,h1,h2⟩
  ·rw[a6 hi]at h1;rw[a6 (by rw[bD]at hi ⊢;omega)]at h2;rw[bD]at h1 h2;rw[hl]at h1;rw[List.getElem?_take]at h1 h2;split at h1
   ·rw[if_pos (by omega)]at h2;exact⟨_,h1,h2⟩
   ·cases h1
 obtain⟨j,a1,a2⟩:=key;obtain⟨x,y⟩:=r j a q a1 a2;exact⟨x,s _ _ y x⟩
structure PlX(ps:Pl):Prop where
 lo:2<=ps.length
 hi:ps.length<=9
 nd:(ps.map (·.1)).Nodup
 nx:∀p∈ps,Nx p.1
 rm:∀p∈ps,∀i,p.2=some i->0<=i/\i<=1000
 pl:∃p∈ps,p.2.isSome=true
theorem PlX.rot{ps:Pl}{n:Nat}(h:PlX ps):PlX (ps.drop n++ps.take n):=by have pm:(ps.drop n++ps.take n).Perm ps:=List.perm_append_comm.trans (by rw[f_]);have mm:∀p,p∈ps.drop n++ps.take n↔p∈ps:=λp=>pm.mem_iff;refine⟨pm.length_eq▸h.lo,pm.length_eq▸h.hi,((pm.map _).nodup_iff).mpr h.nd,λp hp=>h.nx p ((mm p).mp hp),λp hp=>h.rm p ((mm p).mp hp),?_⟩;obtain⟨p,hp,e⟩:=h.pl;exact⟨p,(mm p).mpr hp,e⟩
def P5:Sp:=λvs H Q _=>∃(b:Addr)(c:Bool),vs=[.ref b,.int (if c=true then 1 else 0)]/\ZA H b /\∀H' l(ps:Pl),ZA H' b->Zj b H H'->H l=none->Y8 b H' l (ps.map plRow)->PlX ps->Q (.ref l) H'
section
variable {P:Program}{w:World}{K:aa}{mg:Str->Option Value}{base:Heap}
theorem Ym:FnScope [q_b,"_law_wide","_law_names_here",q_p,"_law_k","_law_room","_law_at"] [q_b,"_law_wide"] (Zc T.f__law_places):=scO
theorem R1(B:∀x∈Blts,mg x=none)(CT:Can P w K mg base 1 "_law_take" [q_b,"_law_many"] Y1)(CN:Can P w K mg base 2 "_law_names" [q_b,"_law_many"] Pd)(D:Df K mg "_law_places" T.f__law_places [q_b,"_law_wide"]):Can P w K mg base 3 "_law_places" [q_b,"_law_wide"] P5:=by
 refine D.cn Ym λf cdv A outer s H vs Q E hr h=>?_;obtain⟨b,c,rfl,hb,k⟩:=h;refine' ⟨_,(@Za _ _ _ _ _ ?h16 (@Za _ _ _ _ _ ?h17 (@Za _ _ _ _ _ ?h18 (@Za _ _ _ _ _ ?h19 (@Zd _ _ _ ?h20))))),?rd⟩;case' h20=>refine' (Zl (Zo Z6 (Xd (r:=rSlL K) Uq (pv 3) (XN (pv 6)) XO) (Xd (r:=rSlL K) Uq (pv 3) XO (XN (pv 6)))))
 case' h19=>refine' (@st _ _ _ _ 6 _ _ Ym.nd (cn CT hr (@pa2 _ _ _ _ _ (pv 0) (Zv (r:=rLen K) Z1 rfl (bm B) ba (@pa1 _ _ _ (pv 3) (by rfl))) (by rfl))) (by rfl) (by exact aO rfl) (by rfl) (by exact .inl rfl))
 case' h18=>refine' (Yc aT rfl (Xp rfl (bm B) (@pa2 _ _ _ _ _ Zb (Zv (r:=rLen K) Z1 rfl (bm B) ba (@pa1 _ _ _ (pv 2) (by rfl))) (by rfl))) (nmT 4 Ym.nd) (@Za _ _ _ _ _ ?h13 (@Za _ _ _ _ _ ?h14 (@Zd _ _ _ ?h15))))
 case' h17=>refine' (@st _ _ _ _ 3 _ _ Ym.nd ?h5 (by rfl) (by exact aO rfl) (by rfl) (by exact .inl rfl))
 case' h16=>refine' (@st _ _ _ _ 2 _ _ Ym.nd (cn CN hr (@pa2 _ _ _ _ _ (pv 0) (Zo ZI Zb (cn CT hr (@pa2 _ _ _ _ _ (pv 0) ?h2 (by rfl)))) (by rfl))) (by rfl) (by exact aO rfl) (by rfl) (by exact .inl rfl))
 case' h15=>refine' (Z7 (MS b6 dN dM VF (pv 3) (@pa1 _ _ _ ?h12 (by rfl))))
 case' h14=>refine' (@ZG _ _ _ _ _ _ _ _ (@Zt _ _ _ _ _ _ _ _ SW (cn CT hr (@pa2 _ _ _ _ _ (pv 0) Zb (by rfl))) ?h9 (ZC _)) (@Zd _ _ _ ?h10) Zp)
 case' h13=>refine' (@st _ _ _ _ 5 _ _ Ym.nd ?h7 (by rfl) (by exact aO rfl) (by rfl) (by exact .inl rfl))
 case' h12=>refine' (@Zu _ _ _ _ _ (@pa2 _ _ _ _ _ ?h11 (pv 5) (by rfl)))
 case' h11=>refine' (@il _ _ _ _ _ _ K (pv 2) (pv 4) (by rfl) (by exact λ_ _=>rfl))
 case' h10=>refine' (@st _ _ _ _ 5 _ _ Ym.nd ZF (by rfl) (by exact aO rfl) (by rfl) (by exact .inl rfl))
 case' h9=>refine' (@il _ _ _ _ _ _ K ?h8 (Yi N3 rfl (bm B) PU (@pa1 _ _ _ (@YE _ _ _ _ _ _ _ _ NH (pv 4) Zb (ZC _)) (by rfl))) (by rfl) (by exact λ_ _=>rfl))
 case' h8=>refine' (@Zy _ _ _ _ (@pa2 _ _ _ _ _ Zb Zb (by rfl)))
 case' h7=>refine' (@il _ _ _ _ _ _ K ?h6 (cn CT hr (@pa2 _ _ _ _ _ (pv 0) Zb (by rfl))) (by rfl) (by exact λ_ _=>rfl))
 case' h6=>refine' (@Zy _ _ _ _ (@Ze _ _ _ _ _ Zb (@Ze _ _ _ _ _ Zb (@pa3 _ _ _ _ _ _ _ Zb Zb (cn CT hr (@pa2 _ _ _ _ _ (pv 0) Zb (by rfl))) (by rfl)) (by rfl)) (by rfl)))
 case' h5=>refine' (@Zy _ _ _ _ (@pa1 _ _ _ ?h4 (by rfl)))
 case' h4=>refine' (@Zu _ _ _ _ _ (@pa2 _ _ _ _ _ ?h3 (cn CT hr (@pa2 _ _ _ _ _ (pv 0) Zb (by rfl))) (by rfl)))
 case' h3=>refine' (@il _ _ _ _ _ _ K (pv 2) Zb (by rfl) (by exact λ_ _=>rfl))
 case' h2=>refine' (@il _ _ _ _ _ _ K ?h1 (pv 1) (by rfl) (by exact λ_ _=>rfl))
 case' h1=>refine' (@Zy _ _ _ _ (@pa2 _ _ _ _ _ Zb Zb (by rfl)))
 case' rd=>
 refine⟨_,rfl,_,rfl,(zl),λl1 h1=>?_⟩;refine⟨_,rfl,l1,_,_,_,rfl,rfl,SqL.of Zf,Dv,b,_,rfl,hb.new h1,(by cases c<;>decide),Yj (by cases c<;>decide) (by cases c<;>decide),λt0 H2 t00 t01 B2 S2=>?_⟩;have ht8:t0<8:=by cases c<;>simp at t01<;>omega
 refine⟨_,_,rfl,rfl,b,_,rfl,B2,by omega,by omega,λH3 lN ts B3 S3 nN eN neN hc nd nx=>?_⟩;have S03:Zj b H H3:=((Zj.refl b H).new' h1).trans (S2.trans S3);clear S2 S3 B2 nN h1 t01;dsimp only[Zq,ay];have l0:0<ts.length:=by omega
 refine⟨_,rfl,lN,_,0,_,rfl,rfl,SqL.of eN,ZD (j:=0) (v:=V.str ts[0]) (by simp[l0]),tkC B3 (λr0 H4 r00 r01 B4 S4=>?_)⟩;have S04:=S03.trans S4;have eN4:=S4 _ _ eN neN;refine⟨Nat.le_trans (by decide:2<=1000) (by decide),λq0 hq0=>?_⟩;refine⟨Nat.le_trans (by decide:1<=1000) (by decide),λlP hP=>?_⟩;have nq0:=B4.ne hq0;have nP':lP≠q0:=λz=>by rw[z,Zf]at hP;cases hP
 have hP4:H4 lP=none:=by rw[Zg nP']at hP;exact hP
 have nP:=B4.ne hP4;have hP0:=YO S04 hP4 nP;have R0:Y8 b (upd (upd H4 q0 (.tup [.str ts[0],.int r0])) lP (.lst [.ref q0])) lP ([((ts[0],some r0):Str×Option Int)].map plRow):=⟨nP,[q0],Zf,rfl,λi a r h1 h2=>by
  rcases i with _|i
  ·cases h1;cases h2;exact⟨nq0,by rw[Zg (bo nP'),Zf];rfl⟩
  ·cases h1⟩
 have nNP:lN≠lP:=Zi eN4 hP4;have eN5:upd (upd H4 q0 (.tup [.str ts[0],.int r0])) lP (.lst [.ref q0]) lN=some (.lst (ts.map V.str)):=by rw[Zg nNP,Zg (Zi eN4 hq0)];exact eN4
 have B5:ZA (upd (upd H4 q0 (.tup [.str ts[0],.int r0])) lP (.lst [.ref q0])) b:=(B4.new hq0).new hP;have S05:Zj b H (upd (upd H4 q0 (.tup [.str ts[0],.int r0])) lP (.lst [.ref q0])):=(S04.new' hq0).new' hP;generalize upd (upd H4 q0 (.tup [.str ts[0],.int r0])) lP (.lst [.ref q0])=H5 at R0 eN5 B5 S05 ⊢;clear S04 S03 S4 eN4 eN B4 B3 hP hq0 nq0 nP' hP4;dsimp only[Zq,ay];refine⟨_,rfl,lN,_,rfl,.inl (SqL.of eN5),1,_,rfl,⟨by decide,by decide,by rw[lm];omega,by rw[lm];omega⟩,?_⟩;refine YC (J:=Itr 1 _) (ts.length-1) (λi σ H'=>ZA H' b/\Zj b H H'/\H' lN=some (.lst (ts.map V.str))/\(∃ps:Pl,Y8 b H' lP (ps.map plRow)/\ps.map (·.1)=ts.take (i+1)/\(∀p∈ps,∀i,p.2=some i->0<=i/\i<=1000)/\(∃p∈ps,p.2.isSome=true))/\∃o:Nat->Option V,σ=[some (.ref b),some (.int (if c=true then 1 else 0)),some (.ref lN),some (.ref lP),o 4,o 5,o 6]) ?_ (λi σ H' hi q=>?_) (λσ H' q=>?_) (λi σ H' v H6 hi q yl=>?_) (λσ H' q=>?_)
 ·refine⟨B5,S05,eN5,⟨_,R0,?_,λp hp i e=>?_,_,aB.mpr rfl,rfl⟩,shp rfl⟩
  ·rw[bc,gE l0];rfl
  ·rw[aB]at hp;subst hp;cases e;omega
 ·show i<_;rw[lm];omega
 ·show _<=_;rw[lm];omega
 ·obtain⟨bx,sm,el,⟨ps,ra,sub,rx,pl⟩,o,rfl⟩:=q;obtain⟨rfl,rfl⟩:=yl;have hi1:i+1<ts.length:=by omega
  dsimp only[Zq,ay];refine td λD' hdd=>?_;refine tkC bx (λr1 H7 r10 r11 B7 S7=>?_);refine⟨(zl),λl8 h8=>?_⟩;dsimp only;refine al2 B7 h8 λH8 B8 S8 e8 n8=>?_;refine tkC B8 (λr2 H9 r20 r21 B9 S9=>?_);have e9:=S9 _ _ e8 n8;obtain⟨v9,at9,m9⟩:=at_of (xs:=[V.int 0,.int 1,.int 2,.int 1000,.int r1]) (r:=r2) r20 (by simpa using r21);obtain⟨ro,rfl,ro0,ro1⟩:∃ro,v9=.int ro/\0<=ro/\ro<=1000:=by
   simp only[ao,aF,or_false]at m9;rcases m9 with rfl|rfl|rfl|rfl|rfl
   ·exact⟨_,rfl,by decide,by decide⟩
   ·exact⟨_,rfl,by decide,by decide⟩
   ·exact⟨_,rfl,by decide,by decide⟩
   ·exact⟨_,rfl,by decide,by decide⟩
   ·exact⟨_,rfl,by omega,by omega⟩
  refine⟨l8,_,_,_,rfl,rfl,SqL.of e9,at9,?_⟩;have S69:=(S7.trans S8).trans S9;clear at9 m9 e9 e8 S7 S8 S9 B8 B7 h8;dsimp only[Zq,ay];have fin:∀(H':Hp)(rm:Option Int),ZA H' b->Zj b H6 H'->(∀i,rm=some i->0<=i/\i<=1000)->∀σ',σ'=[some (.ref b),some (.int (if c=true then 1 else 0)),some (.ref lN),some (.ref lP),some (.int (1+i)),some (Ur rm),o 6] ->ER (tBM K "list" SN (tVar 3) (Yo (tTup (Yo (tOp (rIxL K) (tVar 2) (tVar 4)) (Yo (tVar 5) tNil))) tNil)) D' σ' H':=λH' rm bx' s' hrm σ' eσ=>by
   subst eσ;have ra':=ra.same s';obtain⟨xs,eF,lx,app⟩:=ra'.app;have el':=s' _ _ el neN;refine⟨_,rfl,.inl ⟨rfl,_,SqL.of eF⟩,_,rfl,_,rfl,lN,_,_,_,rfl,rfl,SqL.of el',PV (j:=i+1) (v:=V.str ts[i+1]) (by omega) (by simp[hi1]),_,rfl,Nat.le_trans (by decide:2<=1000) (by decide),λq hq2=>?_⟩;have hl:ps.length=i+1:=by have:=congrArg List.length sub;rw[lm,aN]at this;omega
   have nFq:lP≠q:=Zi eF hq2;refine⟨lP,xs,_,rfl,rfl,(Zg nFq).trans eF,Nat.lt_of_le_of_lt (by rw[lx,lm];omega:xs.length<=20) (by decide),?_⟩;have nq:=bx'.ne hq2;refine hdd _ _ ⟨ZA.same_ne (bx'.new hq2) nP,ND ((sm.trans s').new' hq2) (Zj.refl b H) nP hP0,?_,⟨ps++[(ts[i+1],rm)],?_,?_,?_,?_⟩,shp rfl⟩
   ·rw[Zg nNP,Zg (Zi el' hq2)];exact el'
   ·rw[aL];exact app q _ hq2 nq
   ·rw[aL,sub,bc (i:=i+1),gE hi1];rfl
   ·intro p hp;rcases aD.mp hp with hp|hp
    ·exact rx p hp
    ·rw[aB]at hp;subst hp;exact hrm
   ·obtain⟨p,hp,e⟩:=pl;exact⟨p,bh _ hp,e⟩
  refine tkC B9 (λr3 H10 r30 r31 B10 S10=>?_);refine⟨(zl),λl11 h11=>?_⟩;dsimp only;refine al2 B10 h11 λH11 B11 S11 e11 n11=>?_;refine⟨_,rfl,_,_,rfl,rfl,.inr ⟨_,rfl,l11,_,_,_,rfl,rfl,SqL.of e11,Dv,_,_,rfl,rfl,_,rfl,?_⟩⟩;have S611:=(S69.trans S10).trans S11;refine ite2 (λ_=>?_) (λ_=>?_)
  ·exact fin H11 none B11 S611 (λi z=>nomatch z) _ rfl
  ·exact fin H11 (some ro) B11 S611 (λi z=>by cases z;exact⟨ro0,ro1⟩) _ rfl
 ·obtain⟨bx,sm,el,⟨ps,ra,sub,rx,pl⟩,o,rfl⟩:=q;rw[show ts.length-1+1=ts.length by omega,aW]at sub;have hpl:ps.length=ts.length:=by have:=congrArg List.length sub;rwa [bq]at this
  obtain⟨xs,eF,lx,_⟩:=ra.app;rw[lm]at lx;refine⟨_,rfl,_,rfl,lP,_,rfl,.inl (SqL.of eF),b,_,rfl,bx,by omega,Yj (by omega) (by omega),λat_ H7 a0 a1 B7 S7=>?_⟩;have eF7:=S7 _ _ eF nP;have S07:=sm.trans S7;dsimp only[Zq,ay];refine⟨_,rfl,_,rfl,_,rfl,lP,xs,rfl,SqL.of eF7,λl8 h8=>?_⟩;dsimp only;refine al2E (congrArg HO.lst (QU xs a0)) B7 h8 λH8 B8 S8 e8 n8=>?_;refine⟨_,rfl,_,rfl,_,rfl,lP,xs,rfl,SqL.of (S8 _ _ eF7 nP),λl9 h9=>?_⟩;dsimp only;refine al2E (congrArg HO.lst (LZ xs a0)) B8 h9 λH9 B9 S9 e9 n9=>?_;refine⟨l8,l9,_,_,rfl,rfl,S9 _ _ e8 n8,e9,Nat.le_trans (by rw[bD,aN];omega:_<=1000) (by decide),λl10 h10=>?_⟩;have S09:=(S07.trans S8).trans S9;refine k _ l10 (ps.drop at_.toNat++ps.take at_.toNat) (B9.new h10) (S09.new' h10) (YO S09 h10 (B9.ne h10)) ?_ (PlX.rot ⟨by omega,by omega,sub▸nd,λp hp=>nx _ (sub▸ah.mpr ⟨p,hp,rfl⟩),rx,pl⟩);rw[aL,gP,List.map_take];exact KZ ra (((S7.trans S8).trans S9).new' h10) (B9.ne h10) λys e=>by rw[eF]at e;cases e;exact Zf
end
end WD
namespace L2
open PySem PySem.Spec PyProof.Rows
def IsFn(P:Program)(w:World)(K:aa)(mg:Str->Option Value)(base:Heap)(k:Nat)(ps:List Str)(f:Addr)(sp:Sp):Prop:=∃fd,FnOk P w K mg base CX0 k f fd ps sp/\aZ K (.ref f)=true/\Binds K fd ps []
def Fv(R:Addr->Sp->Prop)(i:Nat)(t:TA):TE:=λσ H Q=>∃f sp,σ[i]?=some (some (.ref f))/\R f sp/\t σ H λvs H1=>sp (vs++[]) H1 Q E0
theorem Ln{X:Cx}{k i:Nat}{x:Str}{ps:List Str}{R:Addr->Sp->Prop}{p pos:Pos}{e:Expr}{es:List Expr}{t:TA}(hR:∀f sp,R f sp->IsFn X.prog X.w X.K X.mg X.base k ps f sp)(hr:Room k X.A)(hN:X.N[i]?=some x)(hv:Vis X.env.scope x)(ha:PA X (e::es) t)(hd:(x==("__debug__":Str))=false:=by decide)(hcd:(x==("__classdict__":Str))=false:=by decide)(he:aI (e::es) X.env=(false,eval e X.env)::aI es X.env:=by rfl)(hpl:(b8 pos (aI es X.env)).any (·.1)=false:=by rfl):PE X (.Call (.Name x p) (e::es) [] pos) (Fv R i t):=by intro pins s σ H Q I h;obtain⟨f,sp,e1,hf,h⟩:=h;obtain⟨fd,F,kp,b⟩:=hR f sp hf;refine cJ (thn (Pu hN hv hd hcd pins s σ H (λv H1=>v=.ref f/\t σ H1 λvs H2=>sp (vs++[]) H2 Q E0) I ⟨_,e1,rfl,h⟩) λv s1 hZ=>?_);obtain⟨y,H1,I1,r1,ey,q1⟩:=hZ;subst ey;obtain rfl:v=Value.ref f:=r1;refine cv (h₀:=X.base) I1.ok.mod.kin kp (thn (ha pos pins s1 σ H1 _ I1 q1) λus s2⟨vs,H2,I2,r2,q2⟩=>⟨I2.kIn,?_⟩) he hpl;exact MN F hr b .nil Yl I2 r2 q2
end L2
namespace WD
open PySem L2 PySem.Spec PyProof.Rows TB
structure RdX(n:Int)(ns ss:List Str)(r:Rd):Prop where
 st:r.st∈ss
 gl:r.gl∈ns
 ne:r.st≠r.gl
 lv0:0<=r.lv
 lv1:r.lv<=n-1
 cm0:r.lv+1<=r.cm
 cm1:r.cm<=n
 se0:0<=r.se
 se1:r.se<=1000
structure WyX(ns ss:List Str)(r:Wy):Prop where
 st:r.st∈ss
 gl:r.gl∈ns
 ne:r.st≠r.gl
 lo0:1<=r.lo
 lo1:r.lo<=50
 wi0:0<=r.wi
 wi1:r.wi<=1000
structure GrX(n:Int)(ns:List Str)(r:Gr):Prop where
 pl:r.pl∈ns
 tu0:0<=r.tu
 tu1:r.tu<=n
 ma0:0<=r.ma
 ma1:r.ma<=4
def OkR(j:Nat)(n:Int)(ns ss:List Str)(nm:Str)(row:List V):Prop:=(j=0->∃r:Rd,row=SK r/\r.nm=nm/\RdX n ns ss r)/\(j=1->∃r:Wy,row=Sj r/\r.nm=nm/\WyX ns ss r)/\(j=2->∃r:Gr,row=QK r/\r.nm=nm/\GrX n ns r)
def VR(j:Nat):Sp:=λvs H Q _=>∃(b:Addr)(nm sa gl:Str)(n:Int)(ns ss:List Str),vs=[.ref b,.str nm,.int n,.str sa,.str gl]/\ZA H b/\1<=n/\n<=30/\sa∈ss/\sa∈ns/\gl∈ns/\sa≠gl /\∀H' q row,ZA H' b->Zj b H H'->H q=none->H' q=some (.tup row)->OkR j n ns ss nm row->Q (.ref q) H'
noncomputable def VS:List Str:=[q_b,"_law_name","_law_turns","_law_start","_law_goal"]
theorem at_i{xs:List Int}{r lo hi:Int}(h0:0<=r)(h1:r<(xs.length:Int))(hx:∀x∈xs,lo<=x/\x<=hi):∃x,atI (xs.map V.int) r=some (.int x)/\lo<=x/\x<=hi:=by obtain⟨v,a,m⟩:=at_of (xs:=xs.map V.int) h0 (by rw[lm];exact h1);obtain⟨x,hx',rfl⟩:=ah.mp m;exact⟨x,a,hx x hx'⟩
section
variable {P:Program}{w:World}{K:aa}{mg:Str->Option Value}{base:Heap}
theorem J9:FnScope [q_b,"_law_name","_law_turns","_law_start","_law_goal","_law_leave","_law_come"] [q_b,"_law_name","_law_turns","_law_start","_law_goal"] (Zc T.f__law_ride):=scO
theorem WQ(CT:Can P w K mg base 1 "_law_take" [q_b,"_law_many"] Y1)(D:Df K mg "_law_ride" T.f__law_ride VS):Can P w K mg base 2 "_law_ride" VS (VR 0):=by
 refine D.cn J9 λf cdv A outer s H vs Q E hr h=>?_;obtain⟨b,nm,sa,gl,n,ns,ss,rfl,hb,n1,n2,hs,hs',hg,hne,k⟩:=h;refine' ⟨_,(@Za _ _ _ _ _ ?h3 (@Za _ _ _ _ _ ?h4 (@Zd _ _ _ ?h5))),?rd⟩;case' h5=>refine' (Zl ?h2)
 case' h4=>refine' (@st _ _ _ _ 6 _ _ J9.nd (Zo ZI (Zo ZI (pv 5) Zb) (cn CT hr (@pa2 _ _ _ _ _ (pv 0) (Zo XZ (pv 2) (pv 5)) (by rfl)))) (by rfl) (by exact aO rfl) (by rfl) (by exact .inl rfl))
 case' h3=>refine' (@st _ _ _ _ 5 _ _ J9.nd (cn CT hr (@pa2 _ _ _ _ _ (pv 0) (pv 2) (by rfl))) (by rfl) (by exact aO rfl) (by rfl) (by exact .inl rfl))
 case' h2=>refine' (@Zu _ _ _ _ _ (@Ze _ _ _ _ _ (pv 1) (@Ze _ _ _ _ _ (pv 3) (@Ze _ _ _ _ _ (pv 5) (@pa3 _ _ _ _ _ _ _ (pv 4) (pv 6) ?h1 (by rfl)) (by rfl)) (by rfl)) (by rfl)))
 case' h1=>refine' (@il _ _ _ _ _ _ K (@Zy _ _ _ _ (@JG _ _ (by decide +kernel))) (cn CT hr (@pa2 _ _ _ _ _ (pv 0) Zb (by rfl))) (by rfl) (by exact λ_ _=>rfl))
 case' rd=>
 refine⟨_,rfl,_,rfl,b,n,rfl,hb,by omega,Yj (by omega) (by omega),λlv H1 l0 l1 B1 S1=>?_⟩;dsimp only[Zq,ay];refine⟨_,rfl,_,_,rfl,rfl,_,rfl,_,rfl,_,rfl,_,_,rfl,rfl,b,_,rfl,B1,by omega,Yj (by omega) (by omega),λc H2 c0 c1 B2 S2=>?_⟩;refine⟨_,_,rfl,rfl,?_⟩;dsimp only[Zq,ay];refine⟨_,rfl,_,rfl,_,rfl,_,rfl,_,rfl,(zl),λl3 h3=>?_⟩;dsimp only;refine al2 B2 h3 λH3 B3 S3 e3 n3=>?_;refine tkC B3 (λr H4 r0 r1 B4 S4=>?_);obtain⟨se,hat,s0,s1⟩:=at_i (xs:=[0,1,1,2,3,1000]) (lo:=0) (hi:=1000) r0 r1 (by decide);refine⟨l3,_,_,_,rfl,rfl,SqL.of (S4 _ _ e3 n3),hat,Nat.le_trans (by decide:6<=1000) (by decide),λq hq=>?_⟩;have S04:=((S1.trans S2).trans S3).trans S4;exact k _ q (SK ⟨nm,sa,lv,gl,lv+1+c,se⟩) (B4.new hq) (S04.new' hq) (YO S04 hq (B4.ne hq)) Zf ⟨λ_=>⟨_,rfl,rfl,hs,hg,hne,l0,by show lv<=n-1;omega,by show lv+1<=lv+1+c;omega,by show lv+1+c<=n;omega,s0,s1⟩,(by intro z;cases z),(by intro z;cases z)⟩
theorem MI:FnScope [q_b,"_law_name","_law_turns","_law_start","_law_goal","_law_long"] [q_b,"_law_name","_law_turns","_law_start","_law_goal"] (Zc T.f__law_way):=scO
theorem Dh(CT:Can P w K mg base 1 "_law_take" [q_b,"_law_many"] Y1)(D:Df K mg "_law_way" T.f__law_way VS):Can P w K mg base 2 "_law_way" VS (VR 1):=by
 refine D.cn MI λf cdv A outer s H vs Q E hr h=>?_;obtain⟨b,nm,sa,gl,n,ns,ss,rfl,hb,n1,n2,hs,hs',hg,hne,k⟩:=h;refine' ⟨_,(@Za _ _ _ _ _ ?h5 (@Zd _ _ _ ?h6)),?rd⟩;case' h6=>refine' (Zl ?h4)
 case' h5=>refine' (@st _ _ _ _ 5 _ _ MI.nd (Zo ZI Zb (cn CT hr (@pa2 _ _ _ _ _ (pv 0) ?h2 (by rfl)))) (by rfl) (by exact aO rfl) (by rfl) (by exact .inl rfl))
 case' h4=>refine' (@Zu _ _ _ _ _ (@Ze _ _ _ _ _ (pv 1) (@Ze _ _ _ _ _ (pv 3) (@pa3 _ _ _ _ _ _ _ (pv 4) (pv 5) ?h3 (by rfl)) (by rfl)) (by rfl)))
 case' h3=>refine' (@il _ _ _ _ _ _ K (@Zy _ _ _ _ (@JG _ _ (by decide +kernel))) (cn CT hr (@pa2 _ _ _ _ _ (pv 0) Zb (by rfl))) (by rfl) (by exact λ_ _=>rfl))
 case' h2=>refine' (@il _ _ _ _ _ _ K ?h1 (cn CT hr (@pa2 _ _ _ _ _ (pv 0) Zb (by rfl))) (by rfl) (by exact λ_ _=>rfl))
 case' h1=>refine' (@Zy _ _ _ _ (@pa2 _ _ _ _ _ Zb (Zo ZI (pv 2) Zb) (by rfl)))
 case' rd=>
 refine⟨_,rfl,_,rfl,_,_,rfl,rfl,(zl),λl1 h1=>?_⟩;dsimp only;refine al2 hb h1 λH1 B1 S1 e1 n1'=>?_;refine tkC B1 (λr H2 r0 r1 B2 S2=>?_);obtain⟨c,hat,c0,c1⟩:=at_i (xs:=[2,n+1]) (lo:=1) (hi:=31) r0 r1 (by intro x hx;simp only[ao,aF,or_false]at hx;omega);refine⟨l1,_,_,_,rfl,rfl,SqL.of (S2 _ _ e1 n1'),hat,b,_,rfl,B2,by omega,Yj (by omega) (by omega),λg H3 g0 g1 B3 S3=>?_⟩;refine⟨_,_,rfl,rfl,?_⟩;dsimp only[Zq,ay];refine⟨_,rfl,_,rfl,_,rfl,_,rfl,(zl),λl4 h4=>?_⟩;dsimp only;refine al2 B3 h4 λH4 B4 S4 e4 n4=>?_;refine tkC B4 (λr' H5 r0' r1' B5 S5=>?_);obtain⟨wi,hat',s0,s1⟩:=at_i (xs:=[0,1,2,3]) (lo:=0) (hi:=1000) r0' r1' (by decide);refine⟨l4,_,_,_,rfl,rfl,SqL.of (S5 _ _ e4 n4),hat',Nat.le_trans (by decide:5<=1000) (by decide),λq hq=>?_⟩;have S05:=(((S1.trans S2).trans S3).trans S4).trans S5;exact k _ q (Sj ⟨nm,sa,gl,1+g,wi⟩) (B5.new hq) (S05.new' hq) (YO S05 hq (B5.ne hq)) Zf ⟨(by intro z;cases z),λ_=>⟨_,rfl,rfl,hs,hg,hne,by show 1<=1+g;omega,by show 1+g<=50;omega,s0,s1⟩,(by intro z;cases z)⟩
theorem JB:FnScope [q_b,"_law_name","_law_turns","_law_start","_law_goal","_law_place","_law_turn"] [q_b,"_law_name","_law_turns","_law_start","_law_goal"] (Zc T.f__law_group):=scO
theorem R7(CT:Can P w K mg base 1 "_law_take" [q_b,"_law_many"] Y1)(D:Df K mg "_law_group" T.f__law_group VS):Can P w K mg base 2 "_law_group" VS (VR 2):=by
 refine D.cn JB λf cdv A outer s H vs Q E hr h=>?_;obtain⟨b,nm,sa,gl,n,ns,ss,rfl,hb,n1,n2,hs,hs',hg,hne,k⟩:=h;refine' ⟨_,(@Za _ _ _ _ _ ?h6 (@Za _ _ _ _ _ ?h7 (@Zd _ _ _ ?h8))),?rd⟩;case' h8=>refine' (Zl ?h5)
 case' h7=>refine' (@st _ _ _ _ 6 _ _ JB.nd (cn CT hr (@pa2 _ _ _ _ _ (pv 0) ?h4 (by rfl))) (by rfl) (by exact aO rfl) (by rfl) (by exact .inl rfl))
 case' h6=>refine' (@st _ _ _ _ 5 _ _ JB.nd ?h2 (by rfl) (by exact aO rfl) (by rfl) (by exact .inl rfl))
 case' h5=>refine' (@Zu _ _ _ _ _ (@Ze _ _ _ _ _ (pv 1) (@pa3 _ _ _ _ _ _ _ (pv 5) (pv 6) (cn CT hr (@pa2 _ _ _ _ _ (pv 0) Zb (by rfl))) (by rfl)) (by rfl)))
 case' h4=>refine' (@il _ _ _ _ _ _ K ?h3 (cn CT hr (@pa2 _ _ _ _ _ (pv 0) Zb (by rfl))) (by rfl) (by exact λ_ _=>rfl))
 case' h3=>refine' (@Zy _ _ _ _ (@pa2 _ _ _ _ _ Zb (Zo ZI (pv 2) Zb) (by rfl)))
 case' h2=>refine' (@il _ _ _ _ _ _ K ?h1 (cn CT hr (@pa2 _ _ _ _ _ (pv 0) Zb (by rfl))) (by rfl) (by exact λ_ _=>rfl))
 case' h1=>refine' (@Zy _ _ _ _ (@Ze _ _ _ _ _ (pv 3) (@pa3 _ _ _ _ _ _ _ (pv 3) (pv 3) (pv 4) (by rfl)) (by rfl)))
 case' rd=>
 refine⟨_,rfl,_,rfl,_,rfl,_,rfl,(zl),λl1 h1=>?_⟩;dsimp only;refine al2 hb h1 λH1 B1 S1 e1 n1'=>?_;refine tkC B1 (λr H2 r0 r1 B2 S2=>?_);obtain⟨v,hat,hm⟩:=at_of (xs:=[V.str sa,.str sa,.str sa,.str gl]) (r:=r) r0 r1;obtain⟨pl,rfl,hpl⟩:∃pl,v=.str pl/\pl∈ns:=by
  simp only[ao,aF,or_false]at hm;rcases hm with rfl|rfl|rfl|rfl
  ·exact⟨_,rfl,hs'⟩
  ·exact⟨_,rfl,hs'⟩
  ·exact⟨_,rfl,hs'⟩
  ·exact⟨_,rfl,hg⟩
 refine⟨l1,_,_,_,rfl,rfl,SqL.of (S2 _ _ e1 n1'),hat,?_⟩;dsimp only[Zq,ay];refine⟨_,rfl,_,rfl,_,_,rfl,rfl,(zl),λl3 h3=>?_⟩;dsimp only;refine al2 B2 h3 λH3 B3 S3 e3 n3=>?_;refine tkC B3 (λr' H4 r0' r1' B4 S4=>?_);obtain⟨c,hat',c0,c1⟩:=at_i (xs:=[1,n+1]) (lo:=1) (hi:=n+1) r0' r1' (by intro x hx;simp only[ao,aF,or_false]at hx;omega);refine⟨l3,_,_,_,rfl,rfl,SqL.of (S4 _ _ e3 n3),hat',b,_,rfl,B4,by omega,Yj (by omega) (by omega),λtu H5 t0 t1 B5 S5=>?_⟩;dsimp only[Zq,ay];refine⟨_,rfl,_,rfl,_,rfl,tkC B5 (λma H6 m0 m1 B6 S6=>?_)⟩;refine⟨Nat.le_trans (by decide:4<=1000) (by decide),λq hq=>?_⟩;have S06:=((((S1.trans S2).trans S3).trans S4).trans S5).trans S6;exact k _ q (QK ⟨nm,pl,tu,ma⟩) (B6.new hq) (S06.new' hq) (YO S06 hq (B6.ne hq)) Zf ⟨(by intro z;cases z),(by intro z;cases z),λ_=>⟨_,rfl,rfl,hpl,t0,by show tu<=n;omega,m0,by show ma<=4;omega⟩⟩
end
end WD
namespace L2
open PySem PySem.Spec PyProof.Rows
noncomputable def DE(l:Addr):It:=⟨λi H=>∃xs,H l=some (.lst xs)/\i<xs.length,λi H x H'=>∃(T:Addr)(xs:List V)(y:V),H T=none/\H l=some (.lst xs)/\xs[i]?=some y/\x=.ref T/\H'=upd H T (.tup [.int i,y]),λi H=>∃xs,H l=some (.lst xs)/\i=xs.length⟩
theorem Q9{P:Program}{w:World}{K:aa}{es:List Expr}{k:Nat}{pt:Pos}(l e it:Addr)(hei:e≠it)(hle:l≠e)(hli:l≠it):
  Turn P w K (.Tuple es k pt) (DE l) [e,it] e (λi h=>(∃old,IsEnum h e it i old)/\h.IsListIter it l i) where
 mem:=by simp
 obj:=λi h st b hb=>by
  obtain⟨⟨old,he⟩,o,ho,c,d⟩:=st
  have hb':b=e\/b=it:=by simpa using hb
  rcases hb' with rfl|rfl
  ·exact⟨_,he,λv z=>by cases z⟩
  ·exact⟨o,ho,λv z=>by rw[d]at z;cases z⟩
 keep:=λi h h' st kk=>by
  obtain⟨⟨old,he⟩,o,ho,r⟩:=st
  exact⟨⟨old,kk e (by simp) _ he⟩,o,kk it (by simp) o ho,r⟩
 item:=by
  intro X hP hw hK hc i pins s σ H E I hf st hg
  subst hP hw hK
  obtain⟨xs,hx,hi⟩:=hg
  obtain⟨⟨old,he⟩,hs⟩:=st
  obtain⟨its,rv,pl,_⟩:=I.list (SqL.of hx)
  have hlen:=rv.length
  have D:=Draws.list (prog:=X.prog) (w:=X.w) (A:=X.A.in1) (I.ok.hd hc) it l hli its.toArray
  have W:=fw D e hei (by simp[hei,bo hle]) (by simp)
  refine W.item i s _ _ (by simp only[aq];omega) ⟨⟨old,he⟩,hs,pl.isList⟩ λT vals h' tk hv hT ht hm kk=>?_
  obtain⟨tk',u,hu,rfl⟩:=hv
  obtain⟨y,hy⟩:∃y,xs[i]?=some y:=⟨xs[i],gE hi⟩
  obtain⟨u2,hu2,ru⟩:=rv.get hy
  have hu':its[i]?=some u:=by simpa using hu
  rw[hu']at hu2;cases hu2
  refine⟨_,rfl,?_⟩
  refine W.go es k pt i T {s with heap:=h',toks:=tk} _ _ hm λh2 st2 kk2=>?_
  have hTn:H T=none:=I.hok.fresh hT
  have hap:=W.apart i T h' hm
  have hb2:∀b,b∉[e,it]->∀o,s.heap.get? b=some o->h2.get? b=some o:=λb hb o q=>kk2 b o hb (kk b o hb q)
  have nb:∀b u,H b=some u->b∉[e,it]:=λb u q hb=>by rw[(hf b hb).1]at q;cases q
  have I1:Inv X pins σ (upd H T (.tup [.int i,y])) {s with heap:=h2,toks:=tk}:=by
   refine I.step (g':=s.gens) (d':=s.drawn) (ch:=[e,it]) (λb hb=>?_) (λb o _ _ hb q _=>hb2 b hb o q) (λb o _ _ hb q _=>⟨o.slots,hb2 b hb o q⟩)
    (λb o hb q n=>?_) (λb o hb q=>⟨o,hb2 b hb o q⟩) (λb xs q=>?_) (λb o u q=>?_) (λb ps q=>?_) (λm hm=>?_) ?_ I.bare
   ·obtain⟨g0,g1,g2,g3,g4,g5⟩:=hf b hb
    exact⟨g3,g1,g4,g5⟩
   ·rw[Zg (Nat.ne_of_lt (Nat.lt_of_lt_of_le (Heap.lt_size q) hT))];exact n
   ·rw[Zg (Zi q hTn)];exact q
   ·rw[Zg (Zi q hTn)];exact q
   ·exact⟨#[],by rw[Zg (Zi q hTn),q];simp⟩
   ·obtain⟨o,es',ep,ho,r⟩:=hm
    refine⟨o,es',ep,hb2 _ ?_ o ho,r⟩
    intro hb
    obtain⟨g0,g1,_⟩:=hf _ hb
    exact g1 rfl
   ·intro b ob q
    by_cases hb:b=T
    ·subst hb
     rw[Zf]at q
     cases q
     obtain⟨o,h1,h2',h3⟩:=ht
     exact⟨zl,[.int i tk',u],.cons ⟨_,rfl⟩ (.cons ru .nil),⟨o,kk2 _ _ hap h1,h2',h3⟩⟩
    ·rw[Zg hb]at q
     refine(I.hok b ob q).stay (λc' v hc' q'=>hb2 c' ?_ v q') (λc' q'=>by rw[Zg (Zi q' hTn)];exact q') λc' xs q'=>by rw[Zg (Zi q' hTn)];exact q'
     rcases hc' with rfl|hc'
     ·exact nb _ _ q
     ·exact nb _ _ hc'
  refine⟨.ref T,_,I1,rfl,⟨T,xs,y,hTn,hx,hy,rfl,rfl⟩,⟨st2.1,st2.2.1⟩,λb hb=>?_⟩
  rw[Zg]
  ·exact(hf b hb).1
  ·rintro rfl
   exact hap hb
 done:=by
  intro X hP hw hK hc i pins s σ H E I hf st hg
  subst hP hw hK
  obtain⟨xs,hx,hi⟩:=hg
  obtain⟨⟨old,he⟩,hs⟩:=st
  obtain⟨its,rv,pl,_⟩:=I.list (SqL.of hx)
  have hlen:=rv.length
  have D:=Draws.list (prog:=X.prog) (w:=X.w) (A:=X.A.in1) (I.ok.hd hc) it l hli its.toArray
  have W:=fw D e hei (by simp[hei,bo hle]) (by simp)
  have ei:i=its.toArray.size:=by simp only[aq];omega
  subst ei
  refine W.done s _ _ ⟨⟨old,he⟩,hs,pl.isList⟩ λh' tk kk=>⟨rfl,?_⟩
  have nb:∀b u,H b=some u->b∉[e,it]:=λb u q hb=>by rw[(hf b hb).1]at q;cases q
  refine I.step (g':=s.gens) (d':=s.drawn) (ch:=[e,it]) (λb hb=>?_) (λb o _ _ hb q _=>kk b o hb q) (λb o _ _ hb q _=>⟨o.slots,kk b o hb q⟩)
   (λb o hb q n=>n) (λb o hb q=>⟨o,kk b o hb q⟩) (λb xs q=>q) (λb o u q=>q) (λb ps q=>⟨#[],by rw[q];simp⟩) (λm hm=>?_) (λb u q=>?_) I.bare
  ·obtain⟨g0,g1,g2,g3,g4,g5⟩:=hf b hb
   exact⟨g3,g1,g4,g5⟩
  ·obtain⟨o,es',ep,ho,r⟩:=hm
   refine⟨o,es',ep,kk _ o ?_ ho,r⟩
   intro hb
   obtain⟨g0,g1,_⟩:=hf _ hb
   exact g1 rfl
  ·refine(I.hok b u q).stay (λc' v hc' q'=>kk c' v ?_ q') (λ_ q'=>q') λ_ _ q'=>q'
   rcases hc' with rfl|hc'
   ·exact nb _ _ q
   ·exact nb _ _ hc'
 self:=λA i s Q E st h=>by
  obtain⟨⟨old,he⟩,_⟩:=st
  exact fT he h
section
variable {X:Cx}
noncomputable def iEnL(ta:TA):TI:=λσ H R=>ta σ H λvs H1=>∃(l:Addr)(xs:List V),vs=[.ref l]/\H1 l=some (.lst xs)/\R (DE l) H1
theorem Lf{a:Expr}{ta:TA}{p pos pt:Pos}{es:List Expr}{k:Nat}(hg:Gl X "enumerate")(hm:X.mg "enumerate"=none)(ha:PA X [a] ta)(hb:bF "enumerate"=some (.type "enumerate"))(hs:aI [a] X.env=[(false,eval a X.env)]:=by rfl):PI X (.Tuple es k pt) (.Call (.Name "enumerate" p) [a] [] pos) (iEnL ta):=by
 intro pins s σ H R I h;refine Call_ (Ua I hg hm hb (b7 (thn (ha pos pins s σ H _ I h) λus s1 hZ=>?_) hs rfl));obtain⟨vs,H1,I1,r1,q1⟩:=hZ;obtain⟨l,xs,e,hx,q⟩:=q1;subst e;cases r1 with
|cons r rr=>
  cases rr;cases r;obtain⟨its,rv,pl,_⟩:=I1.list (SqL.of hx);refine call_enumerate_list pl.isList λh' he hst _ kk=>?_;have I2:Inv X pins σ H1 {s1 with heap:=h'}:=I1.kept (t':=s1.toks) kk;refine fT he ?_;have lt:l<s1.heap.objs.size:=I1.hok.lt hx;refine⟨s1.heap.objs.size+1,[s1.heap.objs.size+1,s1.heap.objs.size],_,_,H1,rfl,I2,Q9 l (s1.heap.objs.size+1) s1.heap.objs.size (Nat.succ_ne_self _) (Nat.ne_of_lt (Nat.lt_succ_of_lt lt)) (Nat.ne_of_lt lt),⟨⟨_,he⟩,hst⟩,λb hb=>?_,q⟩;have e:b=s1.heap.objs.size+1\/b=s1.heap.objs.size:=by simpa using hb
  rcases e with e|e<;>subst e
  ·exact I1.fpOk (Nat.le_succ _) (I1.hok.fresh (Nat.le_succ _))
  ·exact I1.fpOk (Nat.le_refl _) (I1.hok.fresh (Nat.le_refl _))
end
theorem Mj{X:Cx}{pos:Pos}{K:aa}{es:List Expr}{k:Nat}{t:TGs}{n:Nat}(hK:X.K=K)(hc:X.calm=true)(h:PGs X es t)(hn:(cD es X.env).length=n:=by rfl)(hst:(cD es X.env).findIdx? (·.1)=none:=by rfl):PG X (.Tuple es k pos) (gTup K n t):=by subst hK;exact YN hc h hn hst
theorem SqL.same{K:aa}{H H':Hp}{a:Addr}{xs:List V}(s:Same H H')(h:SqL K H a xs):SqL K H' a xs:=by
 rcases h with(h|⟨o,h⟩)|h
 ·exact .inl (.inl (s _ _ h))
 ·exact .inl (.inr ⟨o,s _ _ h⟩)
 ·exact .inr h
theorem NF{X:Cx}{K:aa}(hK:X.K=K):OpR X (br .NotIn) (rIn K true):=by subst hK;exact PB
theorem FW{X:Cx}{K:aa}(hK:X.K=K):OpR X (br .In) (rIn K false):=by subst hK;exact Wc
theorem Yz{b:Addr}{H H1 H2:Hp}(hn:H b=none)(s:Same H H1)(t:Zj b H1 H2):Same H H2:=λc o e=>t c o (s c o e) (Zi e hn)
end L2
namespace WD
open PySem L2 PySem.Spec PyProof.Rows TB
theorem XG{α:Type}(p:α->Bool)(l:List α){i:Nat}{a:α}(h:l[i]?=some a):(l.take (i+1)).filter p=(l.take i).filter p++(if p a=true then[a]else[]):=by rw[bc,h,gZ];simp only[Option.toList_some];cases hp:p a<;>simp[hp]
theorem GW{α:Type}{J:It}{g:TG}{tc:TT}{te:TE}{τ0:L2.St}{H0:Hp}{R:List V->Hp->Prop}(xs:List α)(hn:xs.length<=sizeLine)(p:α->Bool)(f:α->V)(S:L2.St->Prop)(s0:S τ0)(go:∀i,i<xs.length->J.go i H0)(stop:J.stop xs.length H0)(step:∀(i:Nat)x τ v H',xs[i]?=some x->S τ->J.yld i H0 v H'->∀(N1:V->L2.St->Hp->Prop)(N2:L2.St->Hp->Prop),(p x=true->∀τ2,S τ2->N1 (f x) τ2 H0)->(p x=false->∀τ2,S τ2->N2 τ2 H0) ->g v τ H' λτ2 H2=>tc τ2 H2 λb H3=>if b=true then te τ2 H3 λy H4=>N1 y τ2 H4 else N2 τ2 H3)(hd:R ((xs.filter p).map f) H0):∃W:Nat->Nat->List V->L2.St->Hp->Prop,(∃m,W 0 m [] τ0 H0)/\∀i m ys τ H,W i m ys τ H ->(J.stop i H/\R ys H) \/(J.go i H/\ys.length<sizeLine/\∃N:List V->L2.St->Hp->Prop,(∀ys' τ' H',N ys' τ' H'->∃m',m'<m/\W (i+1) m' ys' τ' H') /\∀x H',J.yld i H x H'->g x τ H' λτ2 H2=>tc τ2 H2 λb H3=>if b=true then te τ2 H3 λy H4=>N (ys++[y]) τ2 H4 else N ys τ2 H3):=by
 refine JP (J:=J) (g:=g) (tc:=tc) (te:=te) xs.length hn (λi ys τ H=>H=H0/\ys=((xs.take i).filter p).map f/\S τ) ⟨rfl,rfl,s0⟩ (λi ys τ H q=>?_) (λi ys τ H hi q=>?_) (λys τ H q=>?_) (λi ys τ H x H' hi q yl=>?_) (λys τ H q=>?_)
 ·obtain⟨_,rfl,_⟩:=q;rw[lm];exact Nat.le_trans (bO _ _) (by rw[aN];omega)
 ·obtain⟨rfl,_⟩:=q;exact go i hi
 ·obtain⟨rfl,_⟩:=q;exact stop
 ·obtain⟨rfl,rfl,st⟩:=q;have e0:xs[i]?=some xs[i]:=gE hi;refine step i xs[i] τ x H' e0 st yl _ _ (λe τ2 s2=>⟨rfl,?_,s2⟩) (λe τ2 s2=>⟨rfl,?_,s2⟩)
  ·rw[XG _ _ e0,if_pos e,aL];rfl
  ·rw[XG _ _ e0,if_neg (by rw[e];exact Bool.false_ne_true),bB]
 ·obtain⟨rfl,rfl,_⟩:=q;rw[aW];exact hd
theorem fr2{H:Hp}{c d:Addr}{o:HO}(h:upd H c o d=none):d≠c/\H d=none:=by
 by_cases e:d=c
 ·subst e;rw[Zf]at h;cases h
 ·exact⟨e,by rwa [Zg e]at h⟩
noncomputable def tri{α:Type}(a b c:α):Nat->α
|0=>a|1=>b|_=>c
theorem Kj(x y:Str):(!decide (V.str x=V.str y))=decide (x≠y):=by by_cases e:x=y<;>simp[e]
theorem TY(r:Option Int):(!decide (Ur r=.non))=r.isSome:=by cases r<;>rfl
def RowsL(H:Hp)(l:Addr)(rows:List (List V)):Prop:=∃as:List Addr,H l=some (.lst (as.map V.ref))/\as.length=rows.length/\∀(i:Nat)a r,as[i]?=some a->rows[i]?=some r->H a=some (.tup r)
section
variable {K:aa}{H H':Hp}{b l l' q:Addr}{rows rows':List (List V)}{row:List V}
theorem Y8.free(h:Y8 b H l rows):RowsL H l rows:=by obtain⟨_,as,e,hl,r⟩:=h;exact⟨as,e,hl,λi a q h1 h2=>(r i a q h1 h2).2⟩
theorem RowsL.same(s:Same H H')(h:RowsL H l rows):RowsL H' l rows:=by obtain⟨as,e,hl,r⟩:=h;exact⟨as,s _ _ e,hl,λi a q h1 h2=>s _ _ (r i a q h1 h2)⟩
theorem RowsL.nil(e:H l=some (.lst [])):RowsL H l []:=⟨[],e,rfl,λi a r h=>by cases h⟩
theorem RowsL.other(h:RowsL H l' rows')(n:l'≠l){ys zs:List V}(e:H l=some (.lst ys)):RowsL (upd H l (.lst zs)) l' rows':=by obtain⟨as,e',hl,r⟩:=h;refine⟨as,(Zg n).trans e',hl,λi a q h1 h2=>?_⟩;have:=r i a q h1 h2;rw[Zg (ne_of this e (λz=>nomatch z))];exact this
theorem RowsL.app(h:RowsL H l rows)(hq:H q=some (.tup row)):∃xs:List V,H l=some (.lst xs)/\xs.length=rows.length/\RowsL (upd H l (.lst (xs++[.ref q]))) l (rows++[row]):=by
 obtain⟨as,e,hl,r⟩:=h;refine⟨_,e,by rw[lm,hl],as++[q],by rw[Zf,aL];rfl,by simp[hl],λi a r' h1 h2=>?_⟩;have key:H a=some (.tup r'):=by
  rcases Nat.lt_or_ge i as.length with hi|hi
  ·rw[a_ hi]at h1;rw[a_ (by omega)]at h2;exact r i a r' h1 h2
  ·rw[a6 hi]at h1;rw[a6 (by omega),<-hl]at h2;have hi0:i-as.length=0:=by
    rcases Nat.eq_zero_or_pos (i-as.length)with z|z
    ·exact z
    ·rw[de (by simp;omega)]at h1;cases h1
   rw[hi0]at h1 h2;cases h1;cases h2;exact hq
 rw[Zg (ne_of key e (λz=>nomatch z))];exact key
theorem RowsL.go(h:RowsL H l rows){i:Nat}(hi:i<rows.length):(Itl K l).go i H:=by obtain⟨as,e,hl,r⟩:=h;exact⟨_,.ref (as[i]'(by omega)),SqL.of e,by simp[hl,hi]⟩
theorem RowsL.stop(h:RowsL H l rows):(Itl K l).stop rows.length H:=by obtain⟨as,e,hl,r⟩:=h;exact⟨_,SqL.of e,by simp[hl]⟩
theorem RowsL.item(h:RowsL H l rows){i:Nat}{r:List V}(hr:rows[i]?=some r){x:V}(y:(Itl K l).yld i H x H'):H'=H/\∃a,x=.ref a/\H a=some (.tup r):=by
 obtain⟨as,e,hl,q⟩:=h;have hi:i<as.length:=by rw[hl];exact(ak.mp hr).1
 obtain⟨rfl,z⟩:=y;have:=z _ (SqL.of e);rw[aJ,gE hi]at this;exact⟨rfl,as[i],(au this).symm,q i _ r (gE hi) hr⟩
theorem RowsL.at_(h:RowsL H l rows){i:Nat}{r:List V}(hr:rows[i]?=some r):∃(xs:List V)(a:Addr),H l=some (.lst xs)/\xs.length=rows.length/\xs[i]?=some (.ref a)/\H a=some (.tup r):=by
 obtain⟨as,e,hl,q⟩:=h;have hi:i<as.length:=by rw[hl];exact(ak.mp hr).1
 exact⟨_,as[i],e,by rw[lm,hl],by rw[aJ,gE hi];rfl,q i _ r (gE hi) hr⟩
theorem RowsL.lst(h:RowsL H l rows):∃xs:List V,H l=some (.lst xs)/\xs.length=rows.length:=by obtain⟨as,e,hl,_⟩:=h;exact⟨_,e,by rw[lm,hl]⟩
end
noncomputable def sfx(j:Nat):Str:=sufs.getD (j % 3) ""
theorem Mf(j:Nat):sfx j∈sufs:=by have:j % 3<sufs.length:=Nat.mod_lt _ (by decide);unfold sfx;rw[aw,gE this];exact aE this
theorem FD(j:Nat):(sufs.map V.str)[j % 3]?=some (.str (sfx j)):=by have:j % 3<sufs.length:=Nat.mod_lt _ (by decide);unfold sfx;rw[aJ,aw,gE this];rfl
noncomputable def gnm(ts:List Str)(i:Nat):List Str:=(aV i).map λj=>ts.getD j ""++sfx j
theorem HQ{ts:List Str}(nd:ts.Nodup)(nx:∀t∈ts,Nx t):(gnm ts ts.length).Nodup:=by
 refine nodup_map_on fP λx hx y hy e=>?_;rw[bp]at hx hy;have ex:ts.getD x ""=ts[x]:=by rw[aw,gE hx];rfl
 have ey:ts.getD y ""=ts[y]:=by rw[aw,gE hy];rfl
 rw[ex,ey]at e;exact(iz nd).mp (Du (nx _ (aE hx)) (nx _ (aE hy)) (Mf x) (Mf y) e)
def Gx(t:Str):Prop:=∃u s,Nx u/\s∈sufs/\t=u++s
theorem HR{ts:List Str}(nx:∀t∈ts,Nx t):∀t∈gnm ts ts.length,Gx t:=λt ht=>by obtain⟨j,hj,rfl⟩:=ah.mp ht;rw[bp]at hj;refine⟨_,_,?_,Mf j,rfl⟩;rw[aw,gE hj];exact nx _ (aE hj)
theorem AG{t:Str}(h:Nx t):t≠"":=λz=>by obtain⟨_,⟨c,r,e,_⟩,_⟩:=h;rw[z]at e;cases e
theorem AV{t:Str}(h:Gx t):t≠"":=λz=>by obtain⟨u,s,hu,_,rfl⟩:=h;obtain⟨_,⟨c,r,e,_⟩,_⟩:=hu;have:=congrArg codes z;rw[YF,e]at this;cases this
theorem AU:¬Gx "q.q":=λ hZ=>by
 obtain⟨u,s,hu,hs,e⟩:=hZ
 have e1:=N9 hu hs;rw[<-e]at e1;have e2:codes u=[113]:=e1.symm.trans (by decide +kernel);have e3:codes "q.q"=codes u++codes s:=by rw[e,YF]
 rw[e2]at e3;have:∀s∈sufs,codes "q.q"≠[113]++codes s:=by decide +kernel
 exact this s hs e3
noncomputable def NmOk:Nat->Str->Prop
|2,t=>Gx t
|_,t=>Nx t
structure RowsX(j:Nat)(n:Int)(ns ss nm:List Str)(R:List (List V)):Prop where
 names:R.map nameOf=nm.take R.length
 ok:∀row∈R,OkR j n ns ss (nameOf row) row
theorem Ls{j:Nat}(hj:j<3){n:Int}{ns ss:List Str}{nm:Str}{row:List V}(h:OkR j n ns ss nm row):nameOf row=nm:=by
 rcases j with _|_|_|j
 ·obtain⟨r,rfl,e,_⟩:=h.1 rfl;exact e
 ·obtain⟨r,rfl,e,_⟩:=h.2.1 rfl;exact e
 ·obtain⟨r,rfl,e,_⟩:=h.2.2 rfl;exact e
 ·omega
theorem El{j:Nat}{t:Str}(h:NmOk j t):t≠"":=by
 unfold NmOk at h;split at h
 ·exact AV h
 ·exact AG h
theorem at3{f:Nat->Addr}{j:Nat}(hj:j<3):atI [V.ref (f 0),.ref (f 1),.ref (f 2)] (j:Int)=some (.ref (f j)):=by
 rcases j with _|_|_|j
 ·exact ZD (j:=0) rfl
 ·exact ZD (j:=1) rfl
 ·exact ZD (j:=2) rfl
 ·omega
theorem RowsX.app{j:Nat}{n:Int}{ns ss nm:List Str}{R:List (List V)}{row:List V}{t:Str}(hj:j<3)(h:RowsX j n ns ss nm R)(e:nm[R.length]?=some t)(o:OkR j n ns ss t row):RowsX j n ns ss nm (R++[row]):=by
 have en:=Ls hj o;refine⟨?_,λr hr=>?_⟩
 ·rw[aL,h.names,aj];show _++[nameOf row]=nm.take (R.length+1);rw[bc,e,en];rfl
 ·rcases aD.mp hr with hr|hr
  ·exact h.ok r hr
  ·rw[aB]at hr;subst hr;rw[en];exact o
def SD(K:aa):Sp:=λvs H Q _=>∃(a lp:Addr)(zs:List Int)(fi:Nat)(mo n:Int)(ps:Pl),vs=[.ref a,.int (fi:Nat),.int mo,.int n,.ref lp]/\SqL K H a (zs.map V.int)/\zs.length<=1000/\fi<=100/\0<=mo/\mo<=100/\1<=n/\n<=30/\RowsL H lp (ps.map plRow)/\PlX ps /\∀H' q(L:Nat->Addr)(nm:Nat->List Str)(R:Nat->List (List V)),Same H H'->H' q=some (.lst [.ref (L 0),.ref (L 1),.ref (L 2)])->(∀j,j<3->RowsL H' (L j) (R j)/\(R j).length<=20/\(nm j).Nodup/\(∀t∈nm j,NmOk j t)/\RowsX j n (ps.map (·.1)) ((ps.filter λp=>p.2.isSome).map (·.1)) (nm j) (R j))->(R 2).length<=8->Q (.ref q) H'
section
variable {P:Program}{w:World}{K:aa}{mg:Str->Option Value}{base:Heap}
theorem ZJ:FnScope ["_law_script","_law_first","_law_most","_law_turns",q_p,"_law_plain",q_b,"_law_names_here","_law_k","_law_name","_law_rows_here","_law_start","_law_goals","_law_homes","_law_goal","_law_way_here","_law_make"] ["_law_script","_law_first","_law_most","_law_turns",q_p] (Zc T.f__law_rows):=scO
noncomputable def VY:Scope:=csx [(".0",.local),("_law_place",.local),("_law_room",.local)]
theorem GB:CompScope VY (Zc T.f__law_rows):=⟨rfl,by decide +kernel,by decide +kernel,by decide +kernel⟩
theorem Jx:(["_law_place","_law_room"]:List Str).Nodup:=by decide +kernel
theorem GC:CompNames ["_law_script","_law_first","_law_most","_law_turns",q_p,"_law_plain",q_b,"_law_names_here","_law_k","_law_name","_law_rows_here","_law_start","_law_goals","_law_homes","_law_goal","_law_way_here","_law_make"] VY ["_law_place","_law_room"] [none,none]:=.mk' (by decide +kernel)
noncomputable def VX:Scope:=csx [(".0",.local),("_law_k",.local),("_law_name",.local)]
theorem Gz:CompScope VX (Zc T.f__law_rows):=⟨rfl,by decide +kernel,by decide +kernel,by decide +kernel⟩
theorem Jw:(["_law_k","_law_name"]:List Str).Nodup:=by decide +kernel
theorem GA:CompNames ["_law_script","_law_first","_law_most","_law_turns",q_p,"_law_plain",q_b,"_law_names_here","_law_k","_law_name","_law_rows_here","_law_start","_law_goals","_law_homes","_law_goal","_law_way_here","_law_make"] VX ["_law_k","_law_name"] [none,none]:=.mk' (by decide +kernel)
noncomputable def Ja:Scope:=csx [(".0",.local),("_law_place",.local),("_law_room",.local),("_law_start",.free)]
theorem Gw:CompScope Ja (Zc T.f__law_rows):=⟨rfl,by decide +kernel,by decide +kernel,by decide +kernel⟩
theorem Jv:(["_law_place","_law_room","_law_start"]:List Str).Nodup:=by decide +kernel
theorem Gy:CompNames ["_law_script","_law_first","_law_most","_law_turns",q_p,"_law_plain",q_b,"_law_names_here","_law_k","_law_name","_law_rows_here","_law_start","_law_goals","_law_homes","_law_goal","_law_way_here","_law_make"] Ja ["_law_place","_law_room","_law_start"] [none,none,some 11]:=.mk' (by decide +kernel)
noncomputable def X9:Scope:=csx [(".0",.local),("_law_place",.local),("_law_plain",.free)]
theorem Gs:CompScope X9 (Zc T.f__law_rows):=⟨rfl,by decide +kernel,by decide +kernel,by decide +kernel⟩
theorem Gv:(["_law_place","_law_plain"]:List Str).Nodup:=by decide +kernel
theorem Gu:CompNames ["_law_script","_law_first","_law_most","_law_turns",q_p,"_law_plain",q_b,"_law_names_here","_law_k","_law_name","_law_rows_here","_law_start","_law_goals","_law_homes","_law_goal","_law_way_here","_law_make"] X9 ["_law_place","_law_plain"] [none,some 5]:=.mk' (by decide +kernel)
theorem WO(B:∀x∈Blts,mg x=none)(Mn:mg "min"=none)(CC:Can P w K mg base 1 "_law_cell" ["_law_script","_law_k"] (Ph K))(CB:Can P w K mg base 1 "_law_box" ["_law_cell_here"] SE)(CT:Can P w K mg base 1 "_law_take" [q_b,"_law_many"] Y1)(CN:Can P w K mg base 2 "_law_names" [q_b,"_law_many"] Pd)(CR:Can P w K mg base 2 "_law_ride" VS (VR 0))(CW:Can P w K mg base 2 "_law_way" VS (VR 1))(CG:Can P w K mg base 2 "_law_group" VS (VR 2))(D:Df K mg "_law_rows" T.f__law_rows ["_law_script","_law_first","_law_most","_law_turns",q_p]):Can P w K mg base 3 "_law_rows" ["_law_script","_law_first","_law_most","_law_turns",q_p] (SD K):=by
 obtain⟨f0,fd0,F0,m0,k0,b0⟩:=CR;obtain⟨f1,fd1,F1,m1,k1,b1⟩:=CW;obtain⟨f2,fd2,F2,m2,k2,b2⟩:=CG;have hR:∀f sp,((f=f0/\sp=VR 0)\/(f=f1/\sp=VR 1)\/(f=f2/\sp=VR 2))->IsFn P w K mg base 2 VS f sp:=λf sp h=>by
  rcases h with⟨rfl,rfl⟩|⟨rfl,rfl⟩|⟨rfl,rfl⟩
  ·exact⟨_,F0,k0,b0⟩
  ·exact⟨_,F1,k1,b1⟩
  ·exact⟨_,F2,k2,b2⟩
 refine D.cn ZJ λf cdv A outer s H vs Q E hr h=>?_;obtain⟨a,lp,zs,fi,mo,n,ps,rfl,hS,hzl,fi1,mo0,mo1,n1,n2,hP,px,k⟩:=h;refine' ⟨_,(@Za _ _ _ _ _ ?h34 (@Za _ _ _ _ _ ?h35 (@Za _ _ _ _ _ ?h36 (@Za _ _ _ _ _ ?h37 (@Za _ _ _ _ _ ?h38 (@Za _ _ _ _ _ ?h39 (@Zd _ _ _ ?h40))))))),?rd⟩;case' h40=>refine' (Zl (pv 10))
 case' h39=>refine' (Yc aT rfl (Xp rfl (bm B) (@pa2 _ _ _ _ _ Zb (Zv (GX rfl) rfl (bm B) fA (@pa2 _ _ _ _ _ Zb (Zv (NZ rfl) rfl Mn iJ (@pa2 _ _ _ _ _ (pv 2) (Zo XZ (Zv (r:=rLen K) Z1 rfl (bm B) ba (@pa1 _ _ _ (pv 0) (by rfl))) (pv 1)) (by rfl))) (by rfl))) (by rfl))) (nmT 8 ZJ.nd) (@Za _ _ _ _ _ ?h24 (@Za _ _ _ _ _ ?h25 (@Za _ _ _ _ _ ?h26 (@Za _ _ _ _ _ ?h27 (@Za _ _ _ _ _ ?h28 (@Za _ _ _ _ _ ?h29 (@Za _ _ _ _ _ ?h30 (@Za _ _ _ _ _ ?h31 (@Za _ _ _ _ _ ?h32 (@Zd _ _ _ ?h33)))))))))))
 case' h38=>refine' (@st _ _ _ _ 10 _ _ ZJ.nd ?h6 (by rfl) (by exact aO rfl) (by rfl) (by exact .inl rfl))
 case' h37=>refine' (V9 (Z0 rfl Gz GA (Lf rfl (bm B) (@pa1 _ _ _ ?h2 (by rfl)) (by decide +kernel)) (λC s H ex pn=>(Mj (K:=K) (n:=2) rfl rfl (Zn (nmT 0 Jw) (Zn (nmT 1 Jw) Yd)))) (λC s H ex pn=>Yp) (λC s H ex pn=>(Zo JK (pv 1) (il K (@Zy _ _ _ _ (@JG _ _ (by decide +kernel))) (Zo Xi (pv 0) Zb))))) (Rv (pv 7) Zb set_list))
 case' h36=>refine' (@st _ _ _ _ 7 _ _ ZJ.nd ?h1 (by rfl) (by exact aO rfl) (by rfl) (by exact .inl rfl))
 case' h35=>refine' (@st _ _ _ _ 6 _ _ ZJ.nd (cn CB hr (@pa1 _ _ _ (cn CC hr (@pa2 _ _ _ _ _ (pv 0) (pv 1) (by rfl))) (by rfl))) (by rfl) (by exact aO rfl) (by rfl) (by exact .inl rfl))
 case' h34=>refine' (@Yn _ _ 5 _ _ _ _ ZJ.nd (by rfl) (by exact dC rfl) (Z0 rfl GB GC (ZW (pv 4)) (λC s H ex pn=>(Mj (K:=K) (n:=2) rfl rfl (Zn (nmT 0 Jx) (Zn (nmT 1 Jx) Yd)))) (λC s H ex pn=>(Y9 (Zt VD (pv 1) ZF (ZC _)))) (λC s H ex pn=>(pv 0))) (by rfl) (by exact aO rfl))
 case' h33=>refine' (@ZG _ _ _ _ _ _ _ _ (@Zt _ _ _ _ _ _ _ _ NG (pv 9) ZE (ZC _)) (@Za _ _ _ _ _ ?h22 (@Zd _ _ _ ?h23)) Zp)
 case' h32=>refine' (@st _ _ _ _ 9 _ _ ZJ.nd ?h18 (by rfl) (by exact aO rfl) (by rfl) (by exact .inl rfl))
 case' h31=>refine' (@ZG _ _ _ _ _ _ _ _ (@Zt _ _ _ _ _ _ _ _ SW (pv 8) Zb (ZC _)) (@Zd _ _ _ ?h14) Zp)
 case' h30=>refine' (@st _ _ _ _ 15 _ _ ZJ.nd ?h11 (by rfl) (by exact aO rfl) (by rfl) (by exact .inl rfl))
 case' h29=>refine' (@st _ _ _ _ 14 _ _ ZJ.nd ?h10 (by rfl) (by exact aO rfl) (by rfl) (by exact .inl rfl))
 case' h28=>refine' (@ZG _ _ _ _ _ _ _ _ (PW.pt (U8 (@Zt _ _ _ _ _ _ _ _ (MT hr.units) (pv 13) ?h8 (ZC _)) (VA (@Zt _ _ _ _ _ _ _ _ Xw (cn CT hr (@pa2 _ _ _ _ _ (pv 6) Zb (by rfl))) Zb (ZC _))))) (@Zd _ _ _ ?h9) Zp)
 case' h27=>refine' (Mi (i:=13) ZJ.nd rfl (aO rfl) (scope:=X9) (N:=["_law_place","_law_plain"]) (cp:=[none,some 5]) rfl Gs Gu (ZW (pv 12)) (λC s H ex pn=>(nmT 0 Gv)) (λC s H ex pn=>(Y9 (Zt (NF (K:=K) rfl) (pv 0) (pv 1) (by with_unfolding_all rfl)))) (λC s H ex pn=>(pv 0)))
 case' h26=>refine' (Mi (i:=12) ZJ.nd rfl (aO rfl) (scope:=Ja) (N:=["_law_place","_law_room","_law_start"]) (cp:=[none,none,some 11]) rfl Gw Gy (ZW (pv 4)) (λC s H ex pn=>(Mj (K:=K) (n:=2) rfl rfl (Zn (nmT 0 Jv) (Zn (nmT 1 Jv) Yd)))) (λC s H ex pn=>(Y9 (Zt NG (pv 0) (pv 2) (ZC _)))) (λC s H ex pn=>(pv 0)))
 case' h25=>refine' (@Yn _ _ 11 _ _ _ _ ZJ.nd (by rfl) (by exact dC rfl) ?h7 (by rfl) (by exact aO rfl))
 case' h24=>refine' (@st _ _ _ _ 6 _ _ ZJ.nd (cn CB hr (@pa1 _ _ _ (cn CC hr (@pa2 _ _ _ _ _ (pv 0) (Zo ZI (pv 1) (pv 8)) (by rfl))) (by rfl))) (by rfl) (by exact aO rfl) (by rfl) (by exact .inl rfl))
 case' h23=>refine' (Z7 (MS b6 dN dM VF ?h21 (@pa1 _ _ _ (Ln (i:=16) hR hr.m rfl (aO rfl) (@Ze _ _ _ _ _ (pv 6) (@Ze _ _ _ _ _ (pv 9) (@pa3 _ _ _ _ _ _ _ (pv 3) (pv 11) (pv 14) (by rfl)) (by rfl)) (by rfl))) (by rfl))))
 case' h22=>refine' (@st _ _ _ _ 16 _ _ ZJ.nd ?h20 (by rfl) (by exact aO rfl) (by rfl) (by exact .inl rfl))
 case' h21=>refine' (@il _ _ _ _ _ _ K (pv 10) (pv 15) (by rfl) (by exact λ_ _=>rfl))
 case' h20=>refine' (@il _ _ _ _ _ _ K ?h19 (pv 15) (by rfl) (by exact λ_ _=>rfl))
 case' h19=>refine' (@Zy _ _ _ _ (@pa3 _ _ _ _ _ _ _ (Z4 (v:=V.ref f0) rfl m0 rfl) (Z4 (v:=V.ref f1) rfl m1 rfl) (Z4 (v:=V.ref f2) rfl m2 rfl) (by rfl)))
 case' h18=>refine' (@il _ _ _ _ _ _ K (Zo Z6 (Xd (r:=rSlL K) Uq ?h15 (XN (Zv (r:=rLen K) Z1 rfl (bm B) ba (@pa1 _ _ _ ?h16 (by rfl)))) XO) ?h17) Zb (by rfl) (by exact λ_ _=>rfl))
 case' h17=>refine' (@Zy _ _ _ _ (@pa1 _ _ _ ZE (by rfl)))
 case' h16=>refine' (@il _ _ _ _ _ _ K (pv 10) (pv 15) (by rfl) (by exact λ_ _=>rfl))
 case' h15=>refine' (@il _ _ _ _ _ _ K (pv 7) (pv 15) (by rfl) (by exact λ_ _=>rfl))
 case' h14=>refine' (@st _ _ _ _ 15 _ _ ZJ.nd ?h13 (by rfl) (by exact aO rfl) (by rfl) (by exact .inl rfl))
 case' h13=>refine' (@il _ _ _ _ _ _ K ?h12 (Zo XZ (pv 8) Zb) (by rfl) (by exact λ_ _=>rfl))
 case' h12=>refine' (@Zy _ _ _ _ (@pa2 _ _ _ _ _ Zb Zb (by rfl)))
 case' h11=>refine' (@il _ _ _ _ _ _ K (@Zy _ _ _ _ (@JG _ _ (by decide +kernel))) (cn CT hr (@pa2 _ _ _ _ _ (pv 6) Zb (by rfl))) (by rfl) (by exact λ_ _=>rfl))
 case' h10=>refine' (@il _ _ _ _ _ _ K (pv 12) (cn CT hr (@pa2 _ _ _ _ _ (pv 6) (Zv (r:=rLen K) Z1 rfl (bm B) ba (@pa1 _ _ _ (pv 12) (by rfl))) (by rfl))) (by rfl) (by exact λ_ _=>rfl))
 case' h9=>refine' (@st _ _ _ _ 12 _ _ ZJ.nd (pv 13) (by rfl) (by exact aO rfl) (by rfl) (by exact .inl rfl))
 case' h8=>refine' (@Zy _ _ _ _ Zk)
 case' h7=>refine' (@il _ _ _ _ _ _ K (pv 5) (cn CT hr (@pa2 _ _ _ _ _ (pv 6) (Zv (r:=rLen K) Z1 rfl (bm B) ba (@pa1 _ _ _ (pv 5) (by rfl))) (by rfl))) (by rfl) (by exact λ_ _=>rfl))
 case' h6=>refine' (@Zy _ _ _ _ (@pa3 _ _ _ _ _ _ _ ?h5 ?h4 ?h3 (by rfl)))
 case' h5=>refine' (@Zy _ _ _ _ Zk)
 case' h4=>refine' (@Zy _ _ _ _ Zk)
 case' h3=>refine' (@Zy _ _ _ _ Zk)
 case' h2=>refine' (@il _ _ _ _ _ _ K (pv 7) Zb (by rfl) (by exact λ_ _=>rfl))
 case' h1=>refine' (@Zy _ _ _ _ (@pa3 _ _ _ _ _ _ _ (cn CN hr (@pa2 _ _ _ _ _ (pv 6) Zb (by rfl))) (cn CN hr (@pa2 _ _ _ _ _ (pv 6) Zb (by rfl))) (cn CN hr (@pa2 _ _ _ _ _ (pv 6) Zb (by rfl))) (by rfl)))
 case' rd=>
 have hpl:ps.length<=sizeLine:=Nat.le_trans (Nat.le_trans px.hi (by decide:9<=1000)) (by decide);have hpr:∀{i:Nat}{p:Str×Option Int},ps[i]?=some p->(ps.map plRow)[i]?=some (plRow p):=λh=>by rw[aJ,h];rfl
 rw[show L2.start (["_law_script","_law_first","_law_most","_law_turns",q_p,"_law_plain",q_b,"_law_names_here","_law_k","_law_name","_law_rows_here","_law_start","_law_goals","_law_homes","_law_goal","_law_way_here","_law_make"]:List Str) [V.ref a,.int fi,.int mo,.int n,.ref lp]=[some (.ref a),some (.int fi),some (.int mo),some (.int n),some (.ref lp),none,none,none,none,none,none,none,none,none,none,none,none]from rfl];refine tq λE1 hE1=>?_;refine⟨_,rfl,lp,rfl,⟨_,SqL.of hP.choose_spec.1⟩,?_⟩;refine GW (J:=Itl K lp) ps hpl (λp=>p.2.isSome) (λp=>V.str p.1) (λτ=>∃v1 v2,τ=[v1,v2]) ⟨none,none,rfl⟩ (λi hi=>hP.go (by rw[lm];exact hi)) (by have:=hP.stop (K:=K);rwa [bq]at this) (λi x τ v H' hx st yl N1 N2 h1 h2=>?_) λlS hlS=>?_
 ·obtain⟨v1,v2,rfl⟩:=st;obtain⟨rfl,a',rfl,ha⟩:=hP.item (hpr hx) yl;refine⟨a',_,rfl,SqT.of ha,rfl,_,_,rfl,_,_,rfl,rfl,_,rfl,rfl,_,rfl,?_⟩;rw[TY];exact XS (λe=>⟨_,rfl,h1 e _ ⟨_,_,rfl⟩⟩) (λe=>h2 e _ ⟨_,_,rfl⟩)
 obtain⟨ss,ess⟩:∃ss,ss=(ps.filter λp=>p.2.isSome).map (·.1):=⟨_,rfl⟩;have e1:(ps.filter λp=>p.2.isSome).map (λp=>V.str p.1)=ss.map V.str:=by rw[ess,bI];rfl
 rw[e1];dsimp only[Zq,ay];refine nl hlS λHa Sa eS=>?_;refine hE1 _ _ (tq λE2 hE2=>?_);clear hE1;have hss:∀t∈ss,t∈ps.map (·.1):=λt ht=>by rw[ess]at ht;obtain⟨p,hp',rfl⟩:=ah.mp ht;exact ah.mpr ⟨p,(bA.mp hp').1,rfl⟩
 have lss:0<ss.length/\ss.length<=9:=by rw[ess,lm];obtain⟨p,hp,e⟩:=px.pl;exact⟨List.length_pos_of_mem (bA.mpr ⟨hp,e⟩),Nat.le_trans (bO _ _) px.hi⟩
 refine⟨_,rfl,_,rfl,a,zs,fi,rfl,hS.same Sa,hzl,by omega,λc=>⟨c,rfl,λb Hb hb0 Bb Sb=>?_⟩⟩;dsimp only[Zq,ay];refine hE2 _ _ (tq λE3 hE3=>?_);clear hE2;refine⟨_,rfl,b,20,rfl,Bb,by decide,by decide,λH1 t0 ts0 B1 S1 f0' e0 ne0 hc0 nd0 nx0=>?_⟩;refine⟨_,rfl,b,6,rfl,B1,by decide,by decide,λH2 t1 ts1 B2 S2 f1' e1' ne1 hc1 nd1 nx1=>?_⟩;refine⟨_,rfl,b,8,rfl,B2,by decide,by decide,λH3 t2 ts2 B3 S3 f2' e2 ne2 hc2 nd2 nx2=>?_⟩;have e03:=S3 _ _ (S2 _ _ e0 ne0) ne0;have e13:=S3 _ _ e1' ne1;have Sa3:Same Ha H3:=Yz hb0 Sb ((S1.trans S2).trans S3);clear S1 S2 S3 Sb e0 e1' f0' f1' f2' B1 B2 Bb;refine⟨(zl),λlM hM=>?_⟩;dsimp only[Zq,ay];refine nl hM λH4 S4 e4=>?_;refine hE3 _ _ (tq λE4 hE4=>?_);clear hE3;have e24:=S4 _ _ e2;refine ixL 2 e4 rfl ⟨t2,_,rfl,e24,?_⟩;refine YY (J:=DE t2) ts2.length (Nat.le_trans (by omega:ts2.length<=1000) (by decide)) (λi ys τ H'=>Same H4 H'/\ys=(gnm ts2 i).map V.str/\∃v1 v2,τ=[v1,v2]) ⟨Same.refl _,rfl,none,none,rfl⟩ (λi ys τ H' q=>?_) (λi ys τ H' hi q=>⟨_,q.1 _ _ e24,by simp[hi]⟩) (λys τ H' q=>⟨_,q.1 _ _ e24,by simp⟩) (λi ys τ H' x H5 hi q yl=>?_) (λys τ H' q g2 hg2=>?_)
 ·obtain⟨_,rfl,_⟩:=q;simp[gnm]
 ·obtain⟨s1,rfl,v1,v2,rfl⟩:=q;obtain⟨t,xs,y,ht,hxs,hy,rfl,rfl⟩:=yl;rw[s1 _ _ e24]at hxs;cases hxs;have hy2:y=V.str ts2[i]:=by simp[hi]at hy;exact hy.symm
  subst hy2;refine nl2 ht λH6 S6 e6=>?_;refine⟨t,_,rfl,SqT.of e6,rfl,_,_,rfl,_,_,rfl,rfl,?_⟩;dsimp only[Zq,ay];refine⟨_,rfl,(zl),λlq hq=>?_⟩;have eq7:upd H6 lq (.lst (sufs.map V.str)) lq=some (.lst (sufs.map V.str)):=Zf;have S7:Same H6 (upd H6 lq (.lst (sufs.map V.str))):=sameNew (Same.refl _) hq;show tOp _ _ _ _ (upd H6 lq (.lst (sufs.map V.str))) _;generalize upd H6 lq (.lst (sufs.map V.str))=H7 at eq7 S7 ⊢;have hm3:(i:Int) % 3=((i % 3:Nat):Int):=by omega
  have hnx:=nx2 _ (aE hi);have hlen:(ts2[i]:Str).length+(sfx i).length<=100:=by have h1:=hnx.1;have h2:=(Rc _ (Mf i)).1;rw[ZX]at h1 h2;omega
  refine⟨_,rfl,_,_,rfl,rfl,(by show(0:Int)<3;decide),lq,_,_,_,rfl,rfl,SqL.of eq7,PV (j:=i % 3) hm3 (FD i),_,_,rfl,rfl,Nat.le_trans hlen (by decide),(s1.trans S6).trans S7,?_,_,_,rfl⟩;unfold gnm;rw[bV,aL,aL];congr 1;show[V.str (ts2[i]++sfx i)]=[V.str (ts2.getD i ""++sfx i)];rw[aw,gE hi];rfl
 obtain⟨s4,rfl,v1,v2,rfl⟩:=q;refine nl2 hg2 λH5 S5 e5=>?_;have S45:=s4.trans S5;refine⟨_,rfl,lM,_,2,2,rfl,rfl,S45 _ _ e4,rfl,?_⟩;have hMa:Ha lM=none:=by
  cases e:Ha lM with
 |none=>rfl
 |some o=>rw[Sa3 _ _ e]at hM;cases hM
 have S36:Same H3 (upd H5 lM (.lst [.ref t0,.ref t1,.ref g2])):=λc o e=>by rw[Zg (Zi e hM)];exact S45 _ _ (S4 _ _ e)
 have e56:upd H5 lM (.lst [.ref t0,.ref t1,.ref g2]) g2=some (.lst ((gnm ts2 ts2.length).map V.str)):=by rw[Zg (λz=>by rw[z,s4 _ _ e4]at hg2;cases hg2)];exact e5
 have eM6:upd H5 lM (.lst [.ref t0,.ref t1,.ref g2]) lM=some (.lst [.ref t0,.ref t1,.ref g2]):=Zf;dsimp only[ay];show E4.nx [some (.ref a),some (.int fi),some (.int mo),some (.int n),some (.ref lp),some (.ref lS),some (.ref b),some (.ref lM),none,none,none,none,none,none,none,none,none] (upd H5 lM (.lst [.ref t0,.ref t1,.ref g2]));generalize upd H5 lM (.lst [.ref t0,.ref t1,.ref g2])=HS at S36 e56 eM6 ⊢;refine hE4 _ _ (tq λE5 hE5=>?_);clear hE4;have SaS:=Sa3.trans S36;have e0S:=S36 _ _ e03;have e1S:=S36 _ _ e13;clear S45 S5 e5 s4 S4 e4 e24 hM hMa e03 e13 Sa3 S36 e2 hg2;refine⟨Nat.zero_le _,λl0 hl0=>⟨Nat.zero_le _,λl1 hl1=>⟨Nat.zero_le _,λl2 hl2=>⟨(zl),λlR hlR=>?_⟩⟩⟩⟩;obtain⟨n10,hl1'⟩:=fr2 hl1;obtain⟨n21,hl2'⟩:=fr2 hl2;obtain⟨n20,hl2''⟩:=fr2 hl2';obtain⟨nR2,hR'⟩:=fr2 hlR;obtain⟨nR1,hR''⟩:=fr2 hR';obtain⟨nR0,hR0⟩:=fr2 hR'';have fL:∀j,j<3->HS (tri l0 l1 l2 j)=none:=λj hj=>by
  rcases j with _|_|_|j
  ·exact hl0
  ·exact hl1'
  ·exact hl2''
  ·omega
 have nL:∀i j,i<3->j<3->i≠j->tri l0 l1 l2 i≠tri l0 l1 l2 j:=λi j hi hj hne=>by rcases i with _|_|_|i<;>rcases j with _|_|_|j<;>first|omega|exact n10|exact n21|exact n20|exact bo n10|exact bo n21|exact bo n20
 have nR:∀j,j<3->lR≠tri l0 l1 l2 j:=λj hj=>by
  rcases j with _|_|_|j
  ·exact nR0
  ·exact nR1
  ·exact nR2
  ·omega
 have E6:∀j,j<3->upd (upd (upd (upd HS l0 (.lst [])) l1 (.lst [])) l2 (.lst [])) lR (.lst [.ref l0,.ref l1,.ref l2]) (tri l0 l1 l2 j)=some (.lst []):=λj hj=>by
  rw[Zg (bo (nR j hj))];rcases j with _|_|_|j
  ·show upd _ _ _ l0=_;rw[Zg (bo n20),Zg (bo n10),Zf]
  ·show upd _ _ _ l1=_;rw[Zg (bo n21),Zf]
  ·exact Zf
  ·omega
 have S6:Same HS (upd (upd (upd (upd HS l0 (.lst [])) l1 (.lst [])) l2 (.lst [])) lR (.lst [.ref l0,.ref l1,.ref l2])):=sameNew (sameNew (sameNew (sameNew (Same.refl HS) hl0) hl1) hl2) hlR;have eR6:upd (upd (upd (upd HS l0 (.lst [])) l1 (.lst [])) l2 (.lst [])) lR (.lst [.ref l0,.ref l1,.ref l2]) lR=some (.lst [.ref l0,.ref l1,.ref l2]):=Zf;dsimp only[Zq,ay];generalize upd (upd (upd (upd HS l0 (.lst [])) l1 (.lst [])) l2 (.lst [])) lR (.lst [.ref l0,.ref l1,.ref l2])=H6 at E6 S6 eR6 ⊢;clear hlR hR' hR'' hR0 hl2 hl2' hl2'' hl1 hl1' hl0 n10 n21 n20 nR2 nR1 nR0;have hSS:=hS.same (Sa.trans SaS);obtain⟨nm,enm⟩:∃nm,nm=tri ts0 ts1 (gnm ts2 ts2.length):=⟨_,rfl⟩;obtain⟨tl,etl⟩:∃tl,tl=tri t0 t1 g2:=⟨_,rfl⟩;have nmE:∀j,j<3->HS (tl j)=some (.lst ((nm j).map V.str))/\(nm j).Nodup/\(∀t∈nm j,NmOk j t)/\(nm j).length<=20:=λj hj=>by
  subst enm etl;rcases j with _|_|_|j
  ·exact⟨e0S,nd0,nx0,by show ts0.length<=20;omega⟩
  ·exact⟨e1S,nd1,nx1,by show ts1.length<=20;omega⟩
  ·exact⟨e56,HQ nd2 nx2,HR nx2,by show(gnm ts2 ts2.length).length<=20;simp[gnm];omega⟩
  ·omega
 have nm2:(nm 2).length<=8:=by subst enm;show(gnm ts2 ts2.length).length<=8;simp[gnm];omega
 have eM':HS lM=some (.lst [.ref (tl 0),.ref (tl 1),.ref (tl 2)]):=by subst etl;exact eM6
 clear e0S e1S e56 eM6 enm etl;obtain⟨ll,ell⟩:∃ll,ll=tri l0 l1 l2:=⟨_,rfl⟩;rw[<-ell]at fL nL nR E6;have eR6':H6 lR=some (.lst [.ref (ll 0),.ref (ll 1),.ref (ll 2)]):=by subst ell;exact eR6
 clear eR6;have pS:=hP.same (Sa.trans SaS);have sS:=SaS _ _ eS;have Same0:Same H HS:=Sa.trans SaS;generalize hns:ps.map (·.1)=ns at hss;have lpn:ps.length=ns.length:=by rw[<-hns,lm]
 clear hP SaS Sa eS hS hlS;clear l0 l1 l2 ell;refine hE5 _ _ (tq λDD hkk=>?_);clear hE5;refine⟨_,rfl,_,rfl,a,_,rfl,.inl (hSS.same S6),_,rfl,_,_,rfl,rfl,_,_,rfl,_,_,rfl,?_⟩;rw[lm];generalize hm:(if(if(zs.length:Int)-fi<mo then(zs.length:Int)-fi else mo)>10 then(if(zs.length:Int)-fi<mo then(zs.length:Int)-fi else mo)else 10)=mm;have hm1:10<=mm/\mm<=100:=by
  subst hm;split
  ·split at *<;>omega
  ·omega
 clear hm;refine⟨1,mm,rfl,⟨by decide,by decide,by omega,by omega⟩,?_⟩;refine YC (J:=Itr 1 (mm-1).toNat) (mm-1).toNat (λi σ H'=>Same HS H'/\H' lR=some (.lst [.ref (ll 0),.ref (ll 1),.ref (ll 2)])/\(∃R:Nat->List (List V),∀j,j<3->RowsL H' (ll j) (R j)/\(R j).length<=(nm j).length/\RowsX j n ns ss (nm j) (R j))/\∃o:Nat->Option V,σ=[some (.ref a),some (.int fi),some (.int mo),some (.int n),some (.ref lp),some (.ref lS),o 6,some (.ref lM),o 8,o 9,some (.ref lR),o 11,o 12,o 13,o 14,o 15,o 16]) ?_ (λi σ H' hi q=>hi) (λσ H' q=>Nat.le_refl _) (λi σ Hz v H0 hi q yl=>?_) (λσ H' q=>?_)
 ·exact⟨S6,eR6',⟨λ_=>[],λj hj=>⟨RowsL.nil (E6 j hj),Nat.zero_le _,rfl,by simp⟩⟩,shp rfl⟩
 ·obtain⟨s0,er0,⟨R,hR3⟩,o,rfl⟩:=q;obtain⟨rfl,rfl⟩:=yl;dsimp only[Zq,ay];refine td λD' hdd=>?_;refine tq λG1 hG1=>?_;refine⟨_,rfl,_,rfl,_,rfl,_,_,rfl,rfl,a,zs,fi+(1+i),(by push_cast;rfl),hSS.same s0,hzl,by omega,λc=>⟨c,rfl,λb' H2 hb0 B2 S2=>?_⟩⟩;dsimp only[Zq,ay];refine hG1 _ _ (tq λG2 hG2=>?_);clear hG1;have sl9:∀{m:Nat},m<=9->m<=sizeLine:=λh=>Nat.le_trans (Nat.le_trans h (by decide:9<=1000)) (by decide);refine⟨_,rfl,_,rfl,_,rfl,lS,_,rfl,.inl (SqL.of (S2 _ _ (s0 _ _ sS))),b',_,rfl,B2,(by rw[lm];omega),Yj (by rw[lm];omega) (by rw[lm];omega),λr H3 r0 r1 B3 S3=>?_⟩;obtain⟨v3,at3',m3⟩:=at_of (xs:=ss.map V.str) r0 r1;obtain⟨sa,hsa,rfl⟩:=ah.mp m3;have S03:Same H0 H3:=Yz hb0 S2 S3;refine⟨lS,_,_,_,rfl,rfl,SqL.of (S03 _ _ (s0 _ _ sS)),at3',?_⟩;clear at3' m3 r0 r1;dsimp only[Zq,ay];refine hG2 _ _ (tq λG3 hG3=>?_);clear hG2;have p3:=(pS.same s0).same S03;refine⟨_,rfl,lp,rfl,⟨_,SqL.of p3.choose_spec.1⟩,?_⟩;refine GW (J:=Itl K lp) ps hpl (λp=>decide (p.1≠sa)) (λp=>V.str p.1) (λτ=>∃v1 v2,τ=[v1,v2,some (.str sa)]) ⟨none,none,rfl⟩ (λi hi=>p3.go (by rw[lm];exact hi)) (by have:=p3.stop (K:=K);rwa [bq]at this) (λi x τ v H' hx st yl N1 N2 h1 h2=>?_) λlG hlG=>?_
  ·obtain⟨v1,v2,rfl⟩:=st;obtain⟨rfl,a',rfl,ha⟩:=p3.item (hpr hx) yl;refine⟨a',_,rfl,SqT.of ha,rfl,_,_,rfl,_,_,rfl,rfl,_,rfl,_,rfl,rfl,_,rfl,?_⟩;rw[Kj];exact XS (λe=>⟨_,rfl,h1 e _ ⟨_,_,rfl⟩⟩) (λe=>h2 e _ ⟨_,_,rfl⟩)
  obtain⟨gs,egs⟩:∃gs,gs=(ps.filter λp=>decide (p.1≠sa)).map (·.1):=⟨_,rfl⟩;rw[show(ps.filter λp=>decide (p.1≠sa)).map (λp=>V.str p.1)=gs.map V.str from by rw[egs,bI];rfl];have gsm:∀t∈gs,t∈ns/\t≠sa:=λt ht=>by rw[egs]at ht;obtain⟨p,hp',rfl⟩:=ah.mp ht;obtain⟨m1,m2⟩:=bA.mp hp';exact⟨hns▸ah.mpr ⟨p,m1,rfl⟩,of_decide_eq_true m2⟩
  have gs9:gs.length<=9:=by rw[egs,lm];exact Nat.le_trans (bO _ _) px.hi
  have gs0:0<gs.length:=by
   have hex:∃p∈ps,p.1≠sa:=by
    have h2:=px.lo;by_cases e:(ps[0]'(by omega)).1=sa
    ·refine⟨ps[1]'(by omega),aE _,λz=>?_⟩;have hh:=fC.mp px.nd 0 1 (by rw[lm];omega) (by rw[lm];omega) (by decide);rw[fQ,fQ]at hh;exact hh (e.trans z.symm)
    ·exact⟨_,aE _,e⟩
   obtain⟨p,hp,e⟩:=hex;rw[egs,lm];exact List.length_pos_of_mem (bA.mpr ⟨hp,decide_eq_true e⟩)
  clear egs p3;dsimp only[Zq,ay];refine al B3 hlG λH4 B4 S4 eG nG=>?_;refine hG3 _ _ (tq λG4 hG4=>?_);clear hG3;have S04:Same H0 H4:=Yz hb0 S2 (S3.trans S4);have sS4:=S04 _ _ (s0 _ _ sS);refine⟨_,rfl,lG,rfl,⟨_,SqL.of eG⟩,?_⟩;refine GW (J:=Itl K lG) gs (sl9 gs9) (λt=>!inV (.str t) (ss.map V.str)) V.str (λτ=>∃v1,τ=[v1,some (.ref lS)]) ⟨none,rfl⟩ (λi hi=>⟨_,V.str gs[i],SqL.of eG,by simp[hi]⟩) ⟨_,SqL.of eG,by simp⟩ (λi x τ v H' hx st yl N1 N2 h1 h2=>?_) λlH hlH=>?_
  ·obtain⟨v1,rfl⟩:=st;obtain⟨rfl,hy⟩:=yl;have hv:v=V.str x:=by have:=hy _ (SqL.of eG);rw[aJ,hx]at this;exact(au this).symm
   subst hv;refine⟨_,rfl,_,rfl,lS,_,rfl,.inl (SqL.of sS4),rfl,(by simp[Yw]),_,rfl,?_⟩;exact XS (λe=>⟨_,rfl,h1 e _ ⟨_,rfl⟩⟩) (λe=>h2 e _ ⟨_,rfl⟩)
  generalize ehs:(gs.filter λt=>!inV (.str t) (ss.map V.str))=hs;have hsm:∀t∈hs,t∈gs:=λt ht=>by rw[<-ehs]at ht;exact(bA.mp ht).1
  have hs9:hs.length<=9:=by rw[<-ehs];exact Nat.le_trans (bO _ _) gs9
  dsimp only[Zq,ay];refine al B4 hlH λH5 B5 S5 eH nH=>?_;have S25:Zj b' H2 H5:=(S3.trans S4).trans S5;have eG5:=S5 _ _ eG nG;clear ehs S3 S4 S5 S04 S03 sS4 B3 B4 hlG hlH eG;refine hG4 _ _ (tq λD1 hk1=>?_);clear hG4;have fin1:∀(H':Hp)(lX:Addr)(xs:List Str)(p:Nat->Option V),ZA H' b'->Zj b' H2 H'->lX≠b'->H' lX=some (.lst (xs.map V.str))->0<xs.length->xs.length<=9->(∀t∈xs,t∈ns/\t≠sa) ->D1.nx [some (.ref a),some (.int fi),some (.int mo),some (.int n),some (.ref lp),some (.ref lS),some (.ref b'),some (.ref lM),some (.int (1+i)),p 9,some (.ref lR),some (.str sa),some (.ref lX),p 13,p 14,p 15,p 16] H':=by
   intro H' lX xs p bX sX nX eX x0 x9 xm;refine hk1 _ _ (tq λJ1 hJ1=>?_);refine⟨_,rfl,_,rfl,_,rfl,lX,_,rfl,.inl (SqL.of eX),b',_,rfl,bX,(by rw[lm];omega),Yj (by rw[lm];omega) (by rw[lm];omega),λr H7 r0 r1 B7 S7=>?_⟩;obtain⟨v7,at7,m7⟩:=at_of (xs:=xs.map V.str) r0 r1;obtain⟨gl,hgl,rfl⟩:=ah.mp m7;refine⟨lX,_,_,_,rfl,rfl,SqL.of (S7 _ _ eX nX),at7,?_⟩;dsimp only[Zq,ay];refine hJ1 _ _ (tq λJ2 hJ2=>?_);clear hJ1;clear at7 m7 r0 r1;refine⟨(zl),λl8 h8=>?_⟩;dsimp only;refine al2E (o':=.lst (([0,0,1,2,2]:List Int).map V.int)) rfl B7 h8 λH8 B8 S8 e8 n8=>?_;refine tkC B8 (λr' H9 r0' r1' B9 S9=>?_);obtain⟨wy,hat,w0,w1⟩:=at_i (xs:=[0,0,1,2,2]) (lo:=0) (hi:=2) r0' r1' (by decide);refine⟨l8,_,_,_,rfl,rfl,SqL.of (S9 _ _ e8 n8),hat,?_⟩;clear hat r0' r1';obtain⟨j0,rfl⟩:=Int.eq_ofNat_of_zero_le w0;have S29:=((sX.trans S7).trans S8).trans S9;clear S7 S8 S9 e8 h8 B7 B8 bX;dsimp only[Zq,ay];refine hJ2 _ _ (tq λD2 hk2=>?_);clear hJ2;have fin2:∀(H':Hp)(j:Nat)(p:Nat->Option V),j<3->ZA H' b'->Zj b' H2 H'->D2.nx [some (.ref a),some (.int fi),some (.int mo),some (.int n),some (.ref lp),some (.ref lS),some (.ref b'),some (.ref lM),some (.int (1+i)),p 9,some (.ref lR),some (.str sa),some (.ref lX),p 13,some (.str gl),some (.int j),p 16] H':=by
    intro H' j p hj bH sH;refine hk2 _ _ (tq λJ3 hJ3=>?_);have SH:Same H0 H':=Yz hb0 S2 sH;obtain⟨eN,ndj,nxj,l20⟩:=nmE j hj;have eNH:=SH _ _ (s0 _ _ eN);have eMH:=SH _ _ (s0 _ _ eM');have eRH:=SH _ _ er0;obtain⟨rj,lj,xj⟩:=hR3 j hj;have rjH:=rj.same SH;obtain⟨ys,eY,lY⟩:=rjH.lst;refine⟨_,rfl,_,rfl,lM,_,_,_,rfl,rfl,SqL.of eMH,at3 hj,_,rfl,_,rfl,lR,_,_,_,rfl,rfl,SqL.of eRH,at3 hj,_,_,rfl,.inl (SqL.of eY),_,rfl,_,_,rfl,SqL.of eNH,λl11 h11=>?_⟩;dsimp only;refine al2E (o':=.lst (((nm j).drop (R j).length).map V.str)) (by rw[QU _ (Int.natCast_nonneg _),lY,Int.toNat_natCast,gP]) bH h11 λH11 B11 S11 e11 n11=>?_;refine⟨Nat.le_trans (by decide:1<=1000) (by decide),λl12 h12=>?_⟩;dsimp only;refine al2 B11 h12 λH12 B12 S12 e12 n12=>?_;refine⟨l11,l12,_,_,rfl,rfl,S12 _ _ e11 n11,e12,Nat.le_trans (by rw[lm,bD];show _+1<=1000;omega:_<=1000) (by decide),λl13 h13=>?_⟩;dsimp only;refine al2 B12 h13 λH13 B13 S13 e13 n13=>?_;have S213:=((sH.trans S11).trans S12).trans S13;have SH13:Same H0 H13:=Yz hb0 S2 S213;clear S11 S12 e11 e12 n11 n12 h11 h12 B11 B12 eNH eMH eRH rjH eY lY ys SH;by_cases hlt:(R j).length<(nm j).length
    ·have hg:(nm j)[(R j).length]?=some (nm j)[(R j).length]:=gE hlt;have hmem:(nm j)[(R j).length]∈nm j:=aE hlt;rw[fD hlt]at e13;generalize (nm j)[(R j).length]=t at hg hmem e13;have tne:=El (nxj t hmem);refine⟨l13,_,0,_,rfl,rfl,SqL.of e13,ZD (j:=0) (v:=V.str t) rfl,?_⟩;dsimp only[Zq,ay];refine hJ3 _ _ ?_;refine⟨_,rfl,rfl,_,rfl,?_⟩;rw[Kj,decide_eq_true tne];refine iteT ?_;refine tq λJ4 hJ4=>?_;refine⟨Nat.le_trans (by decide:3<=1000) (by decide),λl14 h14=>?_⟩;dsimp only;refine al2 B13 h14 λH14 B14 S14 e14 n14=>?_;have SH14:Same H0 H14:=Yz hb0 S2 (S213.trans S14);refine⟨_,rfl,l14,_,_,_,rfl,rfl,SqL.of e14,at3 (f:=tri f0 f1 f2) hj,?_⟩;dsimp only[Zq,ay];refine hJ4 _ _ ?_;have eR14:=SH14 _ _ er0;obtain⟨ys,eY,lY⟩:=(rj.same SH14).lst;refine⟨_,rfl,_,rfl,lR,_,_,_,rfl,rfl,SqL.of eR14,at3 hj,.inl ⟨rfl,_,SqL.of eY⟩,tri f0 f1 f2 j,VR j,rfl,?_,_,rfl,_,rfl,_,rfl,_,rfl,_,rfl,?_⟩
     ·rcases j with _|_|_|j
      ·exact .inl ⟨rfl,rfl⟩
      ·exact .inr (.inl ⟨rfl,rfl⟩)
      ·exact .inr (.inr ⟨rfl,rfl⟩)
      ·omega
     refine⟨b',t,sa,gl,n,ns,ss,rfl,B14,n1,n2,hsa,hss sa hsa,(xm gl hgl).1,bo (xm gl hgl).2,λH15 q row B15 S15 fq eq okr=>?_⟩;have SH15:Same H0 H15:=Yz hb0 S2 ((S213.trans S14).trans S15);obtain⟨zs',eZ,lZ,app⟩:=(rj.same SH15).app eq;refine⟨ll j,zs',_,rfl,rfl,eZ,Nat.lt_of_le_of_lt (by omega:_<=20) (by decide),?_⟩;have sP:∀{c:Addr}{ob:HO},H15 c=some ob->c≠ll j->upd H15 (ll j) (.lst (zs'++[.ref q])) c=some ob:=λe hc=>(Zg hc).trans e;refine hdd _ _ ⟨λc ob e=>sP (SH15 _ _ (s0 _ _ e)) (Zi e (fL j hj)),sP (SH15 _ _ er0) (nR j hj),⟨λm=>if m=j then R j++[row]else R m,λm hm=>?_⟩,shp rfl⟩;dsimp only;by_cases e:m=j
     ·subst e;rw[if_pos rfl];refine⟨app,by rw[aj];show _+1<=_;omega,xj.app hm hg okr⟩
     ·rw[if_neg e];obtain⟨r1,r2,r3⟩:=hR3 m hm;exact⟨(r1.same SH15).other (nL m j hm hj e) eZ,r2,r3⟩
    ·rw[d9 (by omega)]at e13;refine⟨l13,_,0,_,rfl,rfl,SqL.of e13,ZD (j:=0) (v:=V.str "") rfl,?_⟩;dsimp only[Zq,ay];refine hJ3 _ _ ?_;refine⟨_,rfl,rfl,_,rfl,?_⟩;rw[Kj,decide_eq_false (λz=>z rfl)];refine iteF ?_;refine hdd _ _ ⟨s0.trans SH13,SH13 _ _ er0,⟨R,λm hm=>?_⟩,shp rfl⟩;obtain⟨r1,r2,r3⟩:=hR3 m hm;exact⟨r1.same SH13,r2,r3⟩
   refine⟨_,rfl,_,_,rfl,rfl,_,rfl,?_⟩;refine ite2 (λe=>?_) (λ_=>?_)
   ·have e':=of_decide_eq_true e;refine⟨(zl),λl10 h10=>?_⟩;dsimp only;refine al2E (o':=.lst (([2,0]:List Int).map V.int)) rfl B9 h10 λH10 B10 S10 e10 n10=>?_;have hi2:i<2:=by omega
    have hat:∃j:Nat,j<3/\atI (([2,0]:List Int).map V.int) ((1+(i:Int))-1)=some (.int j):=by
     rcases i with _|_|i
     ·exact⟨2,by decide,ZD (j:=0) rfl⟩
     ·exact⟨0,by decide,ZD (j:=1) rfl⟩
     ·omega
    obtain⟨j,hj,hat⟩:=hat
    refine⟨_,rfl,_,_,rfl,rfl,l10,_,_,_,rfl,rfl,SqL.of e10,hat,?_⟩;exact fin2 H10 j p hj B10 (S29.trans S10)
   ·exact fin2 H9 j0 p (by omega) B9 S29
  refine⟨_,rfl,Nat.zero_le _,λle he=>?_⟩;refine⟨_,_,_,rfl,rfl,SqL.of ((Zg (Zi eH he)).trans eH),Zf,_,rfl,?_⟩;have nele:=B5.ne he;refine al B5 he λH6' B6' S6' e6' n6'=>?_;have S26:=S25.trans S6';refine ite2 (λec=>?_) (λ_=>?_)
  ·have hs0:0<hs.length:=by
    cases hs with
   |nil=>simp at ec
   |cons a l=>simp
   refine tkC B6' (λr7 H7 r70 r71 B7 S7=>?_);refine⟨rfl,_,rfl,?_⟩;refine ite2 (λ_=>?_) (λ_=>?_)
   ·exact⟨_,rfl,fin1 H7 lH hs (λj=>[none,none,none,none,none,none,none,none,none,o 9,none,none,none,some (.ref lH),o 14,o 15,o 16].getD j none) B7 (S26.trans S7) nH (S7 _ _ (S6' _ _ eH nH) nH) hs0 hs9 λt ht=>gsm t (hsm t ht)⟩
   ·exact fin1 H7 lG gs (λj=>[none,none,none,none,none,none,none,none,none,o 9,none,none,none,some (.ref lH),o 14,o 15,o 16].getD j none) B7 (S26.trans S7) nG (S7 _ _ (S6' _ _ eG5 nG) nG) gs0 gs9 gsm
  ·exact fin1 H6' lG gs (λj=>[none,none,none,none,none,none,none,none,none,o 9,none,none,none,some (.ref lH),o 14,o 15,o 16].getD j none) B6' S26 nG (S6' _ _ eG5 nG) gs0 gs9 gsm
 ·obtain⟨s0,er0,⟨R,hR3⟩,o,rfl⟩:=q;refine hkk _ _ ⟨_,rfl,?_⟩;refine k H' lR ll nm R (Same0.trans s0) er0 (λj hj=>?_) ?_
  ·obtain⟨h1,h2,h3⟩:=hR3 j hj;obtain⟨_,nd,nx,l20⟩:=nmE j hj;refine⟨h1,by omega,nd,nx,?_⟩;rw[hns,<-ess];exact h3
  ·have:=(hR3 2 (by decide)).2.1;omega
end
noncomputable def dF:V->PyData
|.int i=>.int i
|.str z=>.str z
|.bl c=>.bool c
|_=>.none
end WD
namespace L2
open PySem PySem.Spec PyProof.Rows
theorem QT{P:Program}{w:World}{H:Hp}{h:Heap}{a:Addr}(ok:HOk P w H h)(e:H a=some (.dK [])):Reads h (.ref a) (.dict []) [a]/\a≠sysModules:=by obtain⟨_,ns,vs,kv,o,es,ep,ho,ex,hd,hk,hp,_⟩:=Fj ok e;refine⟨?_,λq=>by simp[q]at ns⟩;cases kv;generalize hl:es.toList=l at hp;cases hp;have:=Reads.dict (h:=h) (a:=a) (o:=o) (es:=es) (n:=ep) (kvs:=[]) (as:=[]) (bs:=[]) ho ex.1 hd (by rw[hl];exact .nil) (by rw[hl];exact .nil);exact this
inductive IsX(H:Hp):V->PyData->Prop
|of {x:V}{d:PyData} (h:Is H x d):IsX H x d
|dk {a:Addr} (e:H a=some (.dK [])):IsX H (.ref a) (.dict [])
noncomputable def FH:List V->Hp->VK->Prop:=λxs H Q=>∃x d,xs=[x]/\IsX H x d/\d.showable=true/\d.depth<=64/\d.shown.length<=sizeLine/\Q (.str d.shown) H
theorem Uj{X:Cx}{k:Nat}(hr:Room k X.A):YI X (.builtin "repr") FH:=by
 intro pins s σ H xs us Q I r h;obtain⟨x,d,rfl,hd,hs,hdp,hz,q⟩:=h;cases hd with
|of h=>exact R9 hr pins s σ H _ us Q I r ⟨x,d,rfl,h,hs,hdp,hz,q⟩
|@dk a e=>obtain⟨u,rfl,rx⟩:=vals1 r;cases rx;obtain⟨rd,ns⟩:=QT I.hok e;exact hV rd hs (λ_ hm=>by simp at hm;exact ns hm.symm) hr.gd (by have:=hr.un;omega) (λ_ _ e=>e) (λh' u tk hk=>⟨.str _,H,I.kept hk,⟨u,rfl⟩,q⟩) hz
end L2
namespace WD
open PySem L2 PySem.Spec PyProof.Rows TB
def GS(z:Str):Prop:=z.length<=12/\∀c∈z.cps.toList,c<0x110000
noncomputable instance (z:Str):Decidable (GS z):=by unfold GS;infer_instance
inductive Atm:V->Prop
|non:Atm .non
|int {i:Int} (h:i.natAbs<=1000):Atm (.int i)
|str {z:Str} (h:GS z):Atm (.str z)
structure Sm(d:PyData)(k m:Nat):Prop where
 sh:d.showable=true
 lv:d.leavesShort 13=true
 dp:d.depth<=k
 wt:d.weight<=m
theorem lgk{i:Nat}(h:i<=1000):i.log2<=11:=by
 by_cases e:i=0
 ·subst e;decide
 ·exact Nat.lt_succ_iff.mp ((Nat.log2_lt e).mpr (by omega))
theorem shown_int{i:Int}(h:i.natAbs<=1000):((PyData.int i).shown).length<=13:=by
 have key:∀n:Nat,n<=1000->((PyData.int n).shown).length<=13/\((PyData.int (-(n:Int))).shown).length<=13:=by intro n hn;have:=(by decide +kernel:∀k∈aV 1001,((PyData.int (k:Nat)).shown).length<=13/\((PyData.int (-((k:Nat):Int))).shown).length<=13);exact this n (bp.mpr (by omega))
 rcases Int.natAbs_eq i with e|e
 ·rw[e];exact(key _ h).1
 ·rw[e];exact(key _ h).2
theorem Atm.sm{v:V}(h:Atm v):Sm (dF v) 0 12:=by
 cases h with
|non=>exact⟨rfl,rfl,Nat.le_refl _,Nat.zero_le _⟩
|int h=>
  have:=lgk h;refine⟨?_,?_,Nat.le_refl _,?_⟩
  ·simp only[dF,PyData.showable,decide_eq_true_eq];omega
  ·simp only[dF,PyData.leavesShort,decide_eq_true_eq];exact shown_int h
  ·simp only[dF,PyData.weight];split<;>omega
|str h=>refine⟨by simp only[dF,PyData.showable],?_,Nat.le_refl _,h.1⟩;simp only[dF,PyData.leavesShort,bg,decide_eq_true_eq];exact λc hc=>Nat.lt_of_lt_of_le (h.2 c hc) (by decide)
structure SmAll(ds:List PyData)(k m:Nat):Prop where
 sh:PyData.showableAll ds=true
 lv:PyData.leavesShortAll 13 ds=true
 dp:PyData.depthAll ds<=k
 wt:PyData.weightAll ds<=ds.length*(m+1)
theorem SmAll.of{k m:Nat}:∀{ds:List PyData},(∀d∈ds,Sm d k m)->SmAll ds k m
|[],_=>⟨rfl,rfl,Nat.zero_le _,Nat.zero_le _⟩
|d::ds,h=>by
  have h1:=h d aG;have h2:=SmAll.of (ds:=ds) λx hx=>h x (av _ hx);refine⟨?_,?_,?_,?_⟩
  ·simp only[PyData.showableAll,h1.sh,h2.sh,Bool.and_self]
  ·simp only[PyData.leavesShortAll,h1.lv,h2.lv,Bool.and_self]
  ·simp only[PyData.depthAll];have:=h1.dp;have:=h2.dp;omega
  ·simp only[PyData.weightAll,aR,Nat.succ_mul];have:=h1.wt;have:=h2.wt;omega
theorem SmAll.tup{ds:List PyData}{k m n:Nat}(h:SmAll ds k m)(hl:ds.length<=n):Sm (.tuple ds) (k+1) (n*(m+1)):=by
 refine⟨?_,?_,?_,?_⟩
 ·simp only[PyData.showable,h.sh]
 ·simp only[PyData.leavesShort,h.lv]
 ·simp only[PyData.depth];have:=h.dp;omega
 ·simp only[PyData.weight];exact Nat.le_trans h.wt (Nat.mul_le_mul_right _ hl)
theorem Sm.mono{d:PyData}{k m k' m':Nat}(h:Sm d k m)(hk:k<=k')(hm:m<=m'):Sm d k' m':=⟨h.sh,h.lv,Nat.le_trans h.dp hk,Nat.le_trans h.wt hm⟩
theorem Sm.shown{d:PyData}{k:Nat}(h:Sm d k 200000):d.shown.length<=sizeLine:=by
 have h2:=PyData.shown_le 13 (by decide) d h.lv;have:=h.wt;exact Nat.le_trans h2 (by
  have:(15:Nat)*200000+13<=sizeLine:=by decide
  omega)
structure Shw(d:PyData):Prop where
 sh:d.showable=true
 dp:d.depth<=64
 len:d.shown.length<=sizeLine
theorem Sm.shw{d:PyData}{k m:Nat}(h:Sm d k m)(hk:k<=64)(hm:m<=200000):Shw d:=⟨h.sh,Nat.le_trans h.dp hk,(h.mono (Nat.le_refl k) hm).shown⟩
end WD
namespace TB
open PySem L2 PySem.Spec PyProof.Rows WD
theorem DA.same{H H':Hp}(sm:Same H H'){v:V}{r:PR}(h:DA H v r):DA H' v r:=by
 cases r with
|none=>obtain⟨T,th,a⟩:=h;exact⟨T,th.same sm,a⟩
|some q=>
  obtain⟨xs,rs⟩:=q;obtain⟨⟨p,rfl,hp⟩,h1,h2⟩:=h;refine⟨⟨p,rfl,?_⟩,h1,λi y r e1 e2=>?_⟩
  ·rcases hp with hp|hp
   ·exact .inl (sm _ _ hp)
   ·exact .inr (sm _ _ hp)
  ·have:=h2 i y r e1 e2;cases r with
  |none=>obtain⟨T,th,a⟩:=this;exact⟨T,th.same sm,a⟩
  |some ys=>obtain⟨p,rfl,a,b⟩:=this;exact⟨p,rfl,sm _ _ a,λy hy=>let ⟨T,th⟩:=b y hy;⟨T,th.same sm⟩⟩
structure TabP(H:Hp)(C t:Addr)(fs:List (Str×V))(n:Int)(r1 r2 r3 r4:PR)(k:Ks):Prop where
 tab:TabOf H C t fs n r1 r2 r3 r4 k
 rows:∀r,r=r1\/r=r2\/r=r3\/r=r4->∀xs rs,r=some (xs,rs)->YZ H xs rs
theorem Row.same{H H':Hp}(s:Same H H'){v:V}{r:Option (List V)}(h:Row H v r):Row H' v r:=by
 cases r with
|none=>obtain⟨T,t,n⟩:=h;exact⟨T,t.same s,n⟩
|some ys=>obtain⟨p,e,a,t⟩:=h;exact⟨p,e,s _ _ a,λy hy=>let ⟨T,u⟩:=t y hy;⟨T,u.same s⟩⟩
theorem YZ.same{H H':Hp}(s:Same H H'){xs:List V}{rs:List (Option (List V))}(h:YZ H xs rs):YZ H' xs rs:=⟨h.1,λi x r e1 e2=>(h.2 i x r e1 e2).same s⟩
theorem Vx.same{H H':Hp}(s:Same H H'){fs:List (Str×V)}{f g:Str}{r:PR}{k:List (Key×V)}(h:Vx H fs f g r k):Vx H' fs f g r k:=by obtain⟨l,d,xs,rs,a1,a2,a3,a4,a5⟩:=h;exact⟨l,d,xs,rs,a1,a2,a3,s _ _ a4,s _ _ a5⟩
theorem TabP.same{H H':Hp}{C t:Addr}{fs:List (Str×V)}{n:Int}{r1 r2 r3 r4:PR}{k:Ks}(s:Same H H')(h:TabP H C t fs n r1 r2 r3 r4 k):TabP H' C t fs n r1 r2 r3 r4 k:=⟨⟨⟨let ⟨dx,e⟩:=h.tab.tab.at_;⟨dx,s _ _ e⟩,h.tab.tab.only⟩,h.tab.turns,h.tab.p.same s,h.tab.r.same s,h.tab.w.same s,h.tab.g.same s⟩,λr hr xs rs e=>(h.rows r hr xs rs e).same s⟩
end TB
namespace WD
open PySem L2 PySem.Spec PyProof.Rows TB
def isJ(j:Nat):Prop:=j=1\/j=2\/j=3\/j=4
theorem OkTb.flat{T:Tb}(o:OkTb T){j:Nat}(hj:isJ j):∀ys∈T.part j,∀y∈ys,Flat y:=λys h=>((o.part j hj).2.row ys h).flat
def Tel(H:Hp)(C t:Addr)(T:Tb):Prop:=∃fs x1 x2 x3 x4 k,TabP H C t fs T.n (prs x1 T.t1) (prs x2 T.t2) (prs x3 T.t3) (prs x4 T.t4) k/\TbDict T x2 x3 x4 k
theorem Tel.same{H H':Hp}{C t:Addr}{T:Tb}(s:Same H H')(h:Tel H C t T):Tel H' C t T:=by obtain⟨fs,x1,x2,x3,x4,k,tp,d⟩:=h;exact⟨fs,x1,x2,x3,x4,k,tp.same s,d⟩
theorem K2{k1:Kv}{n:Int}{s l g a m:V}(h:Us k1 n s l g a m=.non):YT k1 s g=.non/\∃i,l=.int i/\K1.Zw (.int i) 0 (n-1)=true/\K1.Zw a (i+1) n=true/\K1.Zw m 0 1000=true:=by
 unfold Us at h;by_cases e:YT k1 s g=.non
 ·rw[if_neg (λz=>z e)]at h;refine⟨e,?_⟩;cases l with
 |int i=>dsimp only at h;refine⟨i,rfl,?_⟩;cases h1:K1.Zw (.int i) 0 (n-1)<;>cases h2:K1.Zw a (i+1) n<;>cases h3:K1.Zw m 0 1000<;>simp_all
 |_=>cases h
 ·rw[if_pos e]at h;exact absurd h e
theorem DG{k1:Kv}{s g l m:V}(h:wayV k1 s g l m=.non):YT k1 s g=.non/\K1.Zw l 1 50=true/\K1.Zw m 0 1000=true:=by
 unfold wayV at h;by_cases e:YT k1 s g=.non
 ·rw[if_neg (λz=>z e)]at h;refine⟨e,?_⟩;cases h1:K1.Zw l 1 50<;>cases h2:K1.Zw m 0 1000<;>simp_all
 ·rw[if_pos e]at h;exact absurd h e
theorem Ws{k1:Kv}{n pp:Int}{p t m:V}(h:Y6 k1 n pp p t m=.non):ZV p k1=true/\K1.Zw t 0 n=true:=by unfold Y6 at h;cases h1:ZV p k1<;>cases h2:K1.Zw t 0 n<;>simp_all
theorem UE{k1:Kv}{s g:V}(h:YT k1 s g=.non):ZV s k1=true/\ZV g k1=true/\UA s k1=false:=by unfold YT at h;cases h1:ZV s k1<;>cases h2:ZV g k1<;>cases h3:UA s k1<;>simp_all
theorem PF{g:Bool}{z:Str}(h:Z8 g (.str z)=true):z.length<=1000:=by
 have h12:K1.lenB 12 (codes z)=true\/K1.lenB 8 (codes z)=true:=by
  cases g
  ·right;have h':K1.Jn 8 (K1.codes K1.tNAME) (codes z)=true:=h;unfold K1.Jn K1.YH at h';exact(Bool.and_eq_true_iff.mp (Bool.and_eq_true_iff.mp h').1).1
  ·left;have h':K1.Jn 12 (K1.codes K1.tGROUP) (codes z)=true:=h;unfold K1.Jn K1.YH at h';exact(Bool.and_eq_true_iff.mp (Bool.and_eq_true_iff.mp h').1).1
 unfold K1.lenB at h12;rw[ZX]at h12;simp only[Bool.and_eq_true,decide_eq_true_eq]at h12;omega
theorem QP{ps:Pl}{s g:Str}(h:Ends ps s g){k1:Kv}(hk:UZ k1 (ps.map plRow)):YT k1 (.str s) (.str g)=.non:=by obtain⟨⟨i,hi⟩,⟨r,hr⟩,ne⟩:=h;have e1:valV k1 (.inr s)=some (.int i):=hk _ (ah.mpr ⟨_,hi,rfl⟩);have e2:valV k1 (.inr g)=some (Ur r):=hk _ (ah.mpr ⟨_,hr,rfl⟩);unfold YT ZV UA;simp only[e1,e2,Option.isSome_some,Bool.not_true,Bool.or_false,Bool.false_eq_true,if_false];rw[if_neg (by simp),if_neg (by intro z;injection z with z;exact ne z.symm)]
theorem Xe(i:Int):Flat (.int i):=.inr (.inl ⟨i,rfl⟩)
theorem YX{z:Str}(h:z.length<=1000):Flat (.str z):=.inr (.inr ⟨z,rfl,h⟩)
section
variable {n:Int}{ps:Pl}
theorem AD{p:Str×Option Int}{t1:List (List V)}(hn:Z8 false (.str p.1)=true)(hr:∀i,p.2=some i->0<=i/\i<=1000):RowOk 1 n t1 (plRow p):=by
 refine⟨rfl,hn,λk1 _ pp _=>?_,λz=>(by cases z),λy hy=>?_⟩
 ·show Yy (Ur p.2)=.non;unfold Yy;rw[if_pos];cases e:p.2 with
 |none=>rfl
 |some i=>have:=hr i e;simp[Ur,K1.Zw,this.1,this.2]
 ·simp only[plRow,ao,aF,or_false]at hy;rcases hy with rfl|rfl
  ·exact YX (PF hn)
  ·cases p.2 with
  |none=>exact .inl rfl
  |some i=>exact Xe i
theorem Az(gp:∀p∈ps,p.1.length<=1000){r:Rd}(g:GoodRd n ps r)(hn:Z8 false (.str r.nm)=true):RowOk 2 n (ps.map plRow) (SK r):=by
 refine⟨rfl,hn,λk1 hk pp _=>?_,λz=>(by cases z),λy hy=>?_⟩
 ·show Us k1 n (.str r.st) (.int r.lv) (.str r.gl) (.int r.cm) (.int r.se)=.non;unfold Us;rw[QP g.ends (hk (by decide)),if_neg (λz=>z rfl)];dsimp only;rw[Y0 g.lv0 g.lv1,Y0 g.cm0 g.cm1,Y0 g.se0 g.se1];rfl
 ·obtain⟨⟨i,hi⟩,⟨x,hx⟩,_⟩:=g.ends;simp only[SK,ao,aF,or_false]at hy;rcases hy with rfl|rfl|rfl|rfl|rfl|rfl
  ·exact YX (PF hn)
  ·exact YX (gp _ hi)
  ·exact Xe _
  ·exact YX (gp _ hx)
  ·exact Xe _
  ·exact Xe _
theorem Af(gp:∀p∈ps,p.1.length<=1000){r:Wy}(g:GoodWy ps r)(hn:Z8 false (.str r.nm)=true):RowOk 3 n (ps.map plRow) (Sj r):=by
 refine⟨rfl,hn,λk1 hk pp _=>?_,λz=>(by cases z),λy hy=>?_⟩
 ·show wayV k1 (.str r.st) (.str r.gl) (.int r.lo) (.int r.wi)=.non;unfold wayV;rw[QP g.ends (hk (by decide)),if_neg (λz=>z rfl),Y0 g.lo0 g.lo1,Y0 g.wi0 g.wi1];rfl
 ·obtain⟨⟨i,hi⟩,⟨x,hx⟩,_⟩:=g.ends;simp only[Sj,ao,aF,or_false]at hy;rcases hy with rfl|rfl|rfl|rfl|rfl
  ·exact YX (PF hn)
  ·exact YX (gp _ hi)
  ·exact YX (gp _ hx)
  ·exact Xe _
  ·exact Xe _
theorem AW{t1:List (List V)}{r:Gr}{v:V}(hp:∃p∈t1,nameOf p=r.pl)(pl:r.pl.length<=1000)(t0:0<=r.tu)(t1':r.tu<=n)(m0:0<=r.ma)(m1:r.ma<=300)(hn:Z8 true (.str r.nm)=true):RowOk 4 n t1 (QK r):=by
 refine⟨rfl,hn,λk1 hk pp hpp=>?_,λ_=>m0,λy hy=>?_⟩
 ·show Y6 k1 n pp (.str r.pl) (.int r.tu) (.int r.ma)=.non;obtain⟨p,hp,e⟩:=hp;have e1:=hk (by decide) p hp;rw[e]at e1;unfold Y6;rw[show ZV (.str r.pl) k1=true from by show(valV k1 (.inr r.pl)).isSome=true;rw[e1];rfl,Y0 t0 t1'];dsimp only;rw[Y0 m0 m1];have:=hpp rfl;have em:Zz (QK r)=r.ma:=rfl;rw[em]at this;simp only[Bool.not_true,Bool.false_eq_true,if_false];rw[if_neg (by omega)]
 ·simp only[QK,ao,aF,or_false]at hy;rcases hy with rfl|rfl|rfl|rfl
  ·exact YX (PF hn)
  ·exact YX pl
  ·exact Xe _
  ·exact Xe _
end
theorem Mm{T:Tb}(o:OkTb T):∃k1,PlDict k1 T.t1:=by obtain⟨k1,_,d,_⟩:=T9 (j:=1) (k1:=[]) (n:=T.n) (t1:=T.t1) (.inl rfl) (λh=>absurd rfl h) (o.part 1 (.inl rfl)) (xs:=T.t1.map λ_=>V.non) (by rw[lm];rfl);exact⟨k1,d rfl⟩
theorem MH:(∀c∈K1.codes K1.tNAME,c<0x110000)/\∀c∈K1.codes K1.tGROUP,c<0x110000:=by decide +kernel
theorem Em{g:Bool}{z:Str}(h:Z8 g (.str z)=true):GS z:=by
 cases g
 ·have h':K1.Jn 8 (K1.codes K1.tNAME) (codes z)=true:=h;unfold K1.Jn K1.YH K1.lenB at h';simp only[Bool.and_eq_true,decide_eq_true_eq,bg]at h';exact⟨by rw[<-ZX];omega,λc hc=>MH.1 c (h'.1.2 c hc)⟩
 ·have h':K1.Jn 12 (K1.codes K1.tGROUP) (codes z)=true:=h;unfold K1.Jn K1.YH K1.lenB at h';simp only[Bool.and_eq_true,decide_eq_true_eq,bg]at h';exact⟨by rw[<-ZX];omega,λc hc=>MH.2 c (h'.1.2 c hc)⟩
theorem within_int{v:V}{lo hi:Int}(h:K1.Zw v lo hi=true):∃i,v=.int i/\lo<=i/\i<=hi:=by
 cases v with
|int i=>have h':(decide (lo<=i)&&decide (i<=hi))=true:=h;simp only[Bool.and_eq_true,decide_eq_true_eq]at h';exact⟨i,rfl,h'.1,h'.2⟩
|_=>cases h
theorem Ve{k1:Kv}{n pp:Int}{p t m:V}(h:Y6 k1 n pp p t m=.non):ZV p k1=true/\K1.Zw t 0 n=true/\∃i,m=.int i/\0<=i/\i<=300:=by
 obtain⟨h1,h2⟩:=Ws h;refine⟨h1,h2,?_⟩;unfold Y6 at h;rw[h1,h2]at h;cases m with
|int i=>
  cases hw:K1.Zw (.int i) 0 300 with
 |true=>exact within_int hw
 |false=>dsimp only at h;rw[hw]at h;cases h
|_=>cases h
theorem RE{k1:Kv}{t1:List (List V)}(hk:PlDict k1 t1){x:V}(h:ZV x k1=true):∃p∈t1,x=.str (nameOf p):=by
 obtain⟨z,v,rfl,hv⟩:=Yu h;by_cases hz:z∈t1.map nameOf
 ·obtain⟨p,hp,e⟩:=ah.mp hz;exact⟨p,hp,by rw[e]⟩
 ·rw[hk.no z hz]at hv;cases hv
section
variable {T:Tb}(o:OkTb T)
include o
theorem V7{j:Nat}(hj:isJ j){ys:List V}(h:ys∈T.part j):RowOk j T.n T.t1 ys:=(o.part j hj).2.row ys h
theorem YA{j:Nat}(hj:isJ j){ys:List V}(h:ys∈T.part j):at_ ys 0=.str (nameOf ys)/\GS (nameOf ys):=by have r:=V7 o hj h;refine⟨r.name,?_⟩;have:=r.nm;rw[show at_ ys 0=.str (nameOf ys)from r.name]at this;exact Em this
theorem Ga{k1:Kv}(hk:PlDict k1 T.t1){x:V}(h:ZV x k1=true):Atm x:=by obtain⟨p,hp,rfl⟩:=RE hk h;exact .str (YA o (j:=1) (.inl rfl) hp).2
theorem XQ{ys:List V}(h:ys∈T.t1):∃p:Str×Option Int,ys=plRow p/\GS p.1/\∀i,p.2=some i->0<=i/\i<=1000:=by
 have r:=V7 o (j:=1) (.inl rfl) h;obtain⟨e0,g⟩:=YA o (j:=1) (.inl rfl) h;have hw:Yy (at_ ys 1)=.non:=r.why [] (λz=>absurd rfl z) 0 (λz=>by cases z);obtain⟨a,c,rfl⟩:=len2 r.len;have ea:a=.str (nameOf [a,c]):=e0;have hw:Yy c=.non:=hw;unfold Yy at hw;by_cases e:c=.non
 ·exact⟨(nameOf [a,c],none),by rw[e];rw[e]at ea;rw[<-ea.symm];rfl,g,λi q=>by cases q⟩
 ·have hb:K1.Zw c 0 1000=true:=by
   cases hb:K1.Zw c 0 1000 with
  |true=>rfl
  |false=>rw[hb,decide_eq_false e,Bool.or_false,if_neg (by decide)]at hw;cases hw
  obtain⟨i,rfl,h0,h1⟩:=within_int hb;exact⟨(nameOf [a,.int i],some i),by rw[<-ea.symm];rfl,g,λj q=>by cases q;exact⟨h0,h1⟩⟩
theorem TZ{ys:List V}(h:ys∈T.t2){k1:Kv}(hk:UZ k1 T.t1):∃z s lv g cm se,ys=[.str z,s,.int lv,g,.int cm,.int se]/\nameOf ys=z/\YT k1 s g=.non/\0<=lv/\lv<=T.n-1/\lv+1<=cm/\cm<=T.n/\0<=se/\se<=1000:=by have r:=V7 o (j:=2) (.inr (.inl rfl)) h;have hw:K3 k1 T.n ys=.non:=r.why k1 (λ_=>hk) 0 (λz=>by cases z);obtain⟨a,b,c,d,e,f,rfl⟩:=len6 r.len;have ea:a=.str (nameOf [a,b,c,d,e,f]):=r.name;have hw:Us k1 T.n b c d e f=.non:=hw;obtain⟨he,i,rfl,h1,h2,h3⟩:=K2 hw;obtain⟨i',q,a1,a2⟩:=within_int h1;cases q;obtain⟨cm,rfl,b1,b2⟩:=within_int h2;obtain⟨se,rfl,c1,c2⟩:=within_int h3;exact⟨_,b,i,d,cm,se,congrArg (λq=>q::[b,.int i,d,.int cm,.int se]) ea,rfl,he,a1,a2,b1,b2,c1,c2⟩
theorem QQ{k1:Kv}(hk:PlDict k1 T.t1){s g:V}(h:YT k1 s g=.non):Atm s/\Atm g:=⟨Ga o hk (UE h).1,Ga o hk (UE h).2.1⟩
end
structure GD(j:Nat)(t:List (List V))(xs:List V)(i:Nat)(kvs:Kv):Prop where
 has:∀(m:Nat)y x,m<i->t[m]?=some y->xs[m]?=some x->valV kvs (.inr (nameOf y))=some (if j=1 then at_ y 1 else x)
 no:∀z,z∉(t.take i).map nameOf->valV kvs (.inr z)=none
 len:kvs.length<=i
section
variable {j i:Nat}{t:List (List V)}{xs:List V}{kvs:Kv}{y:List V}{x:V}
theorem GD.nil:GD j t xs 0 []:=⟨λ_ _ _ h=>absurd h (Nat.not_lt_zero _),λ_ _=>rfl,Nat.le_refl _⟩
theorem GD.fresh(g:GD j t xs i kvs)(nd:(t.map nameOf).Nodup)(e:t[i]?=some y):valV kvs (.inr (nameOf y))=none:=g.no _ λh=>by
 obtain⟨q,hq,eq⟩:=ah.mp h;obtain⟨m,hm⟩:=aY.mp hq;have hlt:m<i:=by have:=(ak.mp hm).1;rw[aN]at this;omega
 rw[fM hlt]at hm;have h1:(t.map nameOf)[m]?=some (nameOf y):=by rw[aJ,hm,<-eq];rfl
 have h2:(t.map nameOf)[i]?=some (nameOf y):=by rw[aJ,e];rfl
 obtain⟨p1,q1⟩:=ak.mp h1;obtain⟨p2,q2⟩:=ak.mp h2;exact fC.mp nd m i p1 p2 hlt (q1.trans q2.symm)
theorem GD.step(g:GD j t xs i kvs)(nd:(t.map nameOf).Nodup)(e:t[i]?=some y)(ex:xs[i]?=some x):GD j t xs (i+1) (putK kvs (.inr (nameOf y)) (if j=1 then at_ y 1 else x)):=by
 refine⟨λm q z hm h1 h2=>?_,λz hz=>?_,?_⟩
 ·rw[YU];by_cases h:m=i
  ·subst h;rw[e]at h1;rw[ex]at h2;cases h1;cases h2;rw[if_pos rfl]
  ·have hlt:m<i:=by omega
   have hv:=g.has m q z hlt h1 h2;rw[if_neg (λz=>by injection z with z;rw[z,g.fresh nd e]at hv;cases hv)];exact hv
 ·rw[bc,e,aL,aD,not_or]at hz;rw[YU,if_neg (λq=>hz.2 (by injection q with q;rw[q];exact aB.mpr rfl))];exact g.no z hz.1
 ·have:=YQ kvs (cV (nameOf y)) (if j=1 then at_ y 1 else x);have:=g.len;omega
theorem EL{n:Int}{t1:List (List V)}(r:RowOk j n t1 y)(h:valV kvs (.inr (nameOf y))=none):begR (gJ j) (szJ j) kvs (some y)=.non:=by show begV _ _ _ _=_;unfold begV;rw[if_neg (λz=>z r.len),show Z8 (gJ j) (y.getD 0 .non)=true from r.nm,if_neg (by decide),r.name];rw[show ZV (.str (nameOf y)) kvs=false from by show(valV kvs _).isSome=false;rw[h];rfl,if_neg (by decide)]
end
noncomputable def dJ:Nat->Str
|1=>"room_by_place"|2=>"ride_by_name"|3=>"way_by_name"|_=>"group_by_name"
theorem Nl{j:Nat}(hj:isJ j):(Yr j,szJ j)∈Qo/\(Yr j,Qw j)∈SV/\decide (Yr j="groups")=gJ j/\Yr j∈fields/\dJ j∈fields/\"turns"≠Yr j/\"turns"≠dJ j:=by rcases hj with rfl|rfl|rfl|rfl<;>exact⟨by simp[Qo,Yr,szJ],by simp[SV,Yr,Qw],by decide +kernel,by simp[fields,Yr],by simp[fields,dJ],by decide +kernel,by decide +kernel⟩
theorem W7{i j:Nat}(hi:isJ i)(hj:isJ j):(i≠j->Yr i≠Yr j/\dJ i≠dJ j)/\Yr i≠dJ j:=by rcases hi with rfl|rfl|rfl|rfl<;>rcases hj with rfl|rfl|rfl|rfl<;>decide +kernel
def PlG(j:Nat)(H:Hp)(fs:List (Str×V))(n:Int)(t1:List (List V)):Prop:=j≠1->fs.lookup ("turns":Str)=some (.int n)/\∃dP kP,fs.lookup ("room_by_place":Str)=some (.ref dP)/\H dP=some (.dK kP)/\UZ kP t1
def Xm(C:Addr)(j:Nat):Sp:=λvs H Q _=>∃(t l dx:Addr)(xs:List V)(ts:List (List V))(fs:List (Str×V))(n:Int)(t1:List (List V)),vs=[.ref t,.ref l]/\H t=some (.ins C dx fs)/\(∀g,g∉fields->fs.lookup g=none)/\fs.length<=20/\PlG j H fs n t1/\H l=some (.tup xs)/\YZ H xs (ts.map some)/\Sf j n t1 ts /\∀H' d kvs,Zj t H H'->H d=none->d≠t->H' d=some (.dK kvs)->GD j ts xs ts.length kvs->H' t=some (.ins C dx (putF (dJ j) (.ref d) (putF (Yr j) (.ref l) fs)))->Q .non H'
section
variable {K:aa}{C:Addr}{H H2:Hp}{t l d dx:Addr}{fs:List (Str×V)}{D:L2.Ends}{σ:L2.St}
theorem Jz(Z:TCl K C){f g:Str}(nf:f∈fields)(ng:g∈fields){u:TS}(s0:σ[0]?=some (some (.ref t)))(s1:σ[1]?=some (some (.ref l)))(ht:H t=some (.ins C dx fs))(hfs:fs.length<=20)(k:∀H2 d,Zj t H H2->H d=none->d≠t->H2 d=some (.dK [])->H2 t=some (.ins C dx (putF g (.ref d) (putF f (.ref l) fs)))->u D σ H2):tSeq (sFld K (tVar 0) (tVar 1) f) (tSeq (sFld K (tVar 0) Kd g) u) D σ H:=by
 have fl1:=YR f (V.ref l) fs;refine⟨_,s1,_,s0,t,C,dx,_,rfl,ht,Z.cl,Z.na _ nf,by omega,?_⟩;have t1:upd H t (.ins C dx (putF f (.ref l) fs)) t=some (.ins C dx (putF f (.ref l) fs)):=Zf;refine λd hd=>⟨_,s0,t,C,dx,_,rfl,(by rw[Zg (Zi t1 hd)];exact t1),Z.cl,Z.na _ ng,by omega,?_⟩;have hdt:d≠t:=bo (Zi t1 hd);have hd0:H d=none:=by rw[Zg hdt]at hd;exact hd
 refine k _ d (λc o h hc=>?_) hd0 hdt (by rw[Zg hdt,Zf]) Zf;rw[Zg hc,Zg (Zi h hd0),Zg hc];exact h
theorem Vy{a b j:Nat}{tb:TS}{F2:List (Str×V)}{ts:List (List V)}{xs:List V}(Ps:Nat->L2.St->Prop)(s1:σ[1]?=some (some (.ref l)))(ht:H t=some (.ins C dx fs))(hl:H l=some (.tup xs))(hd0:H d=none)(hdt:d≠t)(rows:YZ H xs (ts.map some))(nd:(ts.map nameOf).Nodup)(sm:Zj t H H2)(d2:H2 d=some (.dK []))(t2:H2 t=some (.ins C dx F2))(p0:Ps 0 σ)(body:∀i x y kvs H' σ' D',xs[i]?=some x->ts[i]?=some y->Ps i σ'->Zj t H H'->H' t=some (.ins C dx F2)->H' d=some (.dK kvs)->kvs.length<=i->valV kvs (.inr (nameOf y))=none->Row H' x (some y) ->(∀H4 σ4,Zj t H H4->H4 t=some (.ins C dx F2)->H4 d=some (.dK kvs)->Ps (i+1) σ4->D'.nx σ4 (upd H4 d (.dK (putK kvs (.inr (nameOf y)) (if j=1 then at_ y 1 else x)))))->tb D' ((σ'.set a (some (.int i))).set b (some x)) H')(k:∀H' σ' kvs,Zj t H H'->H' d=some (.dK kvs)->GD j ts xs ts.length kvs->H' t=some (.ins C dx F2)->D.nx σ' H'):tFor (iEnT (Yo (tVar 1) tNil)) (gTup K 2 (LR (Zq a) (LR (Zq b) gNil))) tb D σ H2:=by
 have htl:l≠t:=ne_of hl ht (by intro z;cases z);have hln:xs.length=ts.length:=by rw[rows.1,lm]
 refine⟨_,s1,l,xs,rfl,sm _ _ hl htl,YC (J:=Iten l) xs.length (λi σ' H'=>Ps i σ'/\Zj t H H'/\H' t=some (.ins C dx F2)/\∃kvs,H' d=some (.dK kvs)/\GD j ts xs i kvs) ⟨p0,sm,t2,[],d2,.nil⟩ (λi σ' H' hi p=>⟨xs,p.2.1 _ _ hl htl,hi⟩) (λσ' H' p=>⟨xs,p.2.1 _ _ hl htl,rfl⟩) (λi σ' H' x H'' hi p yl=>?_) (λσ' H' p=>?_)⟩
 ·obtain⟨ps,sm',tt,kvs,dd,g⟩:=p;obtain⟨Tt,xs',y,hT,e1,hy,rfl,rfl⟩:=yl;rw[sm' _ _ hl htl]at e1;cases e1;have hi':i<ts.length:=by omega
  have ey:ts[i]?=some ts[i]:=gE hi';have hrow:=rows.2 i y (some ts[i]) hy (by rw[aJ,ey];rfl);generalize ts[i]=r at ey hrow;have S3:Same H' (upd H' Tt (.tup [.int i,y])):=sameNew (Same.refl H') hT;have sm3:=sm'.trans (Zj.of S3);refine⟨Tt,_,rfl,SqT.of Zf,rfl,_,_,rfl,_,_,rfl,rfl,?_⟩;refine body i y r kvs _ σ' _ hy ey ps sm3 (S3 _ _ tt) (S3 _ _ dd) g.len (g.fresh nd ey) (hrow.sameB ht sm3) λH4 σ4 s4 t4 d4 p4=>⟨p4,λc o h hc=>?_,?_,_,Zf,g.step nd ey hy⟩
  ·rw[Zg (Zi h hd0)];exact s4 c o h hc
  ·rw[Zg (bo hdt)];exact t4
 ·obtain⟨_,sm',tt,kvs,dd,g⟩:=p;exact k H' σ' kvs sm' dd (hln▸g) tt
theorem Me{j:Nat}(hj:isJ j){n:Int}{t1:List (List V)}{x:V}{y:List V}{kvs:Kv}{Q:VK}{E:XK}(hr:Row H x (some y))(r:RowOk j n t1 y)(hd:H d=some (.dK kvs))(hv:valV kvs (.inr (nameOf y))=none)(k:∀H',Same H H'->Q .non H'):Jg [.str (Yr j),x,.ref d] H Q E:=by obtain⟨m1,_,eg,_⟩:=Nl hj;refine⟨_,_,x,some y,d,kvs,rfl,m1,hr,hd,λH' s=>?_⟩;rw[eg,EL r hv];exact k H' s
end
def Jh:Sp:=λvs H Q _=>∃p a,vs=[p,a,.non]/\Q .non H
def Pc:Sp:=λvs H Q _=>∃z n p xs,vs=[.str z,.ref p]/\(z,n)∈SV/\(H p=some (.lst xs)\/H p=some (.tup xs))/\xs.length<=n/\∀H1 l,Same H H1->H1 l=some (.tup xs)->Q (.ref l) H1
section
variable {P:Program}{w:World}{K:aa}{mg:Str->Option Value}{base:Heap}{C:Addr}
theorem Ni:FnScope ["part","at","why"] ["part","at","why"] (Zc T.f_refuse_row):=scO
theorem Q0(D:Df K mg "refuse_row" T.f_refuse_row ["part","at","why"]):Can P w K mg base 1 "refuse_row" ["part","at","why"] Jh:=by refine D.cn Ni λf cdv A outer s H vs Q E hr h=>?_;obtain⟨p,a,rfl,k⟩:=h;refine⟨_,(Zd (ZG (Zt VD (pv 2) ZF (ZC _)) (Zd Jl) Zp)),?_⟩;refine⟨_,rfl,rfl,_,rfl,?_⟩;exact iteF k
theorem Rl:FnScope ["part","rows"] ["part","rows"] (Zc T.f_rows_of):=scO
theorem WK(B:∀x∈Blts,mg x=none)(M:Mosts K w mg)(D:Df K mg "rows_of" T.f_rows_of ["part","rows"]):Can P w K mg base 1 "rows_of" ["part","rows"] Pc:=by
 obtain⟨aM,hM,k1,k2,k3,k4⟩:=M.at_;refine D.cn Rl λf cdv A outer s H vs Q E hr h=>?_;obtain⟨z,n,p,xs,rfl,hz,hp,hl,k⟩:=h;have hK:XF K w aM z (.int n):=by simp only[SV,ao,gj,aF,or_false]at hz;rcases hz with⟨rfl,rfl⟩|⟨rfl,rfl⟩|⟨rfl,rfl⟩|⟨rfl,rfl⟩<;>assumption
 refine⟨_,Za (ZG (ZY (ZT (Zv WX rfl (bm B) gO (Zh (pv 1) (Zh (Zu (Zh (Py (v:=V.ty "list") rfl (bm B) Xn rfl) (Zh (Py (v:=V.ty "tuple") rfl (bm B) XE rfl) Zk))) Zk))))) (Zd Jl) Zp) (Za (ZG (Zt NH (Zv JQ rfl (bm B) ba (Zh (pv 1) Zk)) (SS (Z4 (v:=V.ref aM) rfl hM rfl) (pv 0) (λ_ _=>rfl)) (ZC _)) (Zd Jl) Zp) (Zd (Zl (Yi Jd rfl (bm B) XE (Zh (pv 1) Zk))))),?_⟩;obtain⟨T',th,hT⟩:∃T',Th H (.ref p) T'/\(T'="list"\/T'="tuple"):=by
  rcases hp with hp|hp
  ·exact⟨_,.lst hp,.inl rfl⟩
  ·exact⟨_,.tup hp,.inr rfl⟩
 refine⟨_,rfl,zl,λl hl=>?_⟩;have sm:Same H (upd H l (.tup [V.ty "list",V.ty "tuple"])):=sameNew (Same.refl H) hl;refine⟨.ref p,l,["list","tuple"],T',_,rfl,th.same sm,Zf ..,(th.same sm).kitLT,_,rfl,?_⟩;rw[decide_eq_true hT];refine iteF ?_;generalize upd H l (.tup [V.ty "list",V.ty "tuple"])=H1 at sm ⊢;have hs:SqL K H1 p xs\/SqT K H1 p xs:=by
  rcases hp with hp|hp
  ·exact .inl (SqL.of (sm _ _ hp))
  ·exact .inr (SqT.of (sm _ _ hp))
 refine⟨_,rfl,p,xs,rfl,hs,_,rfl,aM,z,.int n,rfl,rfl,hK,_,_,rfl,rfl,_,rfl,?_⟩;rw[decide_eq_false (by omega)];refine iteF ?_;refine⟨_,rfl,p,xs,rfl,?_⟩;rcases hp with hp|hp
 ·exact .inl ⟨SqL.of (sm _ _ hp),λl2 hl2=>k _ l2 (sameNew sm hl2) (Zf ..)⟩
 ·exact .inr ⟨SqT.of (sm _ _ hp),k _ p sm (sm _ _ hp)⟩
section
variable {H:Hp}{t dx dP:Addr}{F:List (Str×V)}{n:Int}{t1:List (List V)}{kP:Kv}{x:V}{y:List V}{Q:VK}{E:XK}
theorem Pp{j:Nat}(r:RowOk j n t1 y):atI y 0=some (.str (nameOf y)):=by
 have h:=r.name;have hl:0<y.length:=by rw[r.len];unfold szJ;split<;>decide
 have e:y[0]?=some (.str (nameOf y)):=by rw[gE hl];rw[aw,gE hl]at h;exact congrArg some h
 exact ZD (j:=0) e
theorem TN(hr:Row H x (some y))(r:RowOk 1 n t1 y)(k:Q .non H):MB [x] H Q E:=by obtain⟨q,rfl,hq,th⟩:=hr;have hy:=r.why [] (λh=>absurd rfl h) 0 (λh=>by cases h);obtain⟨a,b,rfl⟩:=len2 r.len;obtain⟨T,hT⟩:=th b (by simp);have hy':Yy b=.non:=hy;exact⟨q,a,b,T,rfl,hq,hT,by rw[hy'];exact k⟩
variable (ht:H t=some (.ins C dx F))(only:∀g,g∉fields->F.lookup g=none)(hd:F.lookup ("room_by_place":Str)=some (.ref dP))(hn:F.lookup ("turns":Str)=some (.int n))(hk:H dP=some (.dK kP))(has:UZ kP t1)(hr:Row H x (some y))
include ht only hd hk has hr in
theorem DF(r:RowOk 3 n t1 y)(k:Q .non H):Km C [.ref t,x] H Q E:=by obtain⟨q,rfl,hq,th⟩:=hr;have hy:=r.why kP (λ_=>has) 0 (λh=>by cases h);obtain⟨a,b,c,d,e,rfl⟩:=len5 r.len;exact⟨t,q,a,b,c,d,e,F,dP,kP,rfl,⟨⟨dx,ht⟩,only⟩,hd,hk,hq,th,by rw[show wayV kP b c d e=.non from hy];exact k⟩
include ht only hd hn hk has hr
theorem W5(r:RowOk 2 n t1 y)(k:Q .non H):Rg C [.ref t,x] H Q E:=by obtain⟨q,rfl,hq,th⟩:=hr;have hy:=r.why kP (λ_=>has) 0 (λh=>by cases h);obtain⟨a,b,c,d,e,f,rfl⟩:=len6 r.len;exact⟨t,q,a,b,c,d,e,f,F,dP,kP,n,rfl,⟨⟨dx,ht⟩,only⟩,hd,hn,hk,hq,th,by rw[show Us kP n b c d e f=.non from hy];exact k⟩
theorem TQ{pp:Int}(r:RowOk 4 n t1 y)(hp:pp+Zz y<=300)(k:Q .non H):Pg C [.ref t,x,.int pp] H Q E:=by obtain⟨q,rfl,hq,th⟩:=hr;have hy:=r.why kP (λ_=>has) pp (λ_=>hp);obtain⟨a,b,c,d,rfl⟩:=len4 r.len;exact⟨t,q,a,b,c,d,F,dP,kP,n,pp,rfl,⟨⟨dx,ht⟩,only⟩,hd,hn,hk,hq,th,by rw[show Y6 kP n pp b c d=.non from hy];exact k⟩
end
theorem X7{fs:List (Str×V)}{f g x:Str}{a b:V}(h1:x≠f)(h2:x≠g):(putF g b (putF f a fs)).lookup x=fs.lookup x:=by rw[Ye,if_neg h2,Ye,if_neg h1]
theorem Mr{fs:List (Str×V)}{f g:Str}{a b:V}(hf:f∈fields)(hg:g∈fields)(h:∀x,x∉fields->fs.lookup x=none):∀x,x∉fields->(putF g b (putF f a fs)).lookup x=none:=λx hx=>by rw[X7 (λz=>hx (by rw[z];exact hf)) (λz=>hx (by rw[z];exact hg))];exact h x hx
theorem MX{fs:List (Str×V)}{f g:Str}{a b:V}:(putF g b (putF f a fs)).lookup g=some b:=by rw[Ye,if_pos rfl]
theorem MM:FnScope ["self","places","at","row"] ["self","places"] (Zc T.m_Table_take_places):=scO
theorem RY(Z:TCl K C)(he:mg "enumerate"=none)(D:DfM K C "take_places" "Table.take_places" T.m_Table_take_places ["self","places"])(CB:Can P w K mg base 3 "wrong_beginning" ["part","row","names_ahead"] Jg)(CW:Can P w K mg base 3 "wrong_place" ["row"] MB)(CR:Can P w K mg base 1 "refuse_row" ["part","at","why"] Jh):CanM P w K mg base CX0 6 C "take_places" ["self","places"] (Xm C 1):=by
 refine D.cn MM λf cdv A outer s H vs Q E hr h=>?_;obtain⟨t,l,dx,xs,ts,fs,n,t1,rfl,ht,only,hfs,pg,hl,rows,⟨hm,ok⟩,k⟩:=h;refine⟨_,Za (YW (pv 0) (pv 1) rfl) (Za (YW (pv 0) Va rfl) (Zd (Yc aT rfl (Uv rfl he (Zh (pv 1) Zk) Mt) (YN rfl (Zn (nmT 2 MM.nd) (Zn (nmT 3 MM.nd) Yd))) (Za (Z7 (cn CR hr (Zh ZE (Zh (pv 2) (Zh (Pw (cn CB hr (Zh ZE (Zh (pv 3) (Zh (ZZ (pv 0) rfl) Zk)))) (YJ (cn CW hr (Zh (pv 3) Zk)))) Zk))))) (Zd (XM (YS hr) (ZZ (pv 0) rfl) (Yg Z9 (pv 3) Zb (λ_ _=>rfl)) (Yg Z9 (pv 3) Zb (λ_ _=>rfl)) rfl)))))),?_⟩;obtain⟨_,_,_,nf,ng,_⟩:=Nl (j:=1) (.inl rfl);have nR:=Z.na _ ng;have hx14:xs.length<=14:=by rw[rows.1,lm];exact hm
 refine Jz Z nf ng rfl rfl ht hfs λH2 d s2 hd0 hdt d2 t2=>?_;have lk:(putF (dJ 1) (.ref d) (putF (Yr 1) (.ref l) fs)).lookup ("room_by_place":Str)=some (.ref d):=MX;refine Vy (j:=1) (λi σ=>∃o2 o3,σ=[some (.ref t),some (.ref l),o2,o3]) rfl ht hl hd0 hdt rows ok.nd s2 d2 t2 ⟨_,_,rfl⟩ (λi x y kvs H3 σ' D' hx hy ps s3 t3 d3 hkl hv hrow kx=>?_) (λH' σ' kvs s' d' g t'=>k H' d kvs s' hd0 hdt d' g t');obtain⟨o2,o3,rfl⟩:=ps;have ro:=ok.row y (aA hy);have hi:i<xs.length:=(ak.mp hx).1;refine⟨_,rfl,_,rfl,_,rfl,t,C,dx,_,_,rfl,t3,Z.cl,nR,lk,?_⟩;dsimp only[tNil];refine Me (j:=1) (.inl rfl) hrow ro d3 hv λH4 s34=>⟨false,rfl,iteF ?_⟩;have hrow4:=hrow.same s34;refine⟨_,rfl,?_⟩;dsimp only[tNil];refine TN hrow4 ro ⟨_,_,rfl,?_⟩;obtain⟨q,rfl,hq,th⟩:=hrow4;have a0:=Pp ro;have hy1:atI y 1=some (at_ y 1):=by obtain⟨a,b,rfl⟩:=len2 ro.len;exact ZD (j:=1) rfl
 refine iaT hq hy1 ⟨_,rfl,t,C,dx,_,_,rfl,s34 _ _ t3,Z.cl,nR,lk,iaT hq a0 ⟨d,_,rfl,DPut.k (k:=cV (nameOf y)) (s34 _ _ d3) (Ji (by omega)),?_⟩⟩;exact kx H4 _ (s3.trans (Zj.of s34)) (s34 _ _ t3) (s34 _ _ d3) ⟨_,_,rfl⟩
theorem ML:FnScope ["self","rides","at","row"] ["self","rides"] (Zc T.m_Table_take_rides):=scO
theorem RX(Z:TCl K C)(he:mg "enumerate"=none)(D:DfM K C "take_rides" "Table.take_rides" T.m_Table_take_rides ["self","rides"])(CB:Can P w K mg base 3 "wrong_beginning" ["part","row","names_ahead"] Jg)(CW:Can P w K mg base 5 "wrong_ride" ["table","row"] (Rg C))(CR:Can P w K mg base 1 "refuse_row" ["part","at","why"] Jh):CanM P w K mg base CX0 6 C "take_rides" ["self","rides"] (Xm C 2):=by
 refine D.cn ML λf cdv A outer s H vs Q E hr h=>?_;obtain⟨t,l,dx,xs,ts,fs,n,t1,rfl,ht,only,hfs,pg,hl,rows,⟨hm,ok⟩,k⟩:=h;refine⟨_,Za (YW (pv 0) (pv 1) rfl) (Za (YW (pv 0) Va rfl) (Zd (Yc aT rfl (Uv rfl he (Zh (pv 1) Zk) Mt) (YN rfl (Zn (nmT 2 ML.nd) (Zn (nmT 3 ML.nd) Yd))) (Za (Z7 (cn CR hr (Zh ZE (Zh (pv 2) (Zh (Pw (cn CB hr (Zh ZE (Zh (pv 3) (Zh (ZZ (pv 0) rfl) Zk)))) (YJ (cn CW hr (Zh (pv 0) (Zh (pv 3) Zk))))) Zk))))) (Zd (XM (YS hr) (ZZ (pv 0) rfl) (Yg Z9 (pv 3) Zb (λ_ _=>rfl)) (pv 3) rfl)))))),?_⟩;obtain⟨_,_,_,nf,ng,nt,nu⟩:=Nl (j:=2) (.inr (.inl rfl));have nR:=Z.na _ ng;have hx14:xs.length<=80:=by rw[rows.1,lm];exact Nat.le_trans hm (by decide)
 obtain⟨hn,dP,kP,hdP,hkP,has⟩:=pg (by decide);have nPt:dP≠t:=ne_of hkP ht (by intro z;cases z);refine Jz Z nf ng rfl rfl ht hfs λH2 d s2 hd0 hdt d2 t2=>?_;have lk:(putF (dJ 2) (.ref d) (putF (Yr 2) (.ref l) fs)).lookup ("ride_by_name":Str)=some (.ref d):=MX;have lkP:=(X7 (f:=Yr 2) (g:=dJ 2) (a:=.ref l) (b:=.ref d) (x:="room_by_place") (by decide +kernel) (by decide +kernel)).trans hdP;have lkT:=(X7 (f:=Yr 2) (g:=dJ 2) (a:=.ref l) (b:=.ref d) nt nu).trans hn;have lkO:=Mr (a:=.ref l) (b:=.ref d) nf ng only;refine Vy (j:=2) (λi σ=>∃o2 o3,σ=[some (.ref t),some (.ref l),o2,o3]) rfl ht hl hd0 hdt rows ok.nd s2 d2 t2 ⟨_,_,rfl⟩ (λi x y kvs H3 σ' D' hx hy ps s3 t3 d3 hkl hv hrow kx=>?_) (λH' σ' kvs s' d' g t'=>k H' d kvs s' hd0 hdt d' g t');obtain⟨o2,o3,rfl⟩:=ps;have ro:=ok.row y (aA hy);have hi:i<xs.length:=(ak.mp hx).1;refine⟨_,rfl,_,rfl,_,rfl,t,C,dx,_,_,rfl,t3,Z.cl,nR,lk,?_⟩;dsimp only[tNil];refine Me (j:=2) (.inr (.inl rfl)) hrow ro d3 hv λH4 s34=>⟨false,rfl,iteF ?_⟩;have hrow4:=hrow.same s34;have hkP4:=s34 _ _ (s3 _ _ hkP nPt);refine⟨_,rfl,_,rfl,?_⟩;dsimp only[tNil];refine W5 (s34 _ _ t3) lkO lkP lkT hkP4 has hrow4 ro ⟨_,_,rfl,?_⟩;obtain⟨q,rfl,hq,th⟩:=hrow4;refine⟨_,rfl,_,rfl,t,C,dx,_,_,rfl,s34 _ _ t3,Z.cl,nR,lk,iaT hq (Pp ro) ⟨d,_,rfl,DPut.k (k:=cV (nameOf y)) (s34 _ _ d3) (Ji (by omega)),?_⟩⟩;exact kx H4 _ (s3.trans (Zj.of s34)) (s34 _ _ t3) (s34 _ _ d3) ⟨_,_,rfl⟩
theorem MJ:FnScope ["self","ways","at","row"] ["self","ways"] (Zc T.m_Table_take_ways):=scO
theorem RW(Z:TCl K C)(he:mg "enumerate"=none)(D:DfM K C "take_ways" "Table.take_ways" T.m_Table_take_ways ["self","ways"])(CB:Can P w K mg base 3 "wrong_beginning" ["part","row","names_ahead"] Jg)(CW:Can P w K mg base 5 "wrong_way" ["table","row"] (Km C))(CR:Can P w K mg base 1 "refuse_row" ["part","at","why"] Jh):CanM P w K mg base CX0 6 C "take_ways" ["self","ways"] (Xm C 3):=by
 refine D.cn MJ λf cdv A outer s H vs Q E hr h=>?_;obtain⟨t,l,dx,xs,ts,fs,n,t1,rfl,ht,only,hfs,pg,hl,rows,⟨hm,ok⟩,k⟩:=h;refine⟨_,Za (YW (pv 0) (pv 1) rfl) (Za (YW (pv 0) Va rfl) (Zd (Yc aT rfl (Uv rfl he (Zh (pv 1) Zk) Mt) (YN rfl (Zn (nmT 2 MJ.nd) (Zn (nmT 3 MJ.nd) Yd))) (Za (Z7 (cn CR hr (Zh ZE (Zh (pv 2) (Zh (Pw (cn CB hr (Zh ZE (Zh (pv 3) (Zh (ZZ (pv 0) rfl) Zk)))) (YJ (cn CW hr (Zh (pv 0) (Zh (pv 3) Zk))))) Zk))))) (Zd (XM (YS hr) (ZZ (pv 0) rfl) (Yg Z9 (pv 3) Zb (λ_ _=>rfl)) (pv 3) rfl)))))),?_⟩;obtain⟨_,_,_,nf,ng,nt,nu⟩:=Nl (j:=3) (.inr (.inr (.inl rfl)));have nR:=Z.na _ ng;have hx14:xs.length<=80:=by rw[rows.1,lm];exact Nat.le_trans hm (by decide)
 obtain⟨hn,dP,kP,hdP,hkP,has⟩:=pg (by decide);have nPt:dP≠t:=ne_of hkP ht (by intro z;cases z);refine Jz Z nf ng rfl rfl ht hfs λH2 d s2 hd0 hdt d2 t2=>?_;have lk:(putF (dJ 3) (.ref d) (putF (Yr 3) (.ref l) fs)).lookup ("way_by_name":Str)=some (.ref d):=MX;have lkP:=(X7 (f:=Yr 3) (g:=dJ 3) (a:=.ref l) (b:=.ref d) (x:="room_by_place") (by decide +kernel) (by decide +kernel)).trans hdP;have lkT:=(X7 (f:=Yr 3) (g:=dJ 3) (a:=.ref l) (b:=.ref d) nt nu).trans hn;have lkO:=Mr (a:=.ref l) (b:=.ref d) nf ng only;refine Vy (j:=3) (λi σ=>∃o2 o3,σ=[some (.ref t),some (.ref l),o2,o3]) rfl ht hl hd0 hdt rows ok.nd s2 d2 t2 ⟨_,_,rfl⟩ (λi x y kvs H3 σ' D' hx hy ps s3 t3 d3 hkl hv hrow kx=>?_) (λH' σ' kvs s' d' g t'=>k H' d kvs s' hd0 hdt d' g t');obtain⟨o2,o3,rfl⟩:=ps;have ro:=ok.row y (aA hy);have hi:i<xs.length:=(ak.mp hx).1;refine⟨_,rfl,_,rfl,_,rfl,t,C,dx,_,_,rfl,t3,Z.cl,nR,lk,?_⟩;dsimp only[tNil];refine Me (j:=3) (.inr (.inr (.inl rfl))) hrow ro d3 hv λH4 s34=>⟨false,rfl,iteF ?_⟩;have hrow4:=hrow.same s34;have hkP4:=s34 _ _ (s3 _ _ hkP nPt);refine⟨_,rfl,_,rfl,?_⟩;dsimp only[tNil];refine DF (s34 _ _ t3) lkO lkP hkP4 has hrow4 ro ⟨_,_,rfl,?_⟩;obtain⟨q,rfl,hq,th⟩:=hrow4;refine⟨_,rfl,_,rfl,t,C,dx,_,_,rfl,s34 _ _ t3,Z.cl,nR,lk,iaT hq (Pp ro) ⟨d,_,rfl,DPut.k (k:=cV (nameOf y)) (s34 _ _ d3) (Ji (by omega)),?_⟩⟩;exact kx H4 _ (s3.trans (Zj.of s34)) (s34 _ _ t3) (s34 _ _ d3) ⟨_,_,rfl⟩
theorem Wg{ts:List (List V)}(h:∀y∈ts,0<=Zz y)(hs:(ts.map Zz).sum<=300){i:Nat}{y:List V}(e:ts[i]?=some y):((ts.take (i+1)).map Zz).sum=((ts.take i).map Zz).sum+Zz y/\((ts.take i).map Zz).sum+Zz y<=300:=by
 have h1:((ts.take (i+1)).map Zz).sum=((ts.take i).map Zz).sum+Zz y:=by rw[bc,e,aL,List.sum_append];simp
 refine⟨h1,?_⟩;have h2:(ts.map Zz).sum=((ts.take (i+1)).map Zz).sum+((ts.drop (i+1)).map Zz).sum:=by rw[<-List.sum_append,<-aL,f_]
 have h3:=Rb (l:=(ts.drop (i+1)).map Zz) λx hx=>by obtain⟨q,hq,rfl⟩:=ah.mp hx;exact h q (gv hq)
 omega
theorem Jk:FnScope ["self","groups","people","at","row","why"] ["self","groups"] (Zc T.m_Table_take_groups):=scO
theorem RZ(Z:TCl K C)(he:mg "enumerate"=none)(D:DfM K C "take_groups" "Table.take_groups" T.m_Table_take_groups ["self","groups"])(CB:Can P w K mg base 3 "wrong_beginning" ["part","row","names_ahead"] Jg)(CW:Can P w K mg base 3 "wrong_group" ["table","row","people_ahead"] (Pg C))(CR:Can P w K mg base 1 "refuse_row" ["part","at","why"] Jh):CanM P w K mg base CX0 6 C "take_groups" ["self","groups"] (Xm C 4):=by
 refine D.cn Jk λf cdv A outer s H vs Q E hr h=>?_;obtain⟨t,l,dx,xs,ts,fs,n,t1,rfl,ht,only,hfs,pg,hl,rows,⟨hm,ok⟩,k⟩:=h;refine⟨_,Za (YW (pv 0) (pv 1) rfl) (Za (YW (pv 0) Va rfl) (Za (Yn (i:=2) Jk.nd rfl (aO rfl) Zb) (Zd (Yc aT rfl (Uv rfl he (Zh (pv 1) Zk) Mt) (YN rfl (Zn (nmT 3 Jk.nd) (Zn (nmT 4 Jk.nd) Yd))) (Za (Yn (i:=5) Jk.nd rfl (aO rfl) (Pw (cn CB hr (Zh ZE (Zh (pv 4) (Zh (ZZ (pv 0) rfl) Zk)))) (YJ (cn CW hr (Zh (pv 0) (Zh (pv 4) (Zh (pv 2) Zk))))))) (Za (Z7 (cn CR hr (Zh ZE (Zh (pv 3) (Zh (pv 5) Zk))))) (Za (XM (YS hr) (ZZ (pv 0) rfl) (Yg Z9 (pv 4) Zb (λ_ _=>rfl)) (pv 4) rfl) (Zd (Yn (i:=2) Jk.nd rfl (aO rfl) (Zo ZI (pv 2) (Yg Z9 (pv 4) Zb (λ_ _=>rfl)))))))))))),?_⟩;obtain⟨_,_,_,nf,ng,nt,nu⟩:=Nl (j:=4) (.inr (.inr (.inr rfl)));have nR:=Z.na _ ng;have hx14:xs.length<=300:=by rw[rows.1,lm];exact Nat.le_trans hm (by decide)
 obtain⟨hn,dP,kP,hdP,hkP,has⟩:=pg (by decide);have nPt:dP≠t:=ne_of hkP ht (by intro z;cases z);refine Jz Z nf ng rfl rfl ht hfs λH2 d s2 hd0 hdt d2 t2=>?_;have lk:(putF (dJ 4) (.ref d) (putF (Yr 4) (.ref l) fs)).lookup ("group_by_name":Str)=some (.ref d):=MX;have lkP:=(X7 (f:=Yr 4) (g:=dJ 4) (a:=.ref l) (b:=.ref d) (x:="room_by_place") (by decide +kernel) (by decide +kernel)).trans hdP;have lkT:=(X7 (f:=Yr 4) (g:=dJ 4) (a:=.ref l) (b:=.ref d) nt nu).trans hn;have lkO:=Mr (a:=.ref l) (b:=.ref d) nf ng only;refine Vy (j:=4) (λi σ=>∃o3 o4 o5,σ=[some (.ref t),some (.ref l),some (.int ((ts.take i).map Zz).sum),o3,o4,o5]) rfl ht hl hd0 hdt rows ok.nd s2 d2 t2 ⟨_,_,_,rfl⟩ (λi x y kvs H3 σ' D' hx hy ps s3 t3 d3 hkl hv hrow kx=>?_) (λH' σ' kvs s' d' g t'=>k H' d kvs s' hd0 hdt d' g t');obtain⟨o3,o4,o5,rfl⟩:=ps;have ro:=ok.row y (aA hy);have hi:i<xs.length:=(ak.mp hx).1;obtain⟨e1,e2⟩:=Wg (λq hq=>(ok.row q hq).ma rfl) (ok.sum rfl) hy;rw[e1]at kx;generalize ((ts.take i).map Zz).sum=pp at e2 kx ⊢;refine⟨_,rfl,_,rfl,t,C,dx,_,_,rfl,t3,Z.cl,nR,lk,?_⟩;dsimp only[tNil];refine Me (j:=4) (.inr (.inr (.inr rfl))) hrow ro d3 hv λH4 s34=>⟨false,rfl,iteF ?_⟩;have hrow4:=hrow.same s34;have hkP4:=s34 _ _ (s3 _ _ hkP nPt);refine⟨_,rfl,_,rfl,_,rfl,?_⟩;dsimp only[tNil];refine TQ (s34 _ _ t3) lkO lkP lkT hkP4 has hrow4 ro e2 ?_;refine⟨_,rfl,_,rfl,_,_,rfl,?_⟩;obtain⟨q,rfl,hq,th⟩:=hrow4;have hm3:atI y 3=some (.int (Zz y)):=by have h:=(ro.why kP (λ_=>has) pp λ_=>e2);obtain⟨a,b,c,m,rfl⟩:=len4 ro.len;obtain⟨i3,e3,_⟩:=(Ve (show Y6 kP n pp b c m=.non from h)).2.2;subst e3;exact ZD (j:=3) rfl
 refine⟨_,rfl,_,rfl,t,C,dx,_,_,rfl,s34 _ _ t3,Z.cl,nR,lk,iaT hq (Pp ro) ⟨d,_,rfl,DPut.k (k:=cV (nameOf y)) (s34 _ _ d3) (Ji (by omega)),?_⟩⟩;have hqd:q≠d:=ne_of hq (s34 _ _ d3) (by intro z;cases z);refine⟨_,rfl,iaT (by rw[Zg hqd];exact hq) hm3 ⟨_,_,rfl,rfl,?_⟩⟩;exact kx H4 _ (s3.trans (Zj.of s34)) (s34 _ _ t3) (s34 _ _ d3) ⟨_,_,_,rfl⟩
end
structure Got(H:Hp)(C t dx:Addr)(T:Tb)(xs:Nat->List V)(m:Nat)(fs:List (Str×V))(Hc:Hp):Prop where
 sm:Zj t H Hc
 at_:Hc t=some (.ins C dx fs)
 only:∀g,g∉fields->fs.lookup g=none
 len:fs.length<=1+2*m
 turns:fs.lookup ("turns":Str)=some (.int T.n)
 pt:∀j,isJ j->j<=m->∃l d kvs,fs.lookup (Yr j)=some (.ref l)/\fs.lookup (dJ j)=some (.ref d)/\Hc l=some (.tup (xs j))/\Hc d=some (.dK kvs)/\d≠t/\GD j (T.part j) (xs j) (T.part j).length kvs
def ME(C:Addr):Sp:=λvs H Q _=>∃(t dx:Addr)(T:Tb)(p:Nat->Addr)(xs:Nat->List V),vs=[.ref t,.int T.n,.ref (p 1),.ref (p 2),.ref (p 3),.ref (p 4)]/\H t=some (.ins C dx [])/\OkTb T /\(∀j,isJ j->(H (p j)=some (.lst (xs j))\/H (p j)=some (.tup (xs j)))/\YZ H (xs j) ((T.part j).map some))/\∀H',Zj t H H'->Tel H' C t T->Q .non H'
section
variable {P:Program}{w:World}{K:aa}{mg:Str->Option Value}{base:Heap}{C:Addr}{H Hc:Hp}{t dx:Addr}{T:Tb}{p:Nat->Addr}{xs:Nat->List V}{fs:List (Str×V)}
theorem GD.pl{kvs:Kv}{ts:List (List V)}{xs:List V}(hl:xs.length=ts.length)(g:GD 1 ts xs ts.length kvs):PlDict kvs ts:=by refine⟨λy hy=>?_,λz hz=>g.no z (by rw[aW];exact hz)⟩;obtain⟨m,hm⟩:=aY.mp hy;have hlt:=(ak.mp hm).1;exact g.has m y (xs[m]'(by omega)) hlt hm (gE (by omega))
theorem GD.rw{j:Nat}{kvs:Kv}{ts:List (List V)}{xs:List V}(hj:j≠1)(g:GD j ts xs ts.length kvs):RwDict kvs ts xs:=⟨λm y x h1 h2=>by have:=g.has m y x (ak.mp h1).1 h1 h2;rwa [if_neg hj]at this,λz hz=>g.no z (by rw[aW];exact hz)⟩
theorem UB{j:Nat}(hj:isJ j)(o:OkTb T)(ht:H t=some (.ins C dx []))(hp:∀j,isJ j->(H (p j)=some (.lst (xs j))\/H (p j)=some (.tup (xs j)))/\YZ H (xs j) ((T.part j).map some))(g:Got H C t dx T xs (j-1) fs Hc){Kq:VK}{E E':XK}(k:∀H' fs',Got H C t dx T xs j fs' H'->Kq .non H'):Pc [.str (Yr j),.ref (p j)] Hc (λv H2=>Xm C j [.ref t,v] H2 Kq E) E':=by
 obtain⟨_,m2,_,nf,ng,nt,nu⟩:=Nl hj;obtain⟨hpj,rows⟩:=hp j hj;have hpt:p j≠t:=by rcases hpj with e|e<;>exact ne_of e ht (by intro z;cases z)
 have hx:(xs j).length<=Qw j:=by rw[rows.1,lm];exact(o.part j hj).1
 refine⟨_,_,p j,xs j,rfl,m2,?_,hx,λH1 l s1 hl=>?_⟩
 ·rcases hpj with e|e
  ·exact .inl (g.sm _ _ e hpt)
  ·exact .inr (g.sm _ _ e hpt)
 have sm1:=g.sm.trans (Zj.of s1);have h4:j<=4:=by rcases hj with rfl|rfl|rfl|rfl<;>decide
 have h1:1<=j:=by rcases hj with rfl|rfl|rfl|rfl<;>decide
 have at1:=s1 _ _ g.at_;have htl:l≠t:=ne_of hl at1 (by intro z;cases z);refine⟨t,l,dx,xs j,T.part j,fs,T.n,T.t1,rfl,at1,g.only,by have:=g.len;omega,λnj=>⟨g.turns,?_⟩,hl,rows.sameB ht sm1,o.part j hj,λH' d kvs s' hd0 hdt hd gd tt=>k H' _ ⟨sm1.trans s',tt,Mr nf ng g.only,?_,(X7 nt nu).trans g.turns,λi hi him=>?_⟩⟩
 ·obtain⟨l1,d1,k1,_,e2,_,e4,_,g1⟩:=g.pt 1 (.inl rfl) (by omega);exact⟨d1,k1,e2,s1 _ _ e4,(g1.pl (by rw[(hp 1 (.inl rfl)).2.1,lm])).has⟩
 ·have a1:=YR (Yr j) (V.ref l) fs;have a2:=YR (dJ j) (V.ref d) (putF (Yr j) (V.ref l) fs);have:=g.len;omega
 ·by_cases e:i=j
  ·subst e;exact⟨l,d,kvs,by rw[Ye,if_neg (W7 hj hj).2,Ye,if_pos rfl],MX,s' _ _ hl htl,hd,hdt,gd⟩
  ·obtain⟨l1,d1,k1,e1,e2,e3,e4,n1,g1⟩:=g.pt i hi (by omega);have w1:=W7 hi hj;have w2:=W7 hj hi;refine⟨l1,d1,k1,(X7 (w1.1 e).1 w1.2).trans e1,(X7 (bo w2.2) (w1.1 e).2).trans e2,s' _ _ (s1 _ _ e3) ?_,s' _ _ (s1 _ _ e4) n1,n1,g1⟩;exact ne_of e3 g.at_ (by intro z;cases z)
theorem Got.tel(hp:∀j,isJ j->YZ H (xs j) ((T.part j).map some))(ht:H t=some (.ins C dx []))(g:Got H C t dx T xs 4 fs Hc):Tel Hc C t T:=by
 obtain⟨l1,d1,k1,a1,b1,c1,e1,_,g1⟩:=g.pt 1 (.inl rfl) (by decide);obtain⟨l2,d2,k2,a2,b2,c2,e2,_,g2⟩:=g.pt 2 (.inr (.inl rfl)) (by decide);obtain⟨l3,d3,k3,a3,b3,c3,e3,_,g3⟩:=g.pt 3 (.inr (.inr (.inl rfl))) (by decide);obtain⟨l4,d4,k4,a4,b4,c4,e4,_,g4⟩:=g.pt 4 (.inr (.inr (.inr rfl))) (by decide);refine⟨fs,xs 1,xs 2,xs 3,xs 4,(k1,k2,k3,k4),⟨⟨⟨⟨dx,g.at_⟩,g.only⟩,g.turns,⟨l1,d1,_,_,a1,b1,rfl,c1,e1⟩,⟨l2,d2,_,_,a2,b2,rfl,c2,e2⟩,⟨l3,d3,_,_,a3,b3,rfl,c3,e3⟩,⟨l4,d4,_,_,a4,b4,rfl,c4,e4⟩⟩,λr hr ys rs er=>?_⟩,⟨g1.pl (by rw[(hp 1 (.inl rfl)).1,lm];rfl),g2.rw (by decide),g3.rw (by decide),g4.rw (by decide)⟩⟩;rcases hr with rfl|rfl|rfl|rfl
 ·cases er;exact(hp 1 (.inl rfl)).sameB ht g.sm
 ·cases er;exact(hp 2 (.inr (.inl rfl))).sameB ht g.sm
 ·cases er;exact(hp 3 (.inr (.inr (.inl rfl)))).sameB ht g.sm
 ·cases er;exact(hp 4 (.inr (.inr (.inr rfl)))).sameB ht g.sm
end
section
variable {P:Program}{w:World}{K:aa}{mg:Str->Option Value}{base:Heap}{C:Addr}
theorem KP:FnScope ["self","turns","places","rides","ways","groups"] ["self","turns","places","rides","ways","groups"] (Zc T.m_Table___init__):=scO
theorem Lv{f:Addr}{fd:bP}(G:Txt K mg)(Z:TCl K C)(CI:Can P w K mg base 2 "is_within" ["thing","low","high"] K1.Xb)(CRo:Can P w K mg base 1 "rows_of" ["part","rows"] Pc)(CP:CanM P w K mg base CX0 6 C "take_places" ["self","places"] (Xm C 1))(CR:CanM P w K mg base CX0 6 C "take_rides" ["self","rides"] (Xm C 2))(CW:CanM P w K mg base CX0 6 C "take_ways" ["self","ways"] (Xm C 3))(CG:CanM P w K mg base CX0 6 C "take_groups" ["self","groups"] (Xm C 4))(F:Fun K "__init__" "Table.__init__" T.m_Table___init__ f fd):FnOk P w K mg base CX0 7 f fd ["self","turns","places","rides","ways","groups"] (ME C):=by
 refine F.ok KP (λvs H Q E h=>?_) (λcdv A outer s H vs Q E hr h=>?_)
 ·obtain⟨t,dx,T,p,xs,rfl,_⟩:=h;rfl
 ·obtain⟨t,dx,T,p,xs,rfl,ht,o,hp,k⟩:=h;obtain⟨t1,h1⟩:=G.turns;refine⟨_,Za (ZG (ZY (ZT (cn CI hr (Zh (pv 1) (Zh Zb (Zh (Z4 (v:=V.int 50) rfl h1 ⟨t1,rfl⟩) Zk)))))) (Zd Jl) Zp) (Za (YW (pv 0) (pv 1) rfl) (Za (Z7 (Yx CP Z.cl Yl hr (pv 0) (Zh (cn CRo hr (Zh ZE (Zh (pv 2) Zk))) Zk))) (Za (Z7 (Yx CR Z.cl Yl hr (pv 0) (Zh (cn CRo hr (Zh ZE (Zh (pv 3) Zk))) Zk))) (Za (Z7 (Yx CW Z.cl Yl hr (pv 0) (Zh (cn CRo hr (Zh ZE (Zh (pv 4) Zk))) Zk))) (Zd (Z7 (Yx CG Z.cl Yl hr (pv 0) (Zh (cn CRo hr (Zh ZE (Zh (pv 5) Zk))) Zk)))))))),?_⟩;have hw:K1.Zw (.int T.n) 1 50=true:=by show(decide (1<=T.n)&&decide (T.n<=50))=true;simp[o.n0,o.n1]
  refine⟨_,rfl,.int T.n,_,1,50,rfl,.int _,_,rfl,?_⟩;rw[hw];refine iteF ?_;refine⟨_,rfl,_,rfl,t,C,dx,_,rfl,ht,Z.cl,Z.na _ (by simp[fields]),by decide,?_⟩;have g0:Got H C t dx T xs 0 (putF "turns" (.int T.n) []) (upd H t (.ins C dx (putF "turns" (.int T.n) []))):=⟨(Zj.refl t H).upd,Zf,λg hg=>by rw[Ye,if_neg (λz=>hg (by rw[z];simp[fields]))];rfl,Nat.le_refl _,by rw[Ye,if_pos rfl],λj hj h0=>by rcases hj with rfl|rfl|rfl|rfl<;>cases h0⟩
  generalize upd H t (.ins C dx (putF "turns" (.int T.n) []))=H0 at g0 ⊢;generalize putF "turns" (.int T.n) []=F0 at g0;refine mthV g0.at_ (g0.only _ (by decide +kernel)) ?_;refine⟨_,rfl,?_⟩;dsimp only[tNil];refine UB (j:=1) (.inl rfl) o ht hp g0 λH1 F1 g1=>?_;refine mthV g1.at_ (g1.only _ (by decide +kernel)) ?_;refine⟨_,rfl,?_⟩;dsimp only[tNil];refine UB (j:=2) (.inr (.inl rfl)) o ht hp g1 λH2 F2 g2=>?_;refine mthV g2.at_ (g2.only _ (by decide +kernel)) ?_;refine⟨_,rfl,?_⟩;dsimp only[tNil];refine UB (j:=3) (.inr (.inr (.inl rfl))) o ht hp g2 λH3 F3 g3=>?_;refine mthV g3.at_ (g3.only _ (by decide +kernel)) ?_;refine⟨_,rfl,?_⟩;dsimp only[tNil];refine UB (j:=4) (.inr (.inr (.inr rfl))) o ht hp g3 λH4 F4 g4=>?_;exact k H4 g4.sm (g4.tel (λj hj=>(hp j hj).2) ht)
structure TMkG(P:Program)(w:World)(K:aa)(mg:Str->Option Value)(base:Heap)(C:Addr):Prop where
 made:∃f fd,Mk K C f/\FnOk P w K mg base CX0 7 f fd ["self","turns","places","rides","ways","groups"] (ME C)/\Binds K fd ["self","turns","places","rides","ways","groups"] []
 mg:mg "Table"=some (.ref C)
noncomputable def four{α:Type}(z a b c d:α):Nat->α
|1=>a|2=>b|3=>c|4=>d|_=>z
theorem Wh{H:Hp}{T:Tb}(o:OkTb T){l1 l2 l3 l4:Addr}{x1 x2 x3 x4:List V}(h1:H l1=some (.lst x1))(h2:H l2=some (.lst x2))(h3:H l3=some (.lst x3))(h4:H l4=some (.lst x4))(r1:YZ H x1 (T.t1.map some))(r2:YZ H x2 (T.t2.map some))(r3:YZ H x3 (T.t3.map some))(r4:YZ H x4 (T.t4.map some)){Qx:Addr->Hp->Prop}{E:XK}(k:∀H' x,Same H H'->H x=none->Tel H' C x T->Qx x H'):∀x dx,H x=none->H dx=none->dx≠x->ME C [.ref x,.int T.n,.ref l1,.ref l2,.ref l3,.ref l4] (upd (upd H dx (.own x)) x (.ins C dx [])) (λv H'=>v=.non/\Qx x H') E:=λx dx hx hdx hne=>by
 have sm:Same H (upd (upd H dx (.own x)) x (.ins C dx [])):=sameNew (o:=.ins C dx []) (sameNew (o:=.own x) (Same.refl H) hdx) (by rw[Zg (bo hne)];exact hx);refine⟨x,dx,T,four 0 l1 l2 l3 l4,four [] x1 x2 x3 x4,rfl,Zf,o,λj hj=>?_,λH' s tl=>⟨rfl,k H' x (λc u e=>?_) hx tl⟩⟩
 ·rcases hj with rfl|rfl|rfl|rfl
  ·exact⟨.inl (sm _ _ h1),r1.same sm⟩
  ·exact⟨.inl (sm _ _ h2),r2.same sm⟩
  ·exact⟨.inl (sm _ _ h3),r3.same sm⟩
  ·exact⟨.inl (sm _ _ h4),r4.same sm⟩
 ·exact s c u (sm c u e) (Zi e hx)
end
theorem Kg{k:Int}(hk:0<=k):∀{t:List (List V)},(∀y∈t,Zz y<=k)->(t.map Zz).sum<=k*t.length
|[],_=>by simp
|y::t,h=>by have:=Kg hk (t:=t) λx hx=>h x (av _ hx);have h1:=h y aG;rw[ar,bZ,aR];push_cast;rw[Int.mul_add];omega
structure Wd(T:Tb):Prop where
 n12:T.n<=12
 p2:2<=T.t1.length
 p9:T.t1.length<=9
 g8:T.t4.length<=8
 qq:∀y∈T.t4,nameOf y≠"q.q"
theorem PH{nm:List Str}{R:List (List V)}(nd:nm.Nodup)(e:R.map nameOf=nm.take R.length):(R.map nameOf).Nodup:=e▸nd.sublist (List.take_sublist _ _)
theorem Mq{nm:List Str}{R:List (List V)}(e:R.map nameOf=nm.take R.length){y:List V}(h:y∈R):nameOf y∈nm:=cL (e▸ah.mpr ⟨y,h,rfl⟩)
theorem Lu{n:Int}{ps:Pl}(px:PlX ps)(hn1:1<=n)(hn2:n<=12){nm:Nat->List Str}{R:Nat->List (List V)}(h:∀j,j<3->(R j).length<=20/\(nm j).Nodup/\(∀t∈nm j,NmOk j t)/\RowsX j n (ps.map (·.1)) ((ps.filter λp=>p.2.isSome).map (·.1)) (nm j) (R j))(h8:(R 2).length<=8):OkTb ⟨n,ps.map plRow,R 0,R 1,R 2⟩/\Wd ⟨n,ps.map plRow,R 0,R 1,R 2⟩:=by
 obtain⟨l0,d0,x0,r0⟩:=h 0 (by decide);obtain⟨l1,d1,x1,r1⟩:=h 1 (by decide);obtain⟨l2,d2,x2,r2⟩:=h 2 (by decide);have sh:∀{t:Str},Nx t->t.length<=1000:=λh=>by have:=h.1;rw[ZX]at this;omega
 have gp:∀p∈ps,p.1.length<=1000:=λp hp=>sh (px.nx p hp);have tm:∀t∈ps.map (·.1),∃r,(t,r)∈ps:=λt ht=>by obtain⟨p,hp,rfl⟩:=ah.mp ht;exact⟨p.2,hp⟩
 have hss:∀t∈(ps.filter λp=>p.2.isSome).map (·.1),∃i,(t,some i)∈ps:=λt ht=>by obtain⟨p,hp',rfl⟩:=ah.mp ht;obtain⟨m1,m2⟩:=bA.mp hp';obtain⟨i,hi⟩:=cM.mp m2;exact⟨i,by rw[<-hi];exact m1⟩
 refine⟨⟨hn1,by show n<=50;omega,λj hj=>?_⟩,⟨by show n<=12;omega,by show 2<=(ps.map plRow).length;rw[lm];exact px.lo,by show(ps.map plRow).length<=9;rw[lm];exact px.hi,h8,λy hy z=>AU ?_⟩⟩
 ·rcases hj with rfl|rfl|rfl|rfl
  ·refine⟨by show(ps.map plRow).length<=14;rw[lm];have:=px.hi;omega,⟨?_,λys hy=>?_,λz=>by cases z⟩⟩
   ·show((ps.map plRow).map nameOf).Nodup;rw[bI];exact px.nd
   ·obtain⟨p,hp,rfl⟩:=ah.mp hy;exact AD (Ly (px.nx p hp)) (px.rm p hp)
  ·refine⟨by show(R 0).length<=80;omega,⟨PH d0 r0.names,λys hy=>?_,λz=>by cases z⟩⟩;obtain⟨r,e,en,h2⟩:=(r0.ok ys hy).1 rfl;have hn:=x0 _ (Mq r0.names hy);rw[<-en]at hn;subst e;exact Az gp ⟨⟨hss _ h2.st,tm _ h2.gl,h2.ne⟩,h2.lv0,h2.lv1,h2.cm0,h2.cm1,h2.se0,h2.se1⟩ (Ly hn)
  ·refine⟨by show(R 1).length<=40;omega,⟨PH d1 r1.names,λys hy=>?_,λz=>by cases z⟩⟩;obtain⟨r,e,en,h2⟩:=(r1.ok ys hy).2.1 rfl;have hn:=x1 _ (Mq r1.names hy);rw[<-en]at hn;subst e;exact Af gp ⟨⟨hss _ h2.st,tm _ h2.gl,h2.ne⟩,h2.lo0,h2.lo1,h2.wi0,h2.wi1⟩ (Ly hn)
  ·refine⟨by show(R 2).length<=300;omega,⟨PH d2 r2.names,λys hy=>?_,λ_=>?_⟩⟩
   ·obtain⟨r,e,en,h2⟩:=(r2.ok ys hy).2.2 rfl;have hn:Gx _:=x2 _ (Mq r2.names hy);rw[<-en]at hn;subst e;obtain⟨x,hx⟩:=tm _ h2.pl;obtain⟨p,hp,ep⟩:=ah.mp h2.pl;obtain⟨u,z,hu,hz,ez⟩:=hn;exact AW (v:=.non) ⟨plRow (r.pl,x),ah.mpr ⟨_,hx,rfl⟩,rfl⟩ (ep▸gp p hp) h2.tu0 h2.tu1 h2.ma0 (by have:=h2.ma1;omega) (by rw[ez];exact HP hu hz)
   ·show((R 2).map Zz).sum<=300;have:=Kg (k:=4) (by decide) (t:=R 2) λy hy=>by obtain⟨r,e,_,h2⟩:=(r2.ok y hy).2.2 rfl;subst e;exact h2.ma1
    omega
 ·have:Gx (nameOf y):=x2 _ (Mq r2.names hy);rwa [z]at this
structure WAt(H:Hp)(pw:Addr)(T:Tb)(l1 l2 l3 l4:Addr):Prop where
 at_:H pw=some (.tup [.int T.n,.ref l1,.ref l2,.ref l3,.ref l4])
 r1:RowsL H l1 T.t1
 r2:RowsL H l2 T.t2
 r3:RowsL H l3 T.t3
 r4:RowsL H l4 T.t4
theorem WAt.same{H H':Hp}{pw l1 l2 l3 l4:Addr}{T:Tb}(s:Same H H')(h:WAt H pw T l1 l2 l3 l4):WAt H' pw T l1 l2 l3 l4:=⟨s _ _ h.at_,h.r1.same s,h.r2.same s,h.r3.same s,h.r4.same s⟩
def Sv(K:aa):Sp:=λvs H Q _=>∃(a:Addr)(zs:List Int)(fi:Nat)(mo:Int),vs=[.ref a,.int (fi:Nat),.int mo]/\SqL K H a (zs.map V.int)/\zs.length<=1000/\fi<=99/\0<=mo/\mo<=100 /\∀H' pw l1 l2 l3 l4 T,Same H H'->WAt H' pw T l1 l2 l3 l4->OkTb T->Wd T->Q (.ref pw) H'
section
variable {P:Program}{w:World}{K:aa}{mg:Str->Option Value}{base:Heap}
theorem Yk:FnScope ["_law_script","_law_first","_law_most",q_b,"_law_wide","_law_turns",q_p,"_law_rides","_law_ways","_law_groups"] ["_law_script","_law_first","_law_most"] (Zc T.f__law_world):=scO
theorem R4(B:∀x∈Blts,mg x=none)(CC:Can P w K mg base 1 "_law_cell" ["_law_script","_law_k"] (Ph K))(CB:Can P w K mg base 1 "_law_box" ["_law_cell_here"] SE)(CT:Can P w K mg base 1 "_law_take" [q_b,"_law_many"] Y1)(CP:Can P w K mg base 3 "_law_places" [q_b,"_law_wide"] P5)(CR:Can P w K mg base 3 "_law_rows" ["_law_script","_law_first","_law_most","_law_turns",q_p] (SD K))(D:Df K mg "_law_world" T.f__law_world ["_law_script","_law_first","_law_most"]):Can P w K mg base 4 "_law_world" ["_law_script","_law_first","_law_most"] (Sv K):=by
 refine D.cn Yk λf cdv A outer s H vs Q E hr h=>?_;obtain⟨a,zs,fi,mo,rfl,hS,hzl,fi1,mo0,mo1,k⟩:=h;refine' ⟨_,(@Za _ _ _ _ _ ?h3 (@Za _ _ _ _ _ ?h4 (@Za _ _ _ _ _ ?h5 (@Za _ _ _ _ _ ?h6 (@Za _ _ _ _ _ ?h7 (@Zd _ _ _ ?h8)))))),?rd⟩;case' h8=>refine' (Zl ?h2)
 case' h7=>refine' (V9 (cn CR hr (@Ze _ _ _ _ _ (pv 0) (@Ze _ _ _ _ _ (Zo ZI (pv 1) Zb) (@pa3 _ _ _ _ _ _ _ (pv 2) (pv 5) (pv 6) (by rfl)) (by rfl)) (by rfl))) (FO rfl (Zn (nmT 7 Yk.nd) (Zn (nmT 8 Yk.nd) (Zn (nmT 9 Yk.nd) Yd)))))
 case' h6=>refine' (@st _ _ _ _ 6 _ _ Yk.nd (cn CP hr (@pa2 _ _ _ _ _ (pv 3) (pv 4) (by rfl))) (by rfl) (by exact aO rfl) (by rfl) (by exact .inl rfl))
 case' h5=>refine' (@st _ _ _ _ 5 _ _ Yk.nd (Zo ZI Zb (cn CT hr (@pa2 _ _ _ _ _ (pv 3) ?h1 (by rfl)))) (by rfl) (by exact aO rfl) (by rfl) (by exact .inl rfl))
 case' h4=>refine' (@st _ _ _ _ 4 _ _ Yk.nd (Yi N3 rfl (bm B) PU (@pa1 _ _ _ (@YE _ _ _ _ _ _ _ _ Xw (cn CT hr (@pa2 _ _ _ _ _ (pv 3) Zb (by rfl))) Zb (ZC _)) (by rfl))) (by rfl) (by exact aO rfl) (by rfl) (by exact .inl rfl))
 case' h3=>refine' (@st _ _ _ _ 3 _ _ Yk.nd (cn CB hr (@pa1 _ _ _ (cn CC hr (@pa2 _ _ _ _ _ (pv 0) (pv 1) (by rfl))) (by rfl))) (by rfl) (by exact aO rfl) (by rfl) (by exact .inl rfl))
 case' h2=>refine' (@Zu _ _ _ _ _ (@Ze _ _ _ _ _ (pv 5) (@Ze _ _ _ _ _ (pv 6) (@pa3 _ _ _ _ _ _ _ (pv 7) (pv 8) (pv 9) (by rfl)) (by rfl)) (by rfl)))
 case' h1=>refine' (@il _ _ _ _ _ _ K (@Zy _ _ _ _ (@JG _ _ (by decide +kernel))) (pv 4) (by rfl) (by exact λ_ _=>rfl))
 case' rd=>
 refine⟨_,rfl,_,rfl,a,zs,fi,rfl,hS,hzl,by omega,λc=>⟨c,rfl,λb H1 hb0 B1 S1=>?_⟩⟩;dsimp only[Zq,ay];refine tkC B1 (λrb H2 rb0 rb1 B2 S2=>?_);refine⟨rfl,.inr ⟨_,rfl,?_⟩⟩;generalize decide (V.int rb=V.int 0)=g;dsimp only[Zq,ay];refine⟨_,rfl,(zl),λl3 hl3=>?_⟩;refine⟨_,rfl,l3,_,_,_,rfl,rfl,SqL.of Zf,Dv,b,_,rfl,B2.new hl3,(by cases g<;>decide),Yj (by cases g<;>decide) (by cases g<;>decide),λt0 H4 t00 t01 B4 S4=>?_⟩;have ht12:t0<12:=by cases g<;>simp at t01<;>omega
 refine⟨_,_,rfl,rfl,?_⟩;have S14:Zj b H1 H4:=(S2.new' hl3).trans S4;clear S2 S4 B2 hl3 t01;dsimp only[Zq,ay];obtain⟨n,hn⟩:∃n,n=1+t0:=⟨_,rfl⟩;rw[<-hn];refine⟨_,rfl,_,rfl,b,g,rfl,B4,λH5 lp ps B5 S5 fp ra px=>?_⟩;have SH5:Same H H5:=Yz hb0 S1 (S14.trans S5);dsimp only[Zq,ay];refine⟨_,rfl,_,rfl,_,_,rfl,rfl,_,rfl,_,rfl,_,rfl,?_⟩;refine⟨a,lp,zs,fi+1,mo,n,ps,rfl,hS.same SH5,hzl,by omega,mo0,mo1,by omega,by omega,ra.free,px,λH6 q L nm R S6 eq hR h8=>?_⟩;refine⟨q,_,rfl,SqL.of eq,rfl,?_⟩;refine⟨_,_,rfl,_,_,rfl,_,_,rfl,rfl,?_⟩;dsimp only[Zq,ay];refine⟨_,rfl,_,rfl,_,rfl,_,rfl,_,rfl,(zl),λpw hpw=>?_⟩;have ok:=Lu px (n:=n) (by omega) (by omega) (nm:=nm) (R:=R) (λj hj=>(hR j hj).2) h8;have S7:Same H6 (upd H6 pw (.tup [.int n,.ref lp,.ref (L 0),.ref (L 1),.ref (L 2)])):=sameNew (Same.refl _) hpw;exact k _ pw lp (L 0) (L 1) (L 2) ⟨n,ps.map plRow,R 0,R 1,R 2⟩ ((SH5.trans S6).trans S7) ⟨Zf,ra.free.same (S6.trans S7),(hR 0 (by decide)).1.same S7,(hR 1 (by decide)).1.same S7,(hR 2 (by decide)).1.same S7⟩ ok.1 ok.2
end
theorem RowsL.part{H:Hp}{l:Addr}{rows:List (List V)}(h:RowsL H l rows)(hf:∀ys∈rows,∀y∈ys,Flat y):∃xs:List V,H l=some (.lst xs)/\YZ H xs (rows.map some):=by
 obtain⟨as,e,hl,r⟩:=h;refine⟨as.map V.ref,e,by simp[hl],λi x r' e1 e2=>?_⟩;rw[aJ]at e1 e2;obtain⟨a,ha,rfl⟩:=b_.mp e1;obtain⟨y,hy,rfl⟩:=b_.mp e2;exact⟨a,rfl,r i a y ha hy,λv hv=>by
  rcases hf y (aA hy) v hv with rfl|⟨i,rfl⟩|⟨z,rfl,hz⟩
  ·exact⟨_,.non⟩
  ·exact⟨_,.int i⟩
  ·exact⟨_,.str z hz⟩⟩
def Kw(C:Addr):Sp:=λvs H Q _=>∃(pw l1 l2 l3 l4:Addr)(T:Tb),vs=[.ref pw]/\WAt H pw T l1 l2 l3 l4/\OkTb T/\∀H' t,Same H H'->Tel H' C t T->Q (.ref t) H'
section
variable {P:Program}{w:World}{K:aa}{mg:Str->Option Value}{base:Heap}{C:Addr}
theorem Qd:FnScope [q_w] [q_w] (Zc T.f__law_made):=scO
theorem WS(B:∀x∈Blts,mg x=none)(M:TMkG P w K mg base C)(D:Df K mg "_law_made" T.f__law_made [q_w]):Can P w K mg base 9 "_law_made" [q_w] (Kw C):=by obtain⟨fm,fdm,hM,FM,bM⟩:=M.made;refine D.cn Qd λf cdv A outer s H vs Q E hr h=>?_;obtain⟨pw,l1,l2,l3,l4,T,rfl,tb,ok,k⟩:=h;refine⟨_,(Zd (Zl (Ml hM FM hr rfl M.mg bM .nil Yl (Ze (it K (pv 0) Zb) (Ze (Yi YG rfl (bm B) Xn (Ze (it K (pv 0) Zb) Zk)) (Ze (Yi YG rfl (bm B) Xn (Ze (it K (pv 0) Zb) Zk)) (Ze (Yi YG rfl (bm B) Xn (Ze (it K (pv 0) Zb) Zk)) (Ze (Yi YG rfl (bm B) Xn (Ze (it K (pv 0) Zb) Zk)) Zk)))))))),?_⟩;obtain⟨x1,h1,r1⟩:=tb.r1.part (ok.flat (.inl rfl));obtain⟨x2,h2,r2⟩:=tb.r2.part (ok.flat (.inr (.inl rfl)));obtain⟨x3,h3,r3⟩:=tb.r3.part (ok.flat (.inr (.inr (.inl rfl))));obtain⟨x4,h4,r4⟩:=tb.r4.part (ok.flat (.inr (.inr (.inr rfl))));refine ixT 0 tb.at_ rfl (ixT 1 tb.at_ rfl ⟨l1,x1,rfl,.inl (SqL.of h1),λq1 n1=>?_⟩);dsimp only;refine nl2 n1 λH1 S1 e1=>?_;refine ixT 2 (S1 _ _ tb.at_) rfl ⟨l2,x2,rfl,.inl (SqL.of (S1 _ _ h2)),λq2 n2=>?_⟩;dsimp only;refine nl2 n2 λH2 S2 e2=>?_;have S02:=S1.trans S2;refine ixT 3 (S02 _ _ tb.at_) rfl ⟨l3,x3,rfl,.inl (SqL.of (S02 _ _ h3)),λq3 n3=>?_⟩;dsimp only;refine nl2 n3 λH3 S3 e3=>?_;have S03:=S02.trans S3;refine ixT 4 (S03 _ _ tb.at_) rfl ⟨l4,x4,rfl,.inl (SqL.of (S03 _ _ h4)),λq4 n4=>?_⟩;dsimp only[tNil];have S4:Same H3 (upd H3 q4 (.lst x4)):=sameNew (Same.refl _) n4;have e4:upd H3 q4 (.lst x4) q4=some (.lst x4):=Zf;generalize upd H3 q4 (.lst x4)=H4 at S4 e4 ⊢;have S04:=S03.trans S4;have S24:=S3.trans S4;simp only[bB];exact Wh ok ((S2.trans S24) _ _ e1) (S24 _ _ e2) (S4 _ _ e3) e4 (r1.same S04) (r2.same S04) (r3.same S04) (r4.same S04) λH5 t S5 ht tel=>k _ t (S04.trans S5) tel
end
end WD
namespace TB
open PySem L2 PySem.Spec PyProof.Rows WD
section
variable {P:Program}{w:World}{K:aa}{mg:Str->Option Value}{base:Heap}{C Cn:Addr}
theorem Qf:FnScope ["self","thing"] ["self","thing"] (Zc T.m_Table_is_group):=scO
theorem PN(Z:TCl K C)(D:DfM K C "is_group" "Table.is_group" T.m_Table_is_group ["self","thing"])(CK:Can P w K mg base 1 "is_known" ["thing","names"] Pf):CanM P w K mg base CX0 2 C "is_group" ["self","thing"] (G5 C "group_by_name"):=by refine D.cn Qf λf cdv A outer s H vs Q E hr h=>?_;obtain⟨t,x,T',fs,d,kvs,rfl,⟨⟨dx,ht⟩,_⟩,hl,hd,th,k⟩:=h;refine⟨_,Zd (Zl (YB CK hr rfl (Zh (pv 1) (Zh (ZZ (pv 0) rfl) Zk)))),?_⟩;exact⟨_,rfl,_,rfl,t,C,dx,fs,_,rfl,ht,Z.cl,Z.na _ (by simp[fields]),hl,x,T',d,kvs,rfl,th,hd,k⟩
end
end TB
namespace SX
open PySem L2 PySem.Spec PyProof.Rows TB WD
noncomputable def sA(ys:List V)(j:Nat):Str:=match at_ ys j with|.str z=>z|_=>""
noncomputable def iA(ys:List V)(j:Nat):Int:=match at_ ys j with|.int i=>i|_=>0
structure Sx where
 key:List Key
 tail:PyData
 head:PyData
 room:V
 price:Int
noncomputable def outS(y:List V)(i:Int):Sx:=⟨[.inr "out",.inr (nameOf y),.inl i],.str (nameOf y),.tuple [.str (sA y 1),.int i],.non,0⟩
noncomputable def Xr(y:List V):Sx:=⟨[.inr "ride",.inr (nameOf y)],.tuple [.str (sA y 1),.int (iA y 2)],.tuple [.str (sA y 3),.int (iA y 4)],.int (iA y 5),iA y 4-iA y 2⟩
noncomputable def Um(y:List V)(i:Int):Sx:=⟨[.inr "walk",.inr (nameOf y),.inl i],.tuple [.str (sA y 1),.int i],.tuple [.str (sA y 2),.int (i+iA y 3)],.int (iA y 4),iA y 3⟩
noncomputable def VQ(y:List V)(i:Int):Sx:=⟨[.inr "wait",.inr (nameOf y),.inl i],.tuple [.str (nameOf y),.int i],.tuple [.str (nameOf y),.int (i+1)],at_ y 1,1⟩
def Uk(T:Tb)(vs:List V)(j:Nat)(S:Sx):Prop:=(∃y∈T.t4,∃i,vs=[.str "out",.str (nameOf y),.int i]/\iA y 2<=i/\i<=T.n/\j=0/\S=outS y i) \/(∃y∈T.t2,vs=[.str "ride",.str (nameOf y)]/\j=1/\S=Xr y) \/(∃y∈T.t3,∃i,vs=[.str "walk",.str (nameOf y),.int i]/\0<=i/\i<=T.n-iA y 3/\j=2/\S=Um y i) \/∃y∈T.t1,∃i,vs=[.str "wait",.str (nameOf y),.int i]/\at_ y 1≠.non/\0<=i/\i<=T.n-1/\j=3/\S=VQ y i
theorem Uk.key{T:Tb}{vs:List V}{j:Nat}{S:Sx}(h:Uk T vs j S):vs=S.key.map kV/\j<4:=by rcases h with⟨y,_,i,e,_,_,rfl,rfl⟩|⟨y,_,e,rfl,rfl⟩|⟨y,_,i,e,_,_,rfl,rfl⟩|⟨y,_,i,e,_,_,_,rfl,rfl⟩<;>exact⟨e,by decide⟩
theorem NJ{t:List (List V)}(h:(t.map nameOf).Nodup){y z:List V}(hy:y∈t)(hz:z∈t)(e:nameOf y=nameOf z):y=z:=by
 induction t with
|nil=>cases hy
|cons a t ih=>
  rw[ar,bz]at h;rcases ao.mp hy with rfl|hy'<;>rcases ao.mp hz with rfl|hz'
  ·rfl
  ·exact absurd (e▸ah.mpr ⟨z,hz',rfl⟩) h.1
  ·exact absurd (e▸ah.mpr ⟨y,hy',rfl⟩) h.1
  ·exact ih h.2 hy' hz'
theorem NI{T:Tb}(o:OkTb T){j:Nat}(hj:isJ j):((T.part j).map nameOf).Nodup:=(o.part j hj).2.nd
theorem W6:("out":Str)≠"walk"/\("out":Str)≠"wait"/\("walk":Str)≠"wait"/\("out":Str)≠"ride"/\("walk":Str)≠"ride"/\("wait":Str)≠"ride":=by decide +kernel
noncomputable def flds(vk vt vh vr vp:V):List (Str×V):=[("its_key",vk),("its_tail",vt),("its_head",vh),("its_room",vr),("its_price",vp)]
def Je(H:Hp)(Cs:Nat->Addr)(x:Addr)(j:Nat)(S:Sx):Prop:=∃dx k vt vh,H x=some (.ins (Cs j) dx (flds (.ref k) vt vh S.room (.int S.price)))/\H k=some (.tup (S.key.map kV))/\Is H vt S.tail/\Is H vh S.head
theorem Je.same{H H':Hp}{Cs:Nat->Addr}{x:Addr}{j:Nat}{S:Sx}(s:Same H H')(h:Je H Cs x j S):Je H' Cs x j S:=by obtain⟨dx,k,vt,vh,h1,h2,h3,h4⟩:=h;exact⟨dx,k,vt,vh,s _ _ h1,s _ _ h2,h3.same s,h4.same s⟩
noncomputable def fnames:List Str:=["its_key","its_tail","its_head","its_room","its_price"]
structure SCl(K:aa)(C:Addr):Prop where
 cl:Cls K C
 na:∀f∈fnames,Xk K C f
def Sy(K:aa):Sp:=λvs H Q _=>∃(x C dx:Addr)(vk vt vh vr vp:V),vs=[.ref x,vk,vt,vh,vr,vp]/\SCl K C/\H x=some (.ins C dx [])/\Q .non (upd H x (.ins C dx (flds vk vt vh vr vp)))
structure CanB(P:Program)(w:World)(K:aa)(mg:Str->Option Value)(base:Heap)(Cb:Addr):Prop where
 at_:∃f fd,FnOk P w K mg base CX0 1 f fd ["self","key","tail","head","room","price"] (Sy K)/\BaseM K Cb "__init__" f/\Binds K fd ["self","key","tail","head","room","price"] []
 mg:mg "Step"=some (.ref Cb)
structure SMk(P:Program)(w:World)(K:aa)(mg:Str->Option Value)(base:Heap)(x:Str)(C:Addr)(ps:List Str)(sp:Sp):Prop where
 made:∃f fd,Mk K C f/\FnOk P w K mg base CX0 2 f fd ps sp/\Binds K fd ps []
 mg:mg x=some (.ref C)
def spMk(K:aa)(Cs:Nat->Addr)(j:Nat)(rd:List V->List V->Sx->Prop):Sp:=λvs H Q _=>∃(x dx r:Addr)(y:List V)(us:List V)(S:Sx),vs=.ref x::.ref r::us/\SCl K (Cs j)/\H x=some (.ins (Cs j) dx [])/\H r=some (.tup y)/\rd y us S /\∀H',Zj x H H'->Je H' Cs x j S->Q .non H'
def Rq(y us:List V)(S:Sx):Prop:=∃a b c d e f,y=[.str a,.str b,.int c,.str d,.int e,.int f]/\us=[]/\S=Xr y
def Ro(y us:List V)(S:Sx):Prop:=∃a b c d e i,y=[.str a,.str b,.str c,.int d,.int e]/\us=[.int i]/\S=Um y i
def Rp(y us:List V)(S:Sx):Prop:=∃a b i,y=[.str a,b]/\us=[.int i]/\S=VQ y i
theorem nof{K:aa}{C:Addr}(Z:SCl K C){f:Str}(h:f∈fnames):Xk K C f:=Z.na f h
mutual
theorem PL{H:Hp}{x:Addr}{o:HO}(hx:∀xs,H x≠some (.lst xs)/\H x≠some (.tup xs)):∀{v:V}{d:PyData},Is H v d->Is (upd H x o) v d
|_,_,.non=>.non
|_,_,.bl b=>.bl b
|_,_,.int i=>.int i
|_,_,.str z=>.str z
|_,_,.lst e r=>.lst (by rw[Zg (λz=>(hx _).1 (z▸e))];exact e) (Gb hx r)
|_,_,.tup e r=>.tup (by rw[Zg (λz=>(hx _).2 (z▸e))];exact e) (Gb hx r)
theorem Gb{H:Hp}{x:Addr}{o:HO}(hx:∀xs,H x≠some (.lst xs)/\H x≠some (.tup xs)):∀{v:List V}{d:List PyData},IsAll H v d->IsAll (upd H x o) v d
|_,_,.nil=>.nil
|_,_,.cons h r=>.cons (PL hx h) (Gb hx r)
end
theorem Pb{H:Hp}{Cs:Nat->Addr}{x dx k:Addr}{j:Nat}{S:Sx}{vt vh:V}{fs:List (Str×V)}(hx:H x=some (.ins (Cs j) dx fs))(hk:H k=some (.tup (S.key.map kV)))(ht:Is H vt S.tail)(hh:Is H vh S.head):Je (upd H x (.ins (Cs j) dx (flds (.ref k) vt vh S.room (.int S.price)))) Cs x j S:=by have kp:∀{v:V}{d:PyData},Is H v d->Is (upd H x (.ins (Cs j) dx (flds (.ref k) vt vh S.room (.int S.price)))) v d:=λh=>PL (λxs=>⟨(λz=>by rw[hx]at z;cases z),(λz=>by rw[hx]at z;cases z)⟩) h;exact⟨dx,k,vt,vh,Zf,by rw[Zg (ne_of hk hx (by intro z;cases z))];exact hk,kp ht,kp hh⟩
theorem pfl{f:Str}{v:V}{fs:List (Str×V)}{n:Nat}(h:fs.length<n):(putF f v fs).length<n+1:=by have:=YR f v fs;omega
theorem small{n:Nat}(h:n<10):n<1000:=by omega
section
variable {P:Program}{w:World}{K:aa}{mg:Str->Option Value}{base:Heap}{Cb:Addr}{Cs:Nat->Addr}
theorem U6:FnScope ["self","key","tail","head","room","price"] ["self","key","tail","head","room","price"] (Zc T.m_Step___init__):=scO
theorem Lw{f:Addr}{fd:bP}(F:Fun K "__init__" "Step.__init__" T.m_Step___init__ f fd):FnOk P w K mg base CX0 1 f fd ["self","key","tail","head","room","price"] (Sy K):=by
 refine F.ok U6 (λvs H Q E h=>?_) (λcdv A outer s H vs Q E hr h=>?_)
 ·obtain⟨x,C,dx,vk,vt,vh,vr,vp,rfl,_⟩:=h;rfl
 ·obtain⟨x,C,dx,vk,vt,vh,vr,vp,rfl,Z,hx,k⟩:=h;refine⟨_,(Za (YW (pv 0) (pv 1) rfl) (Za (YW (pv 0) (pv 2) rfl) (Za (YW (pv 0) (pv 3) rfl) (Za (YW (pv 0) (pv 4) rfl) (Zd (YW (pv 0) (pv 5) rfl)))))),?_⟩;refine⟨_,rfl,_,rfl,x,C,dx,_,rfl,hx,Z.cl,nof Z (by decide +kernel),by decide,?_⟩;refine⟨_,rfl,_,rfl,x,C,dx,_,rfl,Zf,Z.cl,nof Z (by decide +kernel),small (n:=_) (pfl (Nat.zero_lt_succ 8)),?_⟩;refine⟨_,rfl,_,rfl,x,C,dx,_,rfl,Zf,Z.cl,nof Z (by decide +kernel),small (n:=_) (pfl (pfl (Nat.zero_lt_succ 7))),?_⟩;refine⟨_,rfl,_,rfl,x,C,dx,_,rfl,Zf,Z.cl,nof Z (by decide +kernel),small (n:=_) (pfl (pfl (pfl (Nat.zero_lt_succ 6)))),?_⟩;refine⟨_,rfl,_,rfl,x,C,dx,_,rfl,Zf,Z.cl,nof Z (by decide +kernel),small (n:=_) (pfl (pfl (pfl (pfl (Nat.zero_lt_succ 5))))),?_⟩;simp only[DI];exact k
theorem Y2:FnScope ["self","row","leave","come"] ["self","row"] (Zc T.m_Ride___init__):=scO
theorem Ei{f:Addr}{fd:bP}(CB:CanB P w K mg base Cb)(F:Fun K "__init__" "Ride.__init__" T.m_Ride___init__ f fd):FnOk P w K mg base CX0 2 f fd ["self","row"] (spMk K Cs 1 Rq):=by
 obtain⟨f1,fd1,F1,b1,bd1⟩:=CB.at_;refine F.ok Y2 (λvs H Q E h=>?_) (λcdv A outer s H vs Q E hr h=>?_)
 ·obtain⟨x,dx,r,y,us,S,rfl,_,_,_,⟨_,_,_,_,_,_,_,rfl,_⟩,_⟩:=h;rfl
 ·obtain⟨x,dx,r,y,us,S,rfl,Z,hx,hy,⟨a,b,c,d,e,g,rfl,rfl,rfl⟩,k⟩:=h;refine' ⟨_,(@Za _ _ _ _ _ ?h10 (@Za _ _ _ _ _ ?h11 (@Zd _ _ _ ?h12))),?rd⟩;case' h12=>refine' (Z7 (Pz (Z4 (v:=.ref Cb) rfl CB.mg rfl) b1 F1 hr.m bd1 .nil Yl (@Ze _ _ _ _ _ (pv 0) (@Ze _ _ _ _ _ ?h9 (@Ze _ _ _ _ _ ?h7 (@pa3 _ _ _ _ _ _ _ ?h5 ?h3 (Zo XZ (pv 3) (pv 2)) (by rfl)) (by rfl)) (by rfl)) (by rfl))))
  case' h11=>refine' (@st _ _ _ _ 3 _ _ Y2.nd ?h2 (by rfl) (by exact aO rfl) (by rfl) (by exact .inl rfl))
  case' h10=>refine' (@st _ _ _ _ 2 _ _ Y2.nd ?h1 (by rfl) (by exact aO rfl) (by rfl) (by exact .inl rfl))
  case' h9=>refine' (@Zu _ _ _ _ _ (@pa2 _ _ _ _ _ ZE ?h8 (by rfl)))
  case' h8=>refine' (@it _ _ _ _ _ _ K (pv 1) Zb (by rfl) (by exact λ_ _=>rfl))
  case' h7=>refine' (@Zu _ _ _ _ _ (@pa2 _ _ _ _ _ ?h6 (pv 2) (by rfl)))
  case' h6=>refine' (@it _ _ _ _ _ _ K (pv 1) Zb (by rfl) (by exact λ_ _=>rfl))
  case' h5=>refine' (@Zu _ _ _ _ _ (@pa2 _ _ _ _ _ ?h4 (pv 3) (by rfl)))
  case' h4=>refine' (@it _ _ _ _ _ _ K (pv 1) Zb (by rfl) (by exact λ_ _=>rfl))
  case' h3=>refine' (@it _ _ _ _ _ _ K (pv 1) Zb (by rfl) (by exact λ_ _=>rfl))
  case' h2=>refine' (@it _ _ _ _ _ _ K (pv 1) Zb (by rfl) (by exact λ_ _=>rfl))
  case' h1=>refine' (@it _ _ _ _ _ _ K (pv 1) Zb (by rfl) (by exact λ_ _=>rfl))
  have at0:atI [V.str a,.str b,.int c,.str d,.int e,.int g] 0=some (.str a):=ZD (j:=0) rfl;have at1:atI [V.str a,.str b,.int c,.str d,.int e,.int g] 1=some (.str b):=ZD (j:=1) rfl;have at2:atI [V.str a,.str b,.int c,.str d,.int e,.int g] 2=some (.int c):=ZD (j:=2) rfl;have at3:atI [V.str a,.str b,.int c,.str d,.int e,.int g] 3=some (.str d):=ZD (j:=3) rfl;have at4:atI [V.str a,.str b,.int c,.str d,.int e,.int g] 4=some (.int e):=ZD (j:=4) rfl;have at5:atI [V.str a,.str b,.int c,.str d,.int e,.int g] 5=some (.int g):=ZD (j:=5) rfl;refine iaT hy at2 ?_;refine iaT hy at4 ?_;refine⟨_,rfl,_,rfl,r,_,0,_,rfl,rfl,SqT.of hy,at0,zl,λq1 h1=>?_⟩;dsimp only[tNil];refine nl2 h1 λH1 S1 e1=>?_;refine iaT (S1 _ _ hy) at1 ⟨_,rfl,zl,λq2 h2=>?_⟩;dsimp only[tNil];refine nl2 h2 λH2 S2 e2=>?_;have S12:=S1.trans S2;refine iaT (S12 _ _ hy) at3 ⟨_,rfl,zl,λq3 h3=>?_⟩;dsimp only[tNil];refine nl2 h3 λH3 S3 e3=>?_;have S13:=S12.trans S3;refine iaT (S13 _ _ hy) at5 ⟨_,rfl,_,rfl,_,_,rfl,rfl,?_⟩;refine⟨x,Cs 1,dx,_,_,_,_,_,rfl,Z,S13 _ _ hx,k _ ?_ ?_⟩
  ·exact λc o e hc=>by rw[Zg hc];exact S13 _ _ e
  ·exact Pb (S:=Xr [.str a,.str b,.int c,.str d,.int e,.int g]) (S13 _ _ hx) (S3 _ _ (S2 _ _ e1)) (.tup (S3 _ _ e2) (.cons (.str _) (.cons (.int _) .nil))) (.tup e3 (.cons (.str _) (.cons (.int _) .nil)))
theorem Jj:FnScope ["self","row","turn","long"] ["self","row","turn"] (Zc T.m_Walk___init__):=scO
theorem Eg{f:Addr}{fd:bP}(CB:CanB P w K mg base Cb)(F:Fun K "__init__" "Walk.__init__" T.m_Walk___init__ f fd):FnOk P w K mg base CX0 2 f fd ["self","row","turn"] (spMk K Cs 2 Ro):=by
 obtain⟨f1,fd1,F1,b1,bd1⟩:=CB.at_;refine F.ok Jj (λvs H Q E h=>?_) (λcdv A outer s H vs Q E hr h=>?_)
 ·obtain⟨x,dx,r,y,us,S,rfl,_,_,_,⟨_,_,_,_,_,_,_,rfl,_⟩,_⟩:=h;rfl
 ·obtain⟨x,dx,r,y,us,S,rfl,Z,hx,hy,⟨a,b,c,d,e,i,rfl,rfl,rfl⟩,k⟩:=h;refine' ⟨_,(@Za _ _ _ _ _ ?h9 (@Zd _ _ _ ?h10)),?rd⟩;case' h10=>refine' (Z7 (Pz (Z4 (v:=.ref Cb) rfl CB.mg rfl) b1 F1 hr.m bd1 .nil Yl (@Ze _ _ _ _ _ (pv 0) (@Ze _ _ _ _ _ ?h8 (@Ze _ _ _ _ _ ?h6 (@pa3 _ _ _ _ _ _ _ ?h4 ?h2 (pv 3) (by rfl)) (by rfl)) (by rfl)) (by rfl))))
  case' h9=>refine' (@st _ _ _ _ 3 _ _ Jj.nd ?h1 (by rfl) (by exact aO rfl) (by rfl) (by exact .inl rfl))
  case' h8=>refine' (@Zu _ _ _ _ _ (@pa3 _ _ _ _ _ _ _ ZE ?h7 (pv 2) (by rfl)))
  case' h7=>refine' (@it _ _ _ _ _ _ K (pv 1) Zb (by rfl) (by exact λ_ _=>rfl))
  case' h6=>refine' (@Zu _ _ _ _ _ (@pa2 _ _ _ _ _ ?h5 (pv 2) (by rfl)))
  case' h5=>refine' (@it _ _ _ _ _ _ K (pv 1) Zb (by rfl) (by exact λ_ _=>rfl))
  case' h4=>refine' (@Zu _ _ _ _ _ (@pa2 _ _ _ _ _ ?h3 (Zo ZI (pv 2) (pv 3)) (by rfl)))
  case' h3=>refine' (@it _ _ _ _ _ _ K (pv 1) Zb (by rfl) (by exact λ_ _=>rfl))
  case' h2=>refine' (@it _ _ _ _ _ _ K (pv 1) Zb (by rfl) (by exact λ_ _=>rfl))
  case' h1=>refine' (@it _ _ _ _ _ _ K (pv 1) Zb (by rfl) (by exact λ_ _=>rfl))
  have at0:atI [V.str a,.str b,.str c,.int d,.int e] 0=some (.str a):=ZD (j:=0) rfl;have at1:atI [V.str a,.str b,.str c,.int d,.int e] 1=some (.str b):=ZD (j:=1) rfl;have at2:atI [V.str a,.str b,.str c,.int d,.int e] 2=some (.str c):=ZD (j:=2) rfl;have at3:atI [V.str a,.str b,.str c,.int d,.int e] 3=some (.int d):=ZD (j:=3) rfl;have at4:atI [V.str a,.str b,.str c,.int d,.int e] 4=some (.int e):=ZD (j:=4) rfl;refine iaT hy at3 ?_;refine⟨_,rfl,_,rfl,r,_,0,_,rfl,rfl,SqT.of hy,at0,_,rfl,zl,λq1 h1=>?_⟩;dsimp only[tNil];refine nl2 h1 λH1 S1 e1=>?_;refine iaT (S1 _ _ hy) at1 ⟨_,rfl,zl,λq2 h2=>?_⟩;dsimp only[tNil];refine nl2 h2 λH2 S2 e2=>?_;have S12:=S1.trans S2;refine iaT (S12 _ _ hy) at2 ⟨_,rfl,_,rfl,_,_,rfl,rfl,zl,λq3 h3=>?_⟩;dsimp only[tNil];refine nl2 h3 λH3 S3 e3=>?_;have S13:=S12.trans S3;refine iaT (S13 _ _ hy) at4 ⟨_,rfl,?_⟩;refine⟨x,Cs 2,dx,_,_,_,_,_,rfl,Z,S13 _ _ hx,k _ ?_ ?_⟩
  ·exact λc o e hc=>by rw[Zg hc];exact S13 _ _ e
  ·exact Pb (S:=Um [.str a,.str b,.str c,.int d,.int e] i) (S13 _ _ hx) (S3 _ _ (S2 _ _ e1)) (.tup (S3 _ _ e2) (.cons (.str _) (.cons (.int _) .nil))) (.tup e3 (.cons (.str _) (.cons (.int _) .nil)))
theorem U5:FnScope ["self","row","turn"] ["self","row","turn"] (Zc T.m_Wait___init__):=scO
theorem Eh{f:Addr}{fd:bP}(CB:CanB P w K mg base Cb)(F:Fun K "__init__" "Wait.__init__" T.m_Wait___init__ f fd):FnOk P w K mg base CX0 2 f fd ["self","row","turn"] (spMk K Cs 3 Rp):=by
 obtain⟨f1,fd1,F1,b1,bd1⟩:=CB.at_;refine F.ok U5 (λvs H Q E h=>?_) (λcdv A outer s H vs Q E hr h=>?_)
 ·obtain⟨x,dx,r,y,us,S,rfl,_,_,_,⟨_,_,_,_,rfl,_⟩,_⟩:=h;rfl
 ·obtain⟨x,dx,r,y,us,S,rfl,Z,hx,hy,⟨a,b,i,rfl,rfl,rfl⟩,k⟩:=h;refine' ⟨_,(@Zd _ _ _ ?h8),?rd⟩;case' h8=>refine' (Z7 (Pz (Z4 (v:=.ref Cb) rfl CB.mg rfl) b1 F1 hr.m bd1 .nil Yl (@Ze _ _ _ _ _ (pv 0) (@Ze _ _ _ _ _ ?h7 (@Ze _ _ _ _ _ ?h5 (@pa3 _ _ _ _ _ _ _ ?h3 ?h1 Zb (by rfl)) (by rfl)) (by rfl)) (by rfl))))
  case' h7=>refine' (@Zu _ _ _ _ _ (@pa3 _ _ _ _ _ _ _ ZE ?h6 (pv 2) (by rfl)))
  case' h6=>refine' (@it _ _ _ _ _ _ K (pv 1) Zb (by rfl) (by exact λ_ _=>rfl))
  case' h5=>refine' (@Zu _ _ _ _ _ (@pa2 _ _ _ _ _ ?h4 (pv 2) (by rfl)))
  case' h4=>refine' (@it _ _ _ _ _ _ K (pv 1) Zb (by rfl) (by exact λ_ _=>rfl))
  case' h3=>refine' (@Zu _ _ _ _ _ (@pa2 _ _ _ _ _ ?h2 (Zo ZI (pv 2) Zb) (by rfl)))
  case' h2=>refine' (@it _ _ _ _ _ _ K (pv 1) Zb (by rfl) (by exact λ_ _=>rfl))
  case' h1=>refine' (@it _ _ _ _ _ _ K (pv 1) Zb (by rfl) (by exact λ_ _=>rfl))
  have at0:atI [V.str a,b] 0=some (.str a):=ZD (j:=0) rfl;have at1:atI [V.str a,b] 1=some b:=ZD (j:=1) rfl;refine⟨_,rfl,_,rfl,r,_,0,_,rfl,rfl,SqT.of hy,at0,_,rfl,zl,λq1 h1=>?_⟩;dsimp only[tNil];refine nl2 h1 λH1 S1 e1=>?_;refine⟨_,rfl,r,_,0,_,rfl,rfl,SqT.of (S1 _ _ hy),at0,_,rfl,zl,λq2 h2=>?_⟩;dsimp only[tNil];refine nl2 h2 λH2 S2 e2=>?_;have S12:=S1.trans S2;refine⟨_,rfl,r,_,0,_,rfl,rfl,SqT.of (S12 _ _ hy),at0,_,rfl,_,_,rfl,rfl,zl,λq3 h3=>?_⟩;dsimp only[tNil];refine nl2 h3 λH3 S3 e3=>?_;have S13:=S12.trans S3;refine iaT (S13 _ _ hy) at1 ?_;refine⟨x,Cs 3,dx,_,_,_,_,_,rfl,Z,S13 _ _ hx,k _ ?_ ?_⟩
  ·exact λc o e hc=>by rw[Zg hc];exact S13 _ _ e
  ·exact Pb (S:=VQ [.str a,b] i) (S13 _ _ hx) (S3 _ _ (S2 _ _ e1)) (.tup (S3 _ _ e2) (.cons (.str _) (.cons (.int _) .nil))) (.tup e3 (.cons (.str _) (.cons (.int _) .nil)))
end
def Prt(H:Hp)(fs:List (Str×V))(f:Str)(t:List (List V))(l:Addr)(xs:List V):Prop:=fs.lookup f=some (.ref l)/\H l=some (.tup xs)/\xs.length=t.length/\∀(i:Nat)(y:List V),t[i]?=some y->∃a:Addr,xs[i]?=some (V.ref a)/\H a=some (.tup y)
theorem Pr{H:Hp}{fs:List (Str×V)}{f g:Str}{t:List (List V)}{xs:List V}{k:List (Key×V)}(h:Vx H fs f g (prs xs t) k)(r:YZ H xs (t.map some)):∃l,Prt H fs f t l xs:=by
 obtain⟨l,d,ys,rs,a1,a2,a3,a4,a5⟩:=h;cases a3;have hl:xs.length=t.length:=by rw[r.1,lm]
 refine⟨l,a1,a4,hl,λi y hi=>?_⟩;have hlt:i<t.length:=(ak.mp hi).1;have e1:xs[i]?=some xs[i]:=gE (by omega);obtain⟨a,ea,ha,_⟩:=r.2 i _ _ e1 (show(t.map some)[i]?=some (some y) by rw[aJ,hi];rfl);exact⟨a,by rw[e1,ea],ha⟩
structure Prts(H:Hp)(C t:Addr)(T:Tb)(fs:List (Str×V)):Prop where
 tab:Tab H C t fs
 turns:fs.lookup ("turns":Str)=some (.int T.n)
 p:∃l xs,Prt H fs "places" T.t1 l xs
 r:∃l xs,Prt H fs "rides" T.t2 l xs
 w:∃l xs,Prt H fs "ways" T.t3 l xs
 g:∃l xs,Prt H fs "groups" T.t4 l xs
theorem Uo{H:Hp}{C t:Addr}{T:Tb}(h:Tel H C t T):∃fs,Prts H C t T fs:=by
 obtain⟨fs,x1,x2,x3,x4,k,tp,d⟩:=h;refine⟨fs,tp.tab.tab,tp.tab.turns,?_,?_,?_,?_⟩
 ·obtain⟨l,a⟩:=Pr tp.tab.p (tp.rows _ (.inl rfl) _ _ rfl);exact⟨l,_,a⟩
 ·obtain⟨l,a⟩:=Pr tp.tab.r (tp.rows _ (.inr (.inl rfl)) _ _ rfl);exact⟨l,_,a⟩
 ·obtain⟨l,a⟩:=Pr tp.tab.w (tp.rows _ (.inr (.inr (.inl rfl))) _ _ rfl);exact⟨l,_,a⟩
 ·obtain⟨l,a⟩:=Pr tp.tab.g (tp.rows _ (.inr (.inr (.inr rfl))) _ _ rfl);exact⟨l,_,a⟩
noncomputable def StL(H:Hp)(Cs:Nat->Addr)(T:Tb):List V->List Sx->Prop:=bj λv S=>∃x j,v=.ref x/\Je H Cs x j S/\Uk T (S.key.map kV) j S
theorem StL.same{H H':Hp}{Cs:Nat->Addr}{T:Tb}{vs:List V}{L:List Sx}(s:Same H H')(h:StL H Cs T vs L):StL H' Cs T vs L:=Paired.mapP h λ_ _⟨x,j,e,q,i⟩=>⟨x,j,e,q.same s,i⟩
def Vz(C:Addr)(Cs:Nat->Addr)(f:Tb->List Sx):Sp:=λvs H Q _=>∃(t:Addr)(T:Tb),vs=[.ref t]/\Tel H C t T/\OkTb T /\∀H' p xs,Same H H'->H p=none->H' p=some (.lst xs)->StL H' Cs T xs (f T)->Q (.ref p) H'
theorem Ng{z:Str}(h:Atm (.str z)):GS z:=by cases h with|str h=>exact h
section
variable {T:Tb}(o:OkTb T)
include o
theorem K6{y:List V}(h:y∈T.t2):∃(a b d:Str)(c e f:Int),y=[.str a,.str b,.int c,.str d,.int e,.int f]/\GS a/\GS b/\GS d/\0<=c/\c+1<=e/\e<=T.n/\0<=f/\f<=1000:=by obtain⟨k1,hk⟩:=Mm o;obtain⟨e0,gs⟩:=YA o (j:=2) (.inr (.inl rfl)) h;obtain⟨z,s,lv,g',cm,se,rfl,en,he,a1,a2,b1,b2,c1,c2⟩:=TZ o h hk.has;obtain⟨q1,q2⟩:=QQ o hk he;obtain⟨k1',k2',_⟩:=UE he;obtain⟨x,v,rfl,_⟩:=Yu k1';obtain⟨x',v',rfl,_⟩:=Yu k2';rw[en]at gs;exact⟨z,x,x',lv,cm,se,rfl,gs,Ng q1,Ng q2,a1,b1,b2,c1,c2⟩
theorem K5{y:List V}(h:y∈T.t3):∃(a b c:Str)(d e:Int),y=[.str a,.str b,.str c,.int d,.int e]/\GS a/\GS b/\GS c/\1<=d/\d<=50/\0<=e/\e<=1000:=by obtain⟨k1,hk⟩:=Mm o;obtain⟨e0,gs⟩:=YA o (j:=3) (.inr (.inr (.inl rfl))) h;have r:=V7 o (j:=3) (.inr (.inr (.inl rfl))) h;have hw:=r.why k1 (λ_=>hk.has);obtain⟨a,b,c,d,e,rfl⟩:=len5 r.len;obtain⟨he,h1,h2⟩:=DG (hw 0 (λz=>by cases z):wayV k1 b c d e=.non);obtain⟨q1,q2⟩:=QQ o hk he;obtain⟨k1',k2',_⟩:=UE he;obtain⟨x,v,rfl,_⟩:=Yu k1';obtain⟨x',v',rfl,_⟩:=Yu k2';obtain⟨i,rfl,i0,i1⟩:=within_int h1;obtain⟨j,rfl,j0,j1⟩:=within_int h2;have ea:a=.str (nameOf [a,.str x,.str x',.int i,.int j]):=e0;exact⟨_,x,x',i,j,congrArg (λq=>[q,.str x,.str x',.int i,.int j]) ea,gs,Ng q1,Ng q2,i0,i1,j0,j1⟩
theorem XJ{y:List V}(h:y∈T.t4):∃(a b:Str)(c d:Int),y=[.str a,.str b,.int c,.int d]/\GS a/\GS b/\0<=c/\c<=T.n/\0<=d/\d<=300:=by obtain⟨k1,hk⟩:=Mm o;obtain⟨e0,gs⟩:=YA o (j:=4) (.inr (.inr (.inr rfl))) h;have r:=V7 o (j:=4) (.inr (.inr (.inr rfl))) h;have hw:=r.why k1 (λ_=>hk.has);obtain⟨a,b,c,d,rfl⟩:=len4 r.len;obtain⟨h1,h2,i,rfl,i0,i1⟩:=Ve (hw (300-Zz [a,b,c,d]) (λ_=>by omega):Y6 k1 T.n _ b c d=.non);have q1:=Ga o hk h1;obtain⟨x,v,rfl,_⟩:=Yu h1;obtain⟨t,rfl,t0,t1⟩:=within_int h2;have ea:a=.str (nameOf [a,.str x,.int t,.int i]):=e0;exact⟨_,x,t,i,congrArg (λq=>[q,.str x,.int t,.int i]) ea,gs,Ng q1,t0,t1,i0,i1⟩
end
theorem U7{H H':Hp}{x dx C:Addr}(hx:H x=none)(hd:H dx=none)(s:Zj x (upd (upd H dx (.own x)) x (.ins C dx [])) H'):Same H H':=λc o e=>by have n1:c≠x:=Zi e hx;have n2:c≠dx:=Zi e hd;exact s c o (by rw[Zg n1,Zg n2];exact e) n1
theorem Mz{H:Hp}{x dx C a:Addr}{ys:List V}(hx:H x=none)(hd:H dx=none)(e:H a=some (.tup ys)):upd (upd H dx (.own x)) x (.ins C dx []) a=some (.tup ys):=by rw[Zg (Zi e hx),Zg (Zi e hd)];exact e
noncomputable def ZK(T:Tb)(y:List V):List Sx:=(aV (T.n+1-iA y 2).toNat).map λ(m:Nat)=>outS y (iA y 2+m)
noncomputable def ZO(T:Tb)(y:List V):List Sx:=(aV (T.n+1-iA y 3).toNat).map λ(m:Nat)=>Um y (0+m)
noncomputable def ZL(T:Tb)(y:List V):List Sx:=if at_ y 1=.non then[]else(aV T.n.toNat).map λ(m:Nat)=>VQ y (0+m)
noncomputable def allS(T:Tb):List Sx:=T.t4.flatMap (ZK T)++T.t2.map Xr++T.t3.flatMap (ZO T)++T.t1.flatMap (ZL T)
noncomputable def JR(S:Sx):PyData:=.tuple [S.tail,S.head,dF S.room,.int S.price]
noncomputable def puts(l:List (Sx×V))(acc:List (List Key×V)):List (List Key×V):=l.foldl (λkvs p=>putK kvs p.1.key p.2) acc
def Dc(H:Hp)(p:Addr)(L:List Sx):Prop:=∃kvs:List (List Key×V),H p=some (.dT kvs)/\kvs.length<=L.length/\(∃vs,bj (λv S=>Is H v (JR S)) vs L/\kvs=puts (L.zip vs) [])/\True
theorem Dc.same{H H':Hp}{p:Addr}{L:List Sx}(s:Same H H')(h:Dc H p L):Dc H' p L:=by obtain⟨kvs,e,l,⟨vs,a,b⟩,_⟩:=h;exact⟨kvs,s _ _ e,l,⟨vs,Paired.mapP a λ_ _ i=>i.same s,b⟩,trivial⟩
theorem Dc.put{H:Hp}{p a:Addr}{kvs:List (List Key×V)}{L:List Sx}{S:Sx}(e:H p=some (.dT kvs))(l:kvs.length<=L.length)(h1:∃vs,bj (λv S=>Is H v (JR S)) vs L/\kvs=puts (L.zip vs) [])(h2:True)(hv:Is H (.ref a) (JR S)):Dc (upd H p (.dT (putK kvs S.key (.ref a)))) p (L++[S]):=by
 have hn:∀xs,H p≠some (.lst xs)/\H p≠some (.tup xs):=λxs=>⟨(λz=>by rw[e]at z;cases z),(λz=>by rw[e]at z;cases z)⟩;obtain⟨vs,r,ek⟩:=h1;refine⟨_,Zf,?_,⟨vs++[.ref a],dq (Paired.mapP r λ_ _ i=>PL hn i) (PL hn hv),?_⟩,trivial⟩
 ·have:=YQ kvs S.key (.ref a);rw[aj];show _<=L.length+1;omega
 ·rw[List.zip_append (by rw[aK r])];unfold puts;rw[ij,ek];rfl
theorem Jr{f:List V->List Sx}{t:List (List V)}{i:Nat}(hi:i<t.length):(t.take (i+1)).flatMap f=(t.take i).flatMap f++f t[i]:=by rw[bc,gE hi,List.flatMap_append];simp
theorem map_take{f:List V->Sx}{t:List (List V)}{i:Nat}(hi:i<t.length):(t.take (i+1)).map f=(t.take i).map f++[f t[i]]:=by rw[bc,gE hi,aL];rfl
theorem Xs{f:Nat->Sx}{n i:Nat}(hi:i<n):(((aV n).map f).take (i+1))=((aV n).map f).take i++[f i]:=by rw[bc,aJ,gM hi];rfl
theorem UD{f:List V->List Sx}{m:Nat}:∀{t:List (List V)},(∀y∈t,(f y).length<=m)->(t.flatMap f).length<=t.length*m
|[],_=>by simp
|y::t,h=>by
  rw[List.flatMap_cons,aj,aR];have h1:=h y (by simp);have h2:=UD (f:=f) (m:=m) (t:=t) λz hz=>h z (by simp[hz]);have:(t.length+1)*m=t.length*m+m:=by rw[Nat.add_mul,Nat.one_mul]
  omega
theorem Dw{T:Tb}(o:OkTb T){S:Sx}(h:S∈allS T):∃j,Uk T (S.key.map kV) j S:=by
 unfold allS at h;simp only[aD,bQ,ah]at h;rcases h with((⟨y,hy,h⟩|⟨y,hy,rfl⟩)|⟨y,hy,h⟩)|⟨y,hy,h⟩
 ·unfold ZK at h;obtain⟨m,hm,rfl⟩:=ah.mp h;rw[bp]at hm;exact⟨0,.inl ⟨y,hy,_,rfl,by omega,by omega,rfl,rfl⟩⟩
 ·exact⟨1,.inr (.inl ⟨y,hy,rfl,rfl,rfl⟩)⟩
 ·unfold ZO at h;obtain⟨m,hm,rfl⟩:=ah.mp h;rw[bp]at hm;exact⟨2,.inr (.inr (.inl ⟨y,hy,_,rfl,by omega,by omega,rfl,rfl⟩))⟩
 ·unfold ZL at h;split at h
  ·cases h
  rename_i hne;obtain⟨m,hm,rfl⟩:=ah.mp h;rw[bp]at hm;exact⟨3,.inr (.inr (.inr ⟨y,hy,_,rfl,hne,by omega,by omega,rfl,rfl⟩))⟩
theorem Qr{T:Tb}(o:OkTb T){y:List V}(h:y∈T.t4):(ZK T y).length<=51:=by obtain⟨a,b,c,d,rfl,_,_,h0,_⟩:=XJ o h;have:=o.n1;unfold ZK;rw[lm,bf];show(T.n+1-c).toNat<=51;omega
theorem Np{T:Tb}(o:OkTb T){y:List V}(h:y∈T.t3):(ZO T y).length<=51:=by obtain⟨a,b,c,d,e,rfl,_,_,_,h0,_⟩:=K5 o h;have:=o.n1;unfold ZO;rw[lm,bf];show(T.n+1-d).toNat<=51;omega
theorem Nq{T:Tb}(o:OkTb T){y:List V}:(ZL T y).length<=51:=by
 have:=o.n1;unfold ZL;split
 ·exact Nat.zero_le _
 rw[lm,bf];omega
theorem Xv{T:Tb}(o:OkTb T):T.t1.length<=14/\T.t2.length<=80/\T.t3.length<=40/\T.t4.length<=300:=⟨(o.part 1 (.inl rfl)).1,(o.part 2 (.inr (.inl rfl))).1,(o.part 3 (.inr (.inr (.inl rfl)))).1,(o.part 4 (.inr (.inr (.inr rfl)))).1⟩
theorem Uu{T:Tb}(o:OkTb T):(T.t4.flatMap (ZK T)).length<=15300/\(T.t2.map Xr).length<=80/\(T.t3.flatMap (ZO T)).length<=2040/\(T.t1.flatMap (ZL T)).length<=714:=by obtain⟨h1,h2,h3,h4⟩:=Xv o;have a:=UD (f:=ZK T) (m:=51) (t:=T.t4) λy hy=>Qr o hy;have b:=UD (f:=ZO T) (m:=51) (t:=T.t3) λy hy=>Np o hy;have c:=UD (f:=ZL T) (m:=51) (t:=T.t1) λy hy=>Nq o;refine⟨by omega,by rw[lm];exact h2,by omega,by omega⟩
theorem J6{f:List V->List Sx}{t:List (List V)}(i:Nat):((t.take i).flatMap f).length<=(t.flatMap f).length:=by
 conv=>rhs;rw[<-f_ i t,List.flatMap_append,aj]
 exact Nat.le_add_right _ _
def NL(d:PyData):Prop:=(∃a,d=.str a)\/∃a i,d=.tuple [.str a,.int i]
theorem Ta{T:Tb}{ks:List V}{j:Nat}{S:Sx}(h:Uk T ks j S):NL S.tail/\NL S.head:=by
 rcases h with⟨y,_,i,e,_,_,rfl,rfl⟩|⟨y,_,e,rfl,rfl⟩|⟨y,_,i,e,_,_,rfl,rfl⟩|⟨y,_,i,e,_,_,_,rfl,rfl⟩
 ·exact⟨.inl ⟨_,rfl⟩,.inr ⟨_,_,rfl⟩⟩
 ·exact⟨.inr ⟨_,_,rfl⟩,.inr ⟨_,_,rfl⟩⟩
 ·exact⟨.inr ⟨_,_,rfl⟩,.inr ⟨_,_,rfl⟩⟩
 ·exact⟨.inr ⟨_,_,rfl⟩,.inr ⟨_,_,rfl⟩⟩
theorem Ff{H H':Hp}{v:V}{d:PyData}(n:NL d)(ht:∀c xs,H c=some (.tup xs)->H' c=some (.tup xs))(h:Is H v d):Is H' v d:=by
 rcases n with⟨a,rfl⟩|⟨a,i,rfl⟩
 ·cases h with
 |str=>exact .str _
 ·cases h with
 |tup e r=>
   cases r with
  |cons h1 r=>
   cases r with
  |cons h2 r=>
   cases r;cases h1;cases h2;exact .tup (ht _ _ e) (.cons (.str _) (.cons (.int _) .nil))
theorem Je.keepL{H H':Hp}{Cs:Nat->Addr}{T:Tb}{x p:Addr}{j:Nat}{S:Sx}{ys:List V}(hp:H p=some (.lst ys))(s:Zj p H H')(i:Uk T (S.key.map kV) j S)(h:Je H Cs x j S):Je H' Cs x j S:=by obtain⟨dx,k,vt,vh,h1,h2,h3,h4⟩:=h;have ht:∀c xs,H c=some (.tup xs)->H' c=some (.tup xs):=λc xs e=>s _ _ e (ne_of e hp (λz=>nomatch z));exact⟨dx,k,vt,vh,s _ _ h1 (ne_of h1 hp (λz=>nomatch z)),ht _ _ h2,Ff (Ta i).1 ht h3,Ff (Ta i).2 ht h4⟩
theorem StL.keepL{H H':Hp}{Cs:Nat->Addr}{T:Tb}{p:Addr}{vs:List V}{L:List Sx}{ys:List V}(hp:H p=some (.lst ys))(s:Zj p H H')(h:StL H Cs T vs L):StL H' Cs T vs L:=Paired.mapP h λ_ _⟨x,j,e,q,i⟩=>⟨x,j,e,q.keepL hp s i,i⟩
theorem StL.app{H:Hp}{Cs:Nat->Addr}{T:Tb}:∀{vs us:List V}{L M:List Sx},StL H Cs T vs L->StL H Cs T us M->StL H Cs T (vs++us) (L++M)
|_,_,_,_,.nil,b=>b
|_,_,_,_,.cons h t,b=>.cons h (StL.app t b)
theorem StL.snoc{H:Hp}{Cs:Nat->Addr}{T:Tb}{vs:List V}{L:List Sx}{x:Addr}{j:Nat}{S:Sx}(h:StL H Cs T vs L)(q:Je H Cs x j S)(i:Uk T (S.key.map kV) j S):StL H Cs T (vs++[.ref x]) (L++[S]):=h.app (.cons ⟨x,j,rfl,q,i⟩ .nil)
theorem StL.len{H:Hp}{Cs:Nat->Addr}{T:Tb}{vs:List V}{L:List Sx}(h:StL H Cs T vs L):vs.length=L.length:=aK h
section
variable {P:Program}{w:World}{K:aa}{mg:Str->Option Value}{base:Heap}{C:Addr}{Cs:Nat->Addr}
theorem J7:FnScope ["table","steps","row"] ["table"] (Zc T.f_walks_of):=scO
noncomputable def VU:Scope:=csx [(".0",.local),("turn",.local),("Walk",.globalImplicit),("row",.free)]
theorem Gg:CompScope VU (Zc T.f_walks_of):=⟨rfl,by decide +kernel,by decide +kernel,by decide +kernel⟩
theorem Gi:(["turn","row"]:List Str).Nodup:=by decide +kernel
theorem Gh:CompNames ["table","steps","row"] VU ["turn","row"] [none,some 2]:=.mk' (by decide +kernel)
theorem WI(B:∀x∈Blts,mg x=none)(Z:TCl K C)(ZS:∀j,j<4->SCl K (Cs j))(M:SMk P w K mg base "Walk" (Cs 2) ["self","row","turn"] (spMk K Cs 2 Ro))(D:Df K mg "walks_of" T.f_walks_of ["table"]):Can P w K mg base 4 "walks_of" ["table"] (Vz C Cs λT=>T.t3.flatMap (ZO T)):=by
 obtain⟨fm,fdm,hM,FM,bM⟩:=M.made;refine D.cn J7 λf cdv A outer s H vs Q E hr h=>?_;obtain⟨t,T,rfl,tel,ok,k⟩:=h;obtain⟨fs,pr⟩:=Uo tel;obtain⟨l,xs,f1,f2,f3,f4⟩:=pr.w;obtain⟨dx,ht⟩:=pr.tab.at_;refine⟨_,(Za (st 1 J7.nd (Zy Zk)) (Za (Yc aT rfl (MR (ZZ (pv 0) rfl)) (VC (i:=2) J7.nd rfl (dC rfl)) (Zd (Z7 (MS b6 PySem.F.slot_list_extend PySem.F.type_list_extend NK (pv 1) (Ze (Z0 rfl Gg Gh (YD rfl (bm B) (Ze (Zo ZI (Zo XZ (ZZ (pv 0) rfl) (it K (pv 2) Zb)) Zb) Zk)) (λC s H ex pn=>(nmT 0 Gi)) (λC s H ex pn=>Yp) (λC s H ex pn=>(Ml hM FM hr.m rfl M.mg bM .nil Yl (Ze (pv 1) (Ze (pv 0) Zk))))) Zk))))) (Zd (Zl (pv 1))))),?_⟩;refine⟨zl,λp hp=>?_⟩;have e0:upd H p (.lst []) p=some (.lst []):=Zf;have S0:Zj p H (upd H p (.lst [])):=(Zj.refl p H).new' hp;generalize upd H p (.lst [])=H0 at e0 S0 ⊢;have ht':∀{H':Hp},Zj p H H'->H' t=some (.ins C dx fs):=λs=>s _ _ ht (Zi ht hp);have hl':∀{H':Hp},Zj p H H'->H' l=some (.tup xs):=λs=>s _ _ f2 (Zi f2 hp);refine⟨_,rfl,t,C,dx,fs,_,rfl,ht' S0,Z.cl,Z.na _ (by simp[fields]),f1,l,rfl,⟨_,SqT.of (hl' S0)⟩,?_⟩;refine YC (J:=Itt K l) T.t3.length (λi σ H'=>Zj p H H'/\∃ys o,H' p=some (.lst ys)/\StL H' Cs T ys ((T.t3.take i).flatMap (ZO T))/\σ=[some (.ref t),some (.ref p),o]) ⟨S0,_,_,e0,.nil,rfl⟩ (λi σ H' hi q=>?_) (λσ H' q=>?_) (λi σ H' x H2 hi q yl=>?_) (λσ H1 q=>?_)
 ·exact⟨xs,xs[i]'(by omega),SqT.of (hl' q.1),gE _⟩
 ·exact⟨xs,SqT.of (hl' q.1),by omega⟩
 ·obtain⟨s1,ys,o,ep,sl,rfl⟩:=q;have e1:T.t3[i]?=some T.t3[i]:=gE hi;obtain⟨a,ea,ha⟩:=f4 i _ e1;obtain⟨rfl,hx⟩:=yl;have hx2:=hx _ (SqT.of (hl' s1));rw[ea]at hx2;cases hx2;have hy:T.t3[i]∈T.t3:=aE hi;have ha1:=s1 _ _ ha (Zi ha hp);rw[Jr hi];generalize T.t3[i]=y at ha1 hy;obtain⟨a1,b1,c1,d1,e1,rfl,_,_,_,h0,h1,_⟩:=K5 ok hy;dsimp only[Zq];refine td λD' hdd=>?_;refine⟨_,rfl,.inl ⟨rfl,_,SqL.of ep⟩,?_⟩;have hn:=ok.n1;have hn0:=ok.n0;refine⟨_,rfl,t,C,dx,fs,_,rfl,ht' s1,Z.cl,Z.na _ (by simp[fields]),pr.turns,ixT 3 ha1 rfl ⟨_,_,rfl,rfl,_,_,rfl,rfl,_,rfl,by omega,by omega,?_⟩⟩;refine YY (J:=Itr 0 (T.n-d1+1).toNat) (T.n-d1+1).toNat (Nat.le_trans (by omega:_<=51) (by decide)) (λm zs τ H'=>Same H2 H'/\StL H' Cs T zs ((ZO T [.str a1,.str b1,.str c1,.int d1,.int e1]).take m)/\∃v,τ=[v,some (.ref a)]) ⟨Same.refl _,.nil,none,rfl⟩ (λm zs τ H' q=>by rw[q.2.1.len,aN];omega) (λm zs τ H' hm _=>hm) (λzs τ H' _=>Nat.le_refl _) (λm zs τ H' x H3 hm q yl=>?_) (λzs τ H5 q lr hlr=>?_)
  ·obtain⟨s2,sl2,v,rfl⟩:=q;obtain⟨rfl,rfl⟩:=yl;refine⟨_,rfl,_,rfl,λx' dx' hx' hdx' _=>⟨x',dx',a,_,_,Um _ (0+m),rfl,ZS 2 (by decide),Zf,Mz hx' hdx' (s2 _ _ ha1),⟨a1,b1,c1,_,_,_,rfl,rfl,rfl⟩,λH' s3 st=>⟨rfl,?_⟩⟩⟩;have s4:=U7 hx' hdx' s3;refine⟨s2.trans s4,?_,_,rfl⟩;rw[show(ZO T [.str a1,.str b1,.str c1,.int d1,.int e1]).take (m+1)=(ZO T [.str a1,.str b1,.str c1,.int d1,.int e1]).take m++[Um [.str a1,.str b1,.str c1,.int d1,.int e1] (0+m)]from Xs (n:=(T.n+1-d1).toNat) (by omega)];exact(sl2.same s4).snoc st (.inr (.inr (.inl ⟨_,hy,0+m,rfl,by omega,(by show 0+(m:Int)<=T.n-d1;omega),rfl,rfl⟩)))
  ·obtain⟨s2,sl2,v,rfl⟩:=q;have s5:Same H2 (upd H5 lr (.lst zs)):=sameNew s2 hlr;have sl5:=sl2.same (sameNew (o:=.lst zs) (Same.refl H5) hlr);have er:upd H5 lr (.lst zs) lr=some (.lst zs):=Zf;generalize upd H5 lr (.lst zs)=H6 at s5 sl5 er ⊢;have lz:zs.length<=51:=by rw[sl5.len,aN];omega
   have ly:ys.length<=2040:=by rw[sl.len];exact Nat.le_trans (J6 i) (Uu ok).2.2.1
   have fin:∀c o,H6 c=some o->c≠p->upd H6 p (.lst (ys++zs)) c=some o:=λc o e hc=>by rw[Zg hc];exact e
   refine⟨p,lr,ys,zs,rfl,rfl,s5 _ _ ep,er,Nat.le_trans (by omega:_<=20000) (by decide),hdd _ _ ⟨?_,_,_,Zf,?_,rfl⟩⟩
   ·exact λc o e hc=>fin _ _ (s5 _ _ (s1 _ _ e hc)) hc
   ·refine StL.keepL (s5 _ _ ep) fin ((sl.same s5).app ?_);rw[aX (by unfold ZO;rw[lm,bf];show(T.n+1-d1).toNat<=_;omega)]at sl5;exact sl5
 ·obtain⟨s1,ys,o,ep,sl,rfl⟩:=q;rw[aW]at sl;exact⟨_,rfl,k _ p ys (λc o e=>s1 _ _ e (Zi e hp)) hp ep sl⟩
theorem J8:FnScope ["table","steps","row"] ["table"] (Zc T.f_waits_of):=scO
noncomputable def VV:Scope:=csx [(".0",.local),("turn",.local),("Wait",.globalImplicit),("row",.free)]
theorem Gj:CompScope VV (Zc T.f_waits_of):=⟨rfl,by decide +kernel,by decide +kernel,by decide +kernel⟩
theorem Gm:(["turn","row"]:List Str).Nodup:=by decide +kernel
theorem Gk:CompNames ["table","steps","row"] VV ["turn","row"] [none,some 2]:=.mk' (by decide +kernel)
theorem WJ(B:∀x∈Blts,mg x=none)(Z:TCl K C)(ZS:∀j,j<4->SCl K (Cs j))(M:SMk P w K mg base "Wait" (Cs 3) ["self","row","turn"] (spMk K Cs 3 Rp))(D:Df K mg "waits_of" T.f_waits_of ["table"]):Can P w K mg base 4 "waits_of" ["table"] (Vz C Cs λT=>T.t1.flatMap (ZL T)):=by
 obtain⟨fm,fdm,hM,FM,bM⟩:=M.made;refine D.cn J8 λf cdv A outer s H vs Q E hr h=>?_;obtain⟨t,T,rfl,tel,ok,k⟩:=h;obtain⟨fs,pr⟩:=Uo tel;obtain⟨l,xs,f1,f2,f3,f4⟩:=pr.p;obtain⟨dx,ht⟩:=pr.tab.at_;refine⟨_,(Za (st 1 J8.nd (Zy Zk)) (Za (Yc aT rfl (MR (ZZ (pv 0) rfl)) (VC (i:=2) J8.nd rfl (dC rfl)) (Zd (ZG (Zt VD (it K (pv 2) Zb) ZF (ZC _)) (Zd (Z7 (MS b6 PySem.F.slot_list_extend PySem.F.type_list_extend NK (pv 1) (Ze (Z0 rfl Gj Gk (YD rfl (bm B) (Ze (ZZ (pv 0) rfl) Zk)) (λC s H ex pn=>(nmT 0 Gm)) (λC s H ex pn=>Yp) (λC s H ex pn=>(Ml hM FM hr.m rfl M.mg bM .nil Yl (Ze (pv 1) (Ze (pv 0) Zk))))) Zk)))) Zp))) (Zd (Zl (pv 1))))),?_⟩;refine⟨zl,λp hp=>?_⟩;have e0:upd H p (.lst []) p=some (.lst []):=Zf;have S0:Zj p H (upd H p (.lst [])):=(Zj.refl p H).new' hp;generalize upd H p (.lst [])=H0 at e0 S0 ⊢;have ht':∀{H':Hp},Zj p H H'->H' t=some (.ins C dx fs):=λs=>s _ _ ht (Zi ht hp);have hl':∀{H':Hp},Zj p H H'->H' l=some (.tup xs):=λs=>s _ _ f2 (Zi f2 hp);refine⟨_,rfl,t,C,dx,fs,_,rfl,ht' S0,Z.cl,Z.na _ (by simp[fields]),f1,l,rfl,⟨_,SqT.of (hl' S0)⟩,?_⟩;refine YC (J:=Itt K l) T.t1.length (λi σ H'=>Zj p H H'/\∃ys o,H' p=some (.lst ys)/\StL H' Cs T ys ((T.t1.take i).flatMap (ZL T))/\σ=[some (.ref t),some (.ref p),o]) ⟨S0,_,_,e0,.nil,rfl⟩ (λi σ H' hi q=>?_) (λσ H' q=>?_) (λi σ H' x H2 hi q yl=>?_) (λσ H1 q=>?_)
 ·exact⟨xs,xs[i]'(by omega),SqT.of (hl' q.1),gE _⟩
 ·exact⟨xs,SqT.of (hl' q.1),by omega⟩
 ·obtain⟨s1,ys,o,ep,sl,rfl⟩:=q;have e1:T.t1[i]?=some T.t1[i]:=gE hi;obtain⟨a,ea,ha⟩:=f4 i _ e1;obtain⟨rfl,hx⟩:=yl;have hx2:=hx _ (SqT.of (hl' s1));rw[ea]at hx2;cases hx2;have hy:T.t1[i]∈T.t1:=aE hi;have ha1:=s1 _ _ ha (Zi ha hp);rw[Jr hi];generalize T.t1[i]=y at ha1 hy;obtain⟨⟨nm,rm⟩,rfl,gs,hrm⟩:=XQ ok hy;dsimp only[Zq];refine td λD' hdd=>?_;cases rm with
 |none=>refine ixT 1 ha1 rfl ⟨rfl,_,rfl,?_⟩;refine iteF ?_;refine hdd _ _ ⟨s1,ys,_,ep,?_,rfl⟩;rw[show ZL T (plRow (nm,none))=[]from if_pos rfl,bB];exact sl
 |some b1=>
   refine ixT 1 ha1 rfl ⟨rfl,_,rfl,?_⟩;refine iteT ?_;have ew:ZL T (plRow (nm,some b1))=(aV T.n.toNat).map λ(m:Nat)=>VQ (plRow (nm,some b1)) (0+m):=if_neg (λz=>by cases z);have hn:=ok.n1;have hn0:=ok.n0;refine⟨_,rfl,.inl ⟨rfl,_,SqL.of ep⟩,?_⟩;refine⟨_,rfl,t,C,dx,fs,_,rfl,ht' s1,Z.cl,Z.na _ (by simp[fields]),pr.turns,_,rfl,by omega,by omega,?_⟩;refine YY (J:=Itr 0 T.n.toNat) T.n.toNat (Nat.le_trans (by omega:_<=51) (by decide)) (λm zs τ H'=>Same H2 H'/\StL H' Cs T zs ((ZL T (plRow (nm,some b1))).take m)/\∃v,τ=[v,some (.ref a)]) ⟨Same.refl _,.nil,none,rfl⟩ (λm zs τ H' q=>by rw[q.2.1.len,aN];omega) (λm zs τ H' hm _=>hm) (λzs τ H' _=>Nat.le_refl _) (λm zs τ H' x H3 hm q yl=>?_) (λzs τ H5 q lr hlr=>?_)
   ·obtain⟨s2,sl2,v,rfl⟩:=q;obtain⟨rfl,rfl⟩:=yl;refine⟨_,rfl,_,rfl,λx' dx' hx' hdx' _=>⟨x',dx',a,_,_,VQ _ (0+m),rfl,ZS 3 (by decide),Zf,Mz hx' hdx' (s2 _ _ ha1),⟨nm,_,_,rfl,rfl,rfl⟩,λH' s3 st=>⟨rfl,?_⟩⟩⟩;have s4:=U7 hx' hdx' s3;refine⟨s2.trans s4,?_,_,rfl⟩;rw[show(ZL T (plRow (nm,some b1))).take (m+1)=(ZL T (plRow (nm,some b1))).take m++[VQ (plRow (nm,some b1)) (0+m)]from by rw[ew];exact Xs hm];exact(sl2.same s4).snoc st (.inr (.inr (.inr ⟨_,hy,0+m,rfl,(λz=>by cases z),by omega,by omega,rfl,rfl⟩)))
   ·obtain⟨s2,sl2,v,rfl⟩:=q;have s5:Same H2 (upd H5 lr (.lst zs)):=sameNew s2 hlr;have sl5:=sl2.same (sameNew (o:=.lst zs) (Same.refl H5) hlr);have er:upd H5 lr (.lst zs) lr=some (.lst zs):=Zf;generalize upd H5 lr (.lst zs)=H6 at s5 sl5 er ⊢;have lz:zs.length<=51:=by rw[sl5.len,aN];omega
    have ly:ys.length<=2040:=by rw[sl.len];exact Nat.le_trans (J6 i) (Nat.le_trans (Uu ok).2.2.2 (by decide))
    have fin:∀c o,H6 c=some o->c≠p->upd H6 p (.lst (ys++zs)) c=some o:=λc o e hc=>by rw[Zg hc];exact e
    refine⟨p,lr,ys,zs,rfl,rfl,s5 _ _ ep,er,Nat.le_trans (by omega:_<=20000) (by decide),hdd _ _ ⟨?_,_,_,Zf,?_,rfl⟩⟩
    ·exact λc o e hc=>fin _ _ (s5 _ _ (s1 _ _ e hc)) hc
    ·refine StL.keepL (s5 _ _ ep) fin ((sl.same s5).app ?_);rw[aX (by rw[ew,lm,bf];exact Nat.le_refl _)]at sl5;exact sl5
 ·obtain⟨s1,ys,o,ep,sl,rfl⟩:=q;rw[aW]at sl;exact⟨_,rfl,k _ p ys (λc o e=>s1 _ _ e (Zi e hp)) hp ep sl⟩
noncomputable def Y5(T:Tb):List Sx:=T.t2.map Xr++T.t3.flatMap (ZO T)++T.t1.flatMap (ZL T)
theorem GY(T:Tb):T.t4.flatMap (ZK T)++Y5 T=allS T:=by unfold allS Y5;simp only[bU]
theorem Qb:FnScope ["table"] ["table"] (Zc T.f_moves_of):=scO
noncomputable def VW:Scope:=csx [(".0",.local),("row",.local),("Ride",.globalImplicit)]
theorem Gn:CompScope VW (Zc T.f_moves_of):=⟨rfl,by decide +kernel,by decide +kernel,by decide +kernel⟩
theorem Gq:(["row"]:List Str).Nodup:=by decide +kernel
theorem Gp:CompNames ["table"] VW ["row"] [none]:=.mk' (by decide +kernel)
theorem WM(B:∀x∈Blts,mg x=none)(Z:TCl K C)(ZS:∀j,j<4->SCl K (Cs j))(M:SMk P w K mg base "Ride" (Cs 1) ["self","row"] (spMk K Cs 1 Rq))(CW:Can P w K mg base 4 "walks_of" ["table"] (Vz C Cs λT=>T.t3.flatMap (ZO T)))(CA:Can P w K mg base 4 "waits_of" ["table"] (Vz C Cs λT=>T.t1.flatMap (ZL T)))(D:Df K mg "moves_of" T.f_moves_of ["table"]):Can P w K mg base 5 "moves_of" ["table"] (Vz C Cs Y5):=by
 obtain⟨fm,fdm,hM,FM,bM⟩:=M.made;refine D.cn Qb λf cdv A outer s H vs Q E hr h=>?_;obtain⟨t,T,rfl,tel,ok,k⟩:=h;obtain⟨fs,pr⟩:=Uo tel;obtain⟨l,xs,f1,f2,f3,f4⟩:=pr.r;obtain⟨dx,ht⟩:=pr.tab.at_;have pl:=Uu ok;refine⟨_,(Zd (Zl (Zo Z6 (Zo Z6 (Z0 rfl Gn Gp (MR (ZZ (pv 0) rfl)) (λC s H ex pn=>(nmT 0 Gq)) (λC s H ex pn=>Yp) (λC s H ex pn=>(Ml hM FM hr.m rfl M.mg bM .nil Yl (Ze (pv 0) Zk)))) (cn CW hr (Ze (pv 0) Zk))) (cn CA hr (Ze (pv 0) Zk))))),?_⟩;refine⟨_,rfl,t,C,dx,fs,_,rfl,ht,Z.cl,Z.na _ (by simp[fields]),f1,l,rfl,⟨_,SqT.of f2⟩,?_⟩;refine YY (J:=Itt K l) T.t2.length (Nat.le_trans (Xv ok).2.1 (by decide)) (λm zs τ H'=>Same H H'/\StL H' Cs T zs ((T.t2.take m).map Xr)/\∃v,τ=[v]) ⟨Same.refl _,.nil,none,rfl⟩ (λm zs τ H' q=>by rw[q.2.1.len,lm,aN];omega) (λm zs τ H' hm q=>⟨xs,xs[m]'(by omega),SqT.of (q.1 _ _ f2),gE _⟩) (λzs τ H' q=>⟨xs,SqT.of (q.1 _ _ f2),by omega⟩) (λm zs τ H' x H3 hm q yl=>?_) (λzs τ H5 q lr hlr=>?_)
 ·obtain⟨s2,sl2,v,rfl⟩:=q;have e1:T.t2[m]?=some T.t2[m]:=gE hm;obtain⟨a,ea,ha⟩:=f4 m _ e1;obtain⟨rfl,hx⟩:=yl;have hx2:=hx _ (SqT.of (s2 _ _ f2));rw[ea]at hx2;cases hx2;have hy:T.t2[m]∈T.t2:=aE hm;have ha1:=s2 _ _ ha;rw[map_take hm];generalize T.t2[m]=y at ha1 hy;obtain⟨a1,b1,d1,c1,e1,g1,rfl,_⟩:=K6 ok hy;refine⟨_,rfl,λx' dx' hx' hdx' _=>⟨x',dx',a,_,_,Xr _,rfl,ZS 1 (by decide),Zf,Mz hx' hdx' ha1,⟨a1,b1,_,d1,_,_,rfl,rfl,rfl⟩,λH' s3 st=>⟨rfl,?_⟩⟩⟩;have s4:=U7 hx' hdx' s3;exact⟨s2.trans s4,(sl2.same s4).snoc st (.inr (.inl ⟨_,hy,rfl,rfl,rfl⟩)),_,rfl⟩
 ·obtain⟨s2,sl2,v,rfl⟩:=q;rw[aW]at sl2;have s5:Same H (upd H5 lr (.lst zs)):=sameNew s2 hlr;have sl5:=sl2.same (sameNew (o:=.lst zs) (Same.refl H5) hlr);have er:upd H5 lr (.lst zs) lr=some (.lst zs):=Zf;have fr:H lr=none:=s2.free hlr;generalize upd H5 lr (.lst zs)=H6 at s5 sl5 er ⊢;refine⟨_,rfl,t,T,rfl,tel.same s5,ok,λH7 p2 ws s7 h7 e7 sl7=>?_⟩;replace sl7:StL H7 Cs T ws (T.t3.flatMap (ZO T)):=sl7;refine⟨lr,p2,zs,ws,rfl,rfl,s7 _ _ er,e7,?_,λp3 h3=>?_⟩
  ·rw[sl5.len,sl7.len];exact Nat.le_trans (by omega:_<=20000) (by decide)
  have s8:Same H7 (upd H7 p3 (.lst (zs++ws))):=sameNew (Same.refl _) h3;have slA:=((sl5.same s7).app sl7).same s8;have e8:upd H7 p3 (.lst (zs++ws)) p3=some (.lst (zs++ws)):=Zf;generalize upd H7 p3 (.lst (zs++ws))=H8 at s8 slA e8 ⊢;have S08:=s5.trans (s7.trans s8);refine⟨_,rfl,t,T,rfl,tel.same S08,ok,λH9 p4 us s9 h9 e9 sl9=>?_⟩;replace sl9:StL H9 Cs T us (T.t1.flatMap (ZL T)):=sl9;have slB:=(slA.same s9).app sl9;have S09:=S08.trans s9;refine⟨p3,p4,_,us,rfl,rfl,s9 _ _ e8,e9,?_,λp5 h5=>?_⟩
  ·rw[slA.len,sl9.len,aj];exact Nat.le_trans (by omega:_<=20000) (by decide)
  exact k _ p5 _ (sameNew S09 h5) (S09.free h5) Zf (slB.same (sameNew (Same.refl _) h5))
end
end SX
namespace L2
open PySem PySem.Spec PyProof.Rows
noncomputable abbrev MK:=Key ⊕ List Key
section
variable (P:Program)(w:World)
noncomputable def mIs(h:Heap):MK->Value->Prop
|.inl k,v=>(ZH P w).is k v=true
|.inr ks,v=>∃a,v=.ref a/\(cz (ZH P w)).is h ks a
noncomputable def mH:MK->Int
|.inl k=>(ZH P w).hash k
|.inr ks=>(cz (ZH P w)).hash ks
noncomputable def mD:MK->Nat
|.inl _=>1
|.inr ks=>(cz (ZH P w)).draws ks
noncomputable def mE(x:MK×Value×Value):DictEntry:=⟨mH P w x.1,x.2.1,x.2.2⟩
end
section
variable {P:Program}{w:World}{A:a9}{E:Value->ag->Prop}{s:ag}
theorem Er{h:Heap}{k:MK}{v:Value}(x:mIs P w h k v):(∃i t,v=.int i t)\/(∃i t,v=.str i t)\/∃a,v=.ref a:=by
 rcases k with k|ks
 ·rcases ZP x with⟨i,t,_,e⟩|⟨y,t,_,e⟩
  ·exact .inl ⟨_,_,e⟩
  ·exact .inr (.inl ⟨_,_,e⟩)
 ·obtain⟨a,e,_⟩:=x;exact .inr (.inr ⟨a,e⟩)
theorem Fe{h:Heap}{v:Value}{a b:MK}(x:mIs P w h a v)(y:mIs P w h b v):a=b:=by
 rcases a with a|a<;>rcases b with b|b
 ·rw[(ZH P w).inj v a b x y]
 ·obtain⟨c,rfl,_⟩:=y;rcases ZP x with⟨_,_,_,e⟩|⟨_,_,_,e⟩<;>cases e
 ·obtain⟨c,rfl,_⟩:=x;rcases ZP y with⟨_,_,_,e⟩|⟨_,_,_,e⟩<;>cases e
 ·obtain⟨c,rfl,p⟩:=x;obtain⟨c',e,q⟩:=y;cases e;rw[(cz (ZH P w)).inj p q]
theorem LC{k:MK}{v:Value}{Q:Int->ag->Prop}(hu:A.units<cLine)(x:mIs P w s.heap k v)(h:Q (mH P w k) {s with toks:=s.toks+mD P w k}):wpAny (model P w) A (pyHash v) Q E s:=by
 rcases k with k|ks
 ·exact(ZH P w).pyHash x h
 ·obtain⟨a,rfl,p⟩:=x;exact(cz (ZH P w)).pyHash hu p h
theorem E9{h:Heap}{ks:List Key}{a:Addr}(p:(cz (ZH P w)).is h ks a):∃items,h.IsTuple a items:=by obtain⟨o,items,n,h1,h2,h3,_⟩:=p;exact⟨items,o,h1,h2,n,h3⟩
theorem m_eq{x y:MK}{u v:Value}{Q:Bool->ag->Prop}(hu:A.units<cLine)(hx:mIs P w s.heap x u)(hy:mIs P w s.heap y v)(h:Q (decide (x=y)) s):wpAny (model P w) A (eqBool u v) Q E s:=by
 rcases x with a|a<;>rcases y with b|b
 ·refine(ZH P w).eqBool hx hy ?_;rwa [show decide (a=b)=decide ((gC a:MK)=.inl b)from by by_cases e:a=b<;>simp[e]]
 ·obtain⟨c,rfl,p⟩:=hy;obtain⟨its,it⟩:=E9 p;rw[decide_eq_false (λq=>nomatch q)]at h;rcases ZP hx with⟨i,t,_,rfl⟩|⟨i,t,_,rfl⟩
  ·exact SeqAt.EqAt.int_tuple i t it hu _ _ _ _ h
  ·exact SeqAt.EqAt.str_tuple i t it hu _ _ _ _ h
 ·obtain⟨c,rfl,p⟩:=hx;obtain⟨its,it⟩:=E9 p;rw[decide_eq_false (λq=>nomatch q)]at h;rcases ZP hy with⟨i,t,_,rfl⟩|⟨i,t,_,rfl⟩
  ·exact SeqAt.EqAt.tuple_int i t it hu _ _ _ _ h
  ·exact SeqAt.EqAt.tuple_str i t it hu _ _ _ _ h
 ·obtain⟨c,rfl,p⟩:=hx;obtain⟨d,rfl,q⟩:=hy;refine(cz (ZH P w)).eqBool hu p q ?_;rwa [show decide (a=b)=decide ((cV a:MK)=.inr b)from by by_cases e:a=b<;>simp[e]]
theorem Te{k:MK}{v:Value}{Q:Bool->ag->Prop}(x:mIs P w s.heap k v)(h:Q true s):wpAny (model P w) A (eqIsQuiet 8 v) Q E s:=by
 rcases k with k|ks
 ·rw[eqIsQuiet_byValue _ ((ZH P w).byValue k v x)];exact ai h
 ·obtain⟨a,rfl,p⟩:=x;exact(cz (ZH P w)).quiet p h
theorem Ep{key:Value}{k:MK}{stored:List Value}{Q:Bool->ag->Prop}(hkey:mIs P w s.heap k key)(hst:∀v∈stored,∃k',mIs P w s.heap k' v)(h:Q false s):wpAny (model P w) A (tableMayTell key stored) Q E s:=by
 unfold tableMayTell;split
 ·exact ai h
 ·refine ae (Te hkey ?_);simp only[Bool.not_true,Bool.false_eq_true,if_false];refine ae ?_;refine wpAny_forIn_list _ (λrest r s'=>s'=s/\r=(none,())/\∀v∈rest,∃k',mIs P w s.heap k' v) _ ?_ ?_ _ _ ⟨rfl,rfl,hst⟩
  ·rintro x rest r s' ⟨rfl,rfl,hr⟩;obtain⟨k',hb⟩:=hr x aG;refine ae (Te hb ?_);simp only[Bool.not_true,Bool.false_eq_true,if_false];exact ai ⟨rfl,rfl,λv hv=>hr v (av _ hv)⟩
  ·rintro r s' ⟨rfl,rfl,_⟩;exact ai h
theorem Fc{h:Heap}{k:MK}{x:Str}{t:Tok}{v:Value}(p:mIs P w h k (.str x t)):(v.isStr x=true)↔mIs P w h k v:=by
 rcases k with k|ks
 ·show _↔(ZH P w).is k v=true;rw[(ZH P w).strs k x t v p]
 ·obtain⟨a,e,_⟩:=p;cases e
theorem Tj{es:Array DictEntry}{xs:List (MK×Value×Value)}(he:es.toList=xs.map (mE P w))(j:Nat):es[j]?=(xs[j]?).map (mE P w):=by rw[<-Array.getElem?_toList,he,aJ]
theorem Ti{es:Array DictEntry}{xs:List (MK×Value×Value)}(he:es.toList=xs.map (mE P w)):es.size=xs.length:=by rw[<-dI,he,lm]
theorem F7{xs:List (MK×Value×Value)}(hn:(xs.map (·.1)).Nodup):∀{i j:Nat}{k:MK}{p q:Value×Value},xs[i]?=some (k,p)->xs[j]?=some (k,q)->i=j:=by
 intro i j k p q hi hj;have hi':(xs.map (·.1))[i]?=some k:=by rw[aJ,hi];rfl
 have hj':(xs.map (·.1))[j]?=some k:=by rw[aJ,hj];rfl
 exact(List.getElem?_inj (ak.mp hi').1 hn).mp (hi'.trans hj'.symm)
theorem Tq{α:Type}{M:Model}{c:Prop}[Decidable c]{a b:Sem α}{Q:α->ag->Prop}(h1:wpAny M A a Q E s)(h2:wpAny M A b Q E s):wpAny M A (if c then a else b) Q E s:=by split<;>assumption
theorem M0{α:Type}{M:Model}{c:Prop}[Decidable c]{t:Sem Bool}{f:Bool->Sem α}{Q:α->ag->Prop}(h1:wpAny M A (f false) Q E s)(h2:∀Q':Bool->ag->Prop,Q' false s->wpAny M A t Q' E s):wpAny M A (if c then(pure false >>= f)else(t >>= f)) Q E s:=Tq (ae (ai h1)) (ae (h2 _ h1))
theorem share{α:Type}{M:Model}{C:Value->Prop}{F:Value->Sem α}{Q:α->ag->Prop}{g:Prop}(G:(∀kk,C kk->wpAny M A (F kk) Q E s)->g)(H:∀kk,C kk->wpAny M A (F kk) Q E s):g:=G H
theorem F9{xs:List (MK×Value×Value)}{k:MK}{f:Nat->Bool}{i x:Nat}{hit:Option Nat}(haskey:∀(j:Nat)(p:Value×Value),xs[j]?=some (k,p)->f j=true)(hskip:∀j,i<=j->j<x->f j=false)(hH:(hit=none/\∀j p,j<i->xs[j]?≠some (k,p))\/∃j p,hit=some j/\j<i/\xs[j]?=some (k,p))(hix:i<=x:=by assumption):(hit=none/\∀j p,j<x->xs[j]?≠some (k,p))\/∃j p,hit=some j/\j<x/\xs[j]?=some (k,p):=by
 rcases hH with⟨h0,hno⟩|⟨j,p,h1,hji,hj⟩
 ·refine .inl ⟨h0,λj p hjx hj=>?_⟩;rcases Nat.lt_or_ge j i with h|h
  ·exact hno j p h hj
  ·have:=hskip j h hjx;rw[haskey j p hj]at this;exact absurd this (by decide)
 ·exact .inr ⟨j,p,h1,by omega,hj⟩
theorem F8{xs:List (MK×Value×Value)}{k k':MK}{x:Nat}{hit:Option Nat}{b v':Value}(hkv:xs[x]?=some (k',b,v'))(hne:¬k'=k)(hHx:(hit=none/\∀j p,j<x->xs[j]?≠some (k,p))\/∃j p,hit=some j/\j<x/\xs[j]?=some (k,p)):(hit=none/\∀j p,j<x+1->xs[j]?≠some (k,p))\/∃j p,hit=some j/\j<x+1/\xs[j]?=some (k,p):=by
 rcases hHx with⟨h0,hno⟩|⟨j,p,h1,hjx,hj⟩
 ·refine .inl ⟨h0,λj p hjx hj=>?_⟩;rcases Nat.lt_or_ge j x with h|h
  ·exact hno j p h hj
  ·have hjx':j=x:=by omega
   subst hjx';rw[hkv]at hj;injection hj with hj;injection hj with hj;exact hne hj
 ·exact .inr ⟨j,p,h1,by omega,hj⟩
theorem m_find{d:Addr}{key:Value}{o:Obj}{es ep}{xs:List (MK×Value×Value)}{k:MK}{Q:Option Nat->ag->Prop}(hu:A.units<cLine)(hkey:mIs P w s.heap k key)(ho:s.heap.get? d=some o)(hd:o.data=.dict es ep)(he:es.toList=xs.map (mE P w))(his:∀x∈xs,mIs P w s.heap x.1 x.2.1)(hn:(xs.map (·.1)).Nodup)(hnone:(∀(j:Nat)(p:Value×Value),xs[j]?≠some (k,p))->Q none s)(hsome:∀(j:Nat)(p:Value×Value),xs[j]?=some (k,p)->Q (some j) s):wpAny (model P w) A (dictFind d key (mH P w k)) Q E s:=by
 have hsz:es.size=xs.length:=Ti he;have haskey:∀(j:Nat)(p:Value×Value),xs[j]?=some (k,p)->((es[j]?.map (·.hash))==some (mH P w k))=true:=by intro j p hj;rw[Tj he j,hj];simp[mE]
 have hmem:∀e∈es,∃x∈xs,e=mE P w x:=by intro e hin;have:e∈xs.map (mE P w):=he▸gi.mpr hin;obtain⟨x,hx,rfl⟩:=ah.mp this;exact⟨x,hx,rfl⟩
 have hat:∀x,x<es.size->∃k' b v',xs[x]?=some (k',b,v')/\mIs P w s.heap k' b/\es[x]?=some ⟨mH P w k',b,v'⟩:=by intro x hlt;obtain⟨⟨k',b,v'⟩,hkv⟩:∃y,xs[x]?=some y:=⟨xs[x]'(by rw[<-hsz];exact hlt),gE _⟩;exact⟨k',b,v',hkv,his _ (aA hkv),by rw[Tj he x,hkv];rfl⟩
 have hany:¬(es.any λe=>e.key==key&&e.hash != mH P w k)=true:=by rw[<-Array.any_toList,bJ];rintro ⟨e,hin,hc⟩;obtain⟨x,hx,rfl⟩:=hmem e (gi.mp hin);simp only[mE,Bool.and_eq_true,beq_iff_eq,bne_iff_ne,ne_eq]at hc;obtain⟨hxa,hne⟩:=hc;have:=his x hx;rw[hxa]at this;exact hne (by rw[Fe this hkey])
 have hst:∀v∈(hW es.size (λi=>es[i]?.map (·.hash)) (mH P w k)).filterMap (λi=>es[i]?.map (·.key)),∃k',mIs P w s.heap k' v:=by
  intro v hv;obtain⟨i,_,hi⟩:=gY.mp hv;cases hei:es[i]? with
 |none=>rw[hei]at hi;cases hi
 |some e=>
   rw[hei]at hi;obtain rfl:e.key=v:=by simpa using hi
   obtain⟨x,hx,rfl⟩:=hmem e (Array.mem_of_getElem? hei);exact⟨x.1,his x hx⟩
 have nolate:∀i,(∀j p,j<i->xs[j]?≠some (k,p))->(∀j,i<=j->j<es.size->((es[j]?.map (·.hash))==some (mH P w k))=false)->Q none s:=by
  intro i hno hall;refine hnone λj p hj=>?_;rcases Nat.lt_or_ge j i with h|h
  ·exact hno j p h hj
  ·have hjl:j<es.size:=by
    rw[hsz];rcases Nat.lt_or_ge j xs.length with h'|h'
    ·exact h'
    ·rw[de h']at hj;exact nomatch hj
   have:=hall j h hjl;rw[haskey j p hj]at this;exact absurd this (by decide)
 have plain:wpAny (model P w) A (dictWalkPlain d key (mH P w k) es (hW es.size (λi=>es[i]?.map (·.hash)) (mH P w k))) Q E s:=by
  refine ae ?_;refine wpAny_forIn_list _ (λrest b s'=>s'=s/\b=(none,())/\∃i,rest=(iD i (es.size-i)).filter (λi=>(es[i]?.map (·.hash))==some (mH P w k))/\i<=es.size /\∀j p,j<i->xs[j]?≠some (k,p)) _ ?_ ?_ _ _ ⟨rfl,rfl,0,by rw[hW,List.range_eq_range',Nat.sub_zero],Nat.zero_le _,λ_ _ h=>absurd h (Nat.not_lt_zero _)⟩
  ·rintro x rest b s' ⟨rfl,rfl,i,hr,hi,hno⟩;obtain⟨hix,hxn,hpx,hskip,hrest⟩:=filter_range'_cons _ _ _ _ _ hr.symm;have hlt:x<es.size:=by omega
   obtain⟨k',b,v',hkv,hib,hex⟩:=hat x hlt;have hnext:¬k'=k->∃i,rest=(iD i (es.size-i)).filter (λi=>(es[i]?.map (·.hash))==some (mH P w k))/\i<=es.size /\∀j p,j<i->xs[j]?≠some (k,p):=λhne=>
    ⟨x+1,by rw[hrest];congr 2;omega,hlt,λj p hji hj=>by
     rcases Nat.lt_or_ge j i with h|h
     ·exact hno j p h hj
     ·rcases Nat.lt_or_ge j x with h'|h'
      ·have:=hskip j h h';rw[haskey j p hj]at this;exact absurd this (by decide)
      ·have:j=x:=by omega
       subst this;rw[hkv]at hj;injection hj with hj;injection hj with hj;exact hne hj⟩
   rw[hex];dsimp only;by_cases hh:(mH P w k'==mH P w k)=true
   ·rw[if_pos hh];refine ae (cu ho hd (ae (m_eq (x:=k') (y:=k) hu hib hkey (ae (cu ho hd ?_)))));show wpAny _ _ (if(ep != ep)=true then _ else _) _ E _;rw[if_neg (by simp)];by_cases hkk:k'=k
    ·rw[decide_eq_true hkk];subst hkk;exact ae (d_ (ai (ai (hsome x _ hkv))))
    ·rw[decide_eq_false hkk];exact ae (d_ (ai ⟨rfl,rfl,hnext hkk⟩))
   ·rw[if_neg hh];refine ai ⟨rfl,rfl,hnext ?_⟩;intro hkk;rw[hkk]at hh;simp at hh
  ·rintro b s' ⟨rfl,rfl,i,hr,hi,hno⟩;refine ai (nolate i hno λj h1 h2=>?_);have:=fW.mp hr.symm j (List.mem_range'_1.mpr ⟨h1,by omega⟩);simpa using this
 have byS:∀x t,key=.str x t->wpAny (model P w) A (foundByValue d key es x) Q E s:=by
  intro x t ek;subst ek;unfold foundByValue;cases hf:es.findIdx? (λe=>e.key.isStr x)with
 |none=>
   refine ai (hnone λj p hj=>?_);have q:=Array.findIdx?_eq_none_iff.mp hf (mE P w (k,p)) (by
    have z:es[j]?=some (mE P w (k,p)):=by rw[Tj he j,hj];rfl
    exact Array.mem_of_getElem? z);rw[(Fc hkey (v:=(mE P w (k,p)).key)).mpr (his _ (aA hj))]at q;cases q
 |some i=>
   obtain⟨hlt,hi,_⟩:=Array.findIdx?_eq_some_iff_getElem.mp hf;obtain⟨k',b,v',hkv,hib,hex⟩:=hat i hlt;have ee:es[i]=⟨mH P w k',b,v'⟩:=by rw[Array.getElem?_eq_getElem hlt]at hex;exact au hex
   rw[ee]at hi;have hkk:k'=k:=Fe hib ((Fc hkey).mp hi);simp only[hex];refine ae (cu ho hd (ae (m_eq (x:=k') (y:=k) hu hib hkey (ae (cu ho hd ?_)))));show wpAny _ _ (if(ep != ep)=true then _ else _) _ E _;rw[if_neg (by simp),decide_eq_true hkk];subst hkk;exact ae (d_ (ai (hsome i _ hkv)))
 unfold dictFind;try with_reducible refine a8 ?_
 refine ae (dE ho hd ?_);refine share (C:=mIs P w s.heap k) (Q:=Q) (E:=E) (A:=A) (M:=model P w) (s:=s) (λHH=>by
  rcases Er hkey with⟨i,t,ek⟩|⟨x,t,ek⟩|⟨a,ek⟩<;>rw[ek]<;>dsimp only<;>rw[<-ek];case' inr.inl=>refine Tq (byS x t ek) ?_
  case' inr.inr=>rw[if_neg (by rw[ek];simp[carriedByValue]),if_neg hany]
  case' inl=>refine Tq plain ?_
  case' inr.inl=>refine Tq plain ?_
  all_goals
   refine M0 ?_ (λQ' h=>Ep hkey hst h);have hk2:=hkey;revert hk2;generalize key=kk;intro hk2;exact HH kk hk2) ?_
 clear plain byS hany hkey key;intro key hkey;rw[if_neg (by simp)];refine ae ?_;refine wpAny_forIn_list _ (λrest b s'=>s'=s/\∃i hit,b=(none,hit)/\rest=(iD i (es.size-i)).filter (λi=>(es[i]?.map (·.hash))==some (mH P w k))/\i<=es.size /\((hit=none/\∀j p,j<i->xs[j]?≠some (k,p))\/∃j p,hit=some j/\j<i/\xs[j]?=some (k,p))) _ ?_ ?_ _ _ ⟨rfl,0,none,rfl,by rw[hW,List.range_eq_range',Nat.sub_zero],Nat.zero_le _,.inl ⟨rfl,λ_ _ h=>absurd h (Nat.not_lt_zero _)⟩⟩
 ·rintro x rest b s' ⟨rfl,i,hit,rfl,hr,hi,hH⟩;obtain⟨hix,hxn,hpx,hskip,hrest⟩:=filter_range'_cons _ _ _ _ _ hr.symm;have hlt:x<es.size:=by omega
  have hrest':rest=(iD (x+1) (es.size-(x+1))).filter (λi=>(es[i]?.map (·.hash))==some (mH P w k)):=by rw[hrest];congr 2;omega
  obtain⟨k',b,v',hkv,hib,hex⟩:=hat x hlt;have hHx:=F9 haskey hskip hH;have hstay:¬k'=k->_:=λhne=>F8 hkv hne hHx;rw[hex];dsimp only;by_cases hh:(mH P w k'==mH P w k)=true
  ·rw[if_pos hh];refine ae (cu ho hd (ae (m_eq (x:=k') (y:=k) hu hib hkey (ae (cu ho hd ?_)))));show wpAny _ _ (if(ep != ep)=true then _ else _) _ E _;rw[if_neg (by simp)];by_cases hkk:k'=k
   ·rw[decide_eq_true hkk];subst hkk;rcases hHx with⟨rfl,_⟩|⟨j,p,_,hjx,hj⟩
    ·first|rw[if_pos rfl]|skip
     simp only[Option.isSome_none,Bool.false_eq_true,if_false];first|refine ae (ai ?_)|skip
     refine ae (d_ ?_);split
     ·exact ai (ai (hsome x _ hkv))
     ·exact ai ⟨rfl,x+1,some x,rfl,hrest',hlt,.inr ⟨x,_,rfl,Nat.lt_succ_self x,hkv⟩⟩
    ·exact absurd (F7 hn hj hkv) (by omega)
   ·rw[decide_eq_false hkk];simp only[Bool.false_eq_true,if_false];refine ae (d_ ?_);first|rw[if_neg (by simp)]|skip
    first
    |exact ai ⟨rfl,x+1,hit,rfl,hrest',hlt,hstay hkk⟩
    |exact ae (ai (ai ⟨rfl,x+1,hit,rfl,hrest',hlt,hstay hkk⟩))
  ·rw[if_neg hh];refine ai ⟨rfl,x+1,hit,rfl,hrest',hlt,hstay ?_⟩;intro hkk;rw[hkk]at hh;simp at hh
 ·rintro b s' ⟨rfl,i,hit,rfl,hr,hi,hH⟩;rcases hH with⟨rfl,hno⟩|⟨j,p,rfl,_,hj⟩
  ·refine ai (nolate i hno λj h1 h2=>?_);have:=fW.mp hr.symm j (List.mem_range'_1.mpr ⟨h1,by omega⟩);simpa using this
  ·exact ai (hsome j p hj)
end
noncomputable def mAt(xs:List (MK×Value×Value))(k:MK):Option (Value×Value):=(xs.find? λx=>decide (x.1=k)).map (·.2)
noncomputable def mPut(k:MK)(v:Value)(x:MK×Value×Value):MK×Value×Value:=if x.1=k then(x.1,x.2.1,v)else x
noncomputable def mSto(xs:List (MK×Value×Value))(k:MK)(a v:Value):List (MK×Value×Value):=if(mAt xs k).isSome then xs.map (mPut k v)else xs++[(k,a,v)]
theorem Tn{xs:List (MK×Value×Value)}(hn:(xs.map (·.1)).Nodup){i:Nat}{k:MK}{p:Value×Value}(hx:xs[i]?=some (k,p)):mAt xs k=some p:=by
 induction xs generalizing i with
|nil=>simp at hx
|cons x rest ih=>
  rw[ar,bz]at hn;cases i with
 |zero=>simp only[List.getElem?_cons_zero,Option.some.injEq]at hx;subst hx;simp[mAt]
 |succ j=>simp only[List.getElem?_cons_succ]at hx;have hmem:k∈rest.map (·.1):=ah.mpr ⟨(k,p),aA hx,rfl⟩;have hne:¬x.1=k:=λe=>hn.1 (e▸hmem);have:=ih hn.2 hx;simpa[mAt,b9,hne]using this
theorem QC{xs:List (MK×Value×Value)}{k:MK}(h:∀(j:Nat)(p:Value×Value),xs[j]?≠some (k,p)):mAt xs k=none:=by
 have:(xs.find? λx=>decide (x.1=k))=none:=by rw[List.find?_eq_none];intro x hx hk;obtain⟨j,hj⟩:=aY.mp hx;have hk':x.1=k:=of_decide_eq_true hk;exact h j x.2 (by rw[hj,<-hk'])
 simp[mAt,this]
theorem He{xs:List (MK×Value×Value)}{k:MK}(h:∀(j:Nat)(p:Value×Value),xs[j]?≠some (k,p)):k∉xs.map (·.1):=by intro hm;obtain⟨x,hx,rfl⟩:=ah.mp hm;obtain⟨j,hj⟩:=aY.mp hx;exact h j x.2 hj
theorem Es(xs:List (MK×Value×Value))(k:MK)(v:Value)(hn:k∉xs.map (·.1)):xs.map (mPut k v)=xs:=by
 induction xs with
|nil=>rfl
|cons x xs ih=>simp only[ar,ao,not_or]at hn ⊢;rw[mPut,if_neg (λe=>hn.1 e.symm),ih hn.2]
theorem Wj(xs:List (MK×Value×Value))(k:MK)(v:Value):(xs.map (mPut k v)).map (·.1)=xs.map (·.1):=by rw[bI];refine dR λx _=>?_;show(mPut k v x).1=x.1;unfold mPut;split<;>rfl
theorem QB{P:Program}{w:World}{k:MK}{v:Value}:∀{xs:List (MK×Value×Value)}{j:Nat}{p:Value×Value},(xs.map (·.1)).Nodup->xs[j]?=some (k,p) ->(xs.map (mE P w)).modify j (λe=>{e with val:=v})=(xs.map (mPut k v)).map (mE P w)
|[],j,p,_,hj=>by simp at hj
|x::rest,0,p,hn,hj=>by rw[ar,bz]at hn;simp only[List.getElem?_cons_zero,Option.some.injEq]at hj;subst hj;rw[ar,ar,Es rest k v hn.1,mPut,if_pos rfl,ar];rfl
|x::rest,j+1,p,hn,hj=>by rw[ar,bz]at hn;simp only[List.getElem?_cons_succ]at hj;have hmem:k∈rest.map (·.1):=ah.mpr ⟨(k,p),aA hj,rfl⟩;have hne:¬x.1=k:=λe=>hn.1 (e▸hmem);rw[ar,ar,mPut,if_neg hne,ar];show mE P w x::(rest.map (mE P w)).modify j _=mE P w x::(rest.map (mPut k v)).map (mE P w);rw[QB hn.2 hj]
def MD(P:Program)(w:World)(h:Heap)(d:Addr)(xs:List (MK×Value×Value)):Prop:=∃o es ep,h.get? d=some o/\o.ExactDict/\o.data=.dict es ep/\es.toList=xs.map (mE P w)/\(xs.map (·.1)).Nodup
section
variable {P:Program}{w:World}{A:a9}{E:Value->ag->Prop}{s:ag}{d:Addr}{xs:List (MK×Value×Value)}{k:MK}{key v:Value}
theorem MD.typeIs(hm:MD P w s.heap d xs):s.TypeIs (.ref d) "dict":=by obtain⟨o,_,_,ho,hc,_⟩:=hm;exact⟨o,ho,hc.1⟩
theorem AH{Q:Option Value->ag->Prop}(hu:A.units<cLine)(hkey:mIs P w s.heap k key)(hm:MD P w s.heap d xs)(his:∀x∈xs,mIs P w s.heap x.1 x.2.1)(h:Q ((mAt xs k).map (·.2)) {s with toks:=s.toks+mD P w k}):wpAny (model P w) A (dictGet d key) Q E s:=by
 obtain⟨o,es,ep,ho,_,hd,he,hn⟩:=hm;unfold dictGet;try with_reducible refine a8 ?_
 refine ae (LC hu hkey (ae (m_find (s:={s with toks:=s.toks+mD P w k}) hu hkey ho hd he his hn ?_ ?_)))
 ·intro hno;rw[QC hno]at h;exact ai h
 ·intro j p hj;rw[Tn hn hj]at h;refine ae (dE (s:={s with toks:=s.toks+mD P w k}) ho hd ?_);rw[Tj he j,hj];exact ai h
theorem MD.push{o:Obj}{es:Array DictEntry}{ep:Nat}{h:Heap}(ho:h.get? d=some o)(hc:o.ExactDict)(hd:o.data=.dict es ep)(he:es.toList=xs.map (mE P w))(hn:(xs.map (·.1)).Nodup)(hno:∀(j:Nat)(p:Value×Value),xs[j]?≠some (k,p)):MD P w (h.update d (·.mapDictKeys λes=>es.push ⟨mH P w k,key,v⟩)) d (xs++[(k,key,v)]):=by
 refine⟨_,_,ep+1,Heap.get?_update_self _ ho (Obj.isFreed_of_dict (Obj.data_mapDictKeys hd _)),hc.mapDictKeys _,Obj.data_mapDictKeys hd _,?_,?_⟩
 ·simp[he,mE]
 ·rw[aL,di];refine⟨hn,by simp,?_⟩;intro x hx y hy;simp only[ar,ff,aB]at hy;subst hy;exact λe=>He hno (e▸hx)
theorem Fd{Q:Unit->ag->Prop}(hu:A.units<cLine)(hkey:mIs P w s.heap k key)(hm:MD P w s.heap d xs)(his:∀x∈xs,mIs P w s.heap x.1 x.2.1)(hQ:∀h',MD P w h' d (mSto xs k key v)->Heap.SameBut d s.heap h'->Q () {s with heap:=h',toks:=s.toks+mD P w k})(hsz:xs.length<=sizeLine):wpAny (model P w) A (dictSet d key v) Q E s:=by
 obtain⟨o,es,ep,ho,hc,hd,he,hn⟩:=hm;unfold dictSet;try with_reducible refine a8 ?_
 refine ae (LC hu hkey ?_);unfold dictSetHashed;try with_reducible refine a8 ?_
 refine ae (m_find (s:={s with toks:=s.toks+mD P w k}) hu hkey ho hd he his hn ?_ ?_)
 ·intro hno;have e:mSto xs k key v=xs++[(k,key,v)]:=by simp[mSto,QC hno]
  rw[e]at hQ;exact ae (d_ (wpAny_updateDictKeys (hz:=by have e:=Ti he;omega) (s:={s with toks:=s.toks+mD P w k}) ho hd (hQ _ (MD.push ho hc hd he hn hno) (Heap.SameBut.update ..))))
 ·intro j p hj;have e:mSto xs k key v=xs.map (mPut k v):=by simp[mSto,Tn hn hj]
  rw[e]at hQ;refine ae (d_ (ae (wpAny_updateDict (s:={s with toks:=s.toks+mD P w k}) ho hd (wpAny_point (hQ _ ⟨_,_,ep,Heap.get?_update_self _ ho (Obj.isFreed_of_dict (Obj.data_mapDict hd _)),hc.mapDict _,Obj.data_mapDict hd _,?_,?_⟩ (Heap.SameBut.update ..))))))
  ·have:=QB (P:=P) (w:=w) (v:=v) hn hj;rw[<-he]at this;obtain⟨l⟩:=es;simpa using this
  ·rw[Wj];exact hn
theorem m_contains{Q:Bool->ag->Prop}(hu:A.in1.units<cLine)(hkey:mIs P w s.heap k key)(hd:(d==sysModules)=false)(hm:MD P w s.heap d xs)(his:∀x∈xs,mIs P w s.heap x.1 x.2.1)(h:Q (mAt xs k).isSome {s with toks:=s.toks+mD P w k}):wpAny (model P w) A (contains (.ref d) key) Q E s:=by
 unfold contains;try with_reducible refine a8 ?_
 refine ae (wpAny_specialOf hm.typeIs iG.lookup ?_);show wpAny _ _ (if(some (Value.builtin "dict.__contains__")==some Value.none)=true then _ else _) _ E s;rw[if_neg (by rw[beq_builtin_none];exact Bool.false_ne_true)];refine ae (wpAny_callSpecialUnlessNone?_slot (name:=Str.ofString "__contains__") hm.typeIs iG (c9 iG hm.typeIs entry_dict_contains ?_ (args_dict_contains _ _)));show wpAny _ _ (dictGet d key >>= _) _ _ s;refine ae (AH hu hkey hm his ?_);cases hf:mAt xs k with
|some p=>rw[hf]at h;show wpAny _ _ (ret (.bool true)) _ _ _;exact ai ⟨_,rfl,bt h⟩
|none=>rw[hf]at h;show wpAny _ _ (Builtin.Dict.pendingKey? d key >>= _) _ _ _;exact ae (wpAny_pendingKey_other hd (ai ⟨_,rfl,bt h⟩))
theorem Wi{Q:Unit->ag->Prop}(hu:A.in1.units<cLine)(hkey:mIs P w s.heap k key)(hm:MD P w s.heap d xs)(his:∀x∈xs,mIs P w s.heap x.1 x.2.1)(hQ:∀h',MD P w h' d (mSto xs k key v)->Heap.SameBut d s.heap h'->Q () {s with heap:=h',toks:=s.toks+mD P w k})(hsz:xs.length<=sizeLine):wpAny (model P w) A (setItem (.ref d) key v) Q E s:=by
 unfold setItem;try with_reducible refine a8 ?_
 refine ae (wpAny_sequenceKey hm.typeIs (by decide) ?_);refine ae (cg (name:=Str.ofString "__setitem__") hm.typeIs slot_dict_setitem (c9 slot_dict_setitem hm.typeIs entry_dict_setitem ?_ (args_dict_setitem _ _ _)));show wpAny _ _ (Builtin.Dict.notOrdered "__setitem__" ⟨[.ref d,key,v],[]⟩ >>= _) _ _ s;refine ae (gQ hm.typeIs ?_);show wpAny _ _ (dictSet d key v >>= _) _ _ s;exact ae (Fd hu hkey hm his (λh' hm' hs'=>ai ⟨.none,rfl,ai (hQ h' hm' hs')⟩) hsz)
end
noncomputable def mdO(P:Program)(w:World)(a:Addr)(xs:List (MK×Value×Value)):HO:=.ext λh=>MD P w h a xs
noncomputable def KyV(H:Hp):MK->Value->Prop
|.inl k,v=>MZ k v=true
|.inr ks,v=>∃b,v=.ref b/\H b=some (.tup (ks.map kV))
noncomputable def KyM(H:Hp):MK->V->Prop
|.inl k,y=>y=kV k
|.inr ks,y=>∃b,y=.ref b/\H b=some (.tup (ks.map kV))
noncomputable def KM(H:Hp):List (MK×V)->List (MK×Value×Value)->Prop:=bj λp q=>p.1=q.1/\KyV H p.1 q.2.1/\RelV p.2 q.2.2
def DM(P:Program)(w:World)(H:Hp)(a:Addr)(kvs:List (MK×V)):Prop:=∃xs,Rd H a (mdO P w a xs)/\KM H kvs xs/\kvs.length<=sizeLine/\(a==sysModules)=false
def DMw(P:Program)(w:World)(H:Hp)(a:Addr)(kvs:List (MK×V)):Prop:=∃xs,H a=some (mdO P w a xs)/\KM H kvs xs/\kvs.length<=sizeLine/\(a==sysModules)=false
section
variable {P:Program}{w:World}{H H':Hp}{h:Heap}{a:Addr}{kvs:List (MK×V)}{xs:List (MK×Value×Value)}{k:MK}{y:V}{u:Value}
theorem DMw.rd(d:DMw P w H a kvs):DM P w H a kvs:=by obtain⟨xs,e,r⟩:=d;exact⟨xs,.inl e,r⟩
theorem Rz(x:MD P w h a xs):ZR P w H h a (mdO P w a xs):=by have y:=x;obtain⟨o,_,_,ho,_⟩:=y;refine⟨x,⟨o,ho⟩,λh1 h2 p k=>?_⟩;obtain⟨o,es,ep,ho,r⟩:=p;exact⟨o,es,ep,k _ ho,r⟩
theorem KyV.is(ok:HOk P w H h):∀{k:MK}{v:Value},KyV H k v->mIs P w h k v
|.inl k,v,x=>x
|.inr ks,v,⟨b,e,hb⟩=>⟨b,e,MY ok hb⟩
theorem KyM.val(P:Program)(w:World):∀{k:MK}{y:V}{u:Value},KyM H k y->RelV y u->KyV H k u
|.inl k,y,u,x,r=>by cases(show y=kV k from x);exact QF (P:=P) (w:=w) r
|.inr ks,y,u,⟨b,e,hb⟩,r=>by subst e;exact⟨b,r,hb⟩
theorem KyV.keeps(ht:∀b ys,H b=some (.tup ys)->H' b=some (.tup ys)):∀{k:MK}{v:Value},KyV H k v->KyV H' k v
|.inl k,v,x=>x
|.inr ks,v,⟨b,e,hb⟩=>⟨b,e,ht _ _ hb⟩
theorem KM.keeps(ht:∀b ys,H b=some (.tup ys)->H' b=some (.tup ys))(r:KM H kvs xs):KM H' kvs xs:=Paired.mapP r λ_ _ z=>⟨z.1,z.2.1.keeps ht,z.2.2⟩
theorem KM.is(ok:HOk P w H h)(r:KM H kvs xs):∀x∈xs,mIs P w h x.1 x.2.1:=by
 induction r with
|nil=>intro x hx;exact nomatch hx
|@cons p q ps qs hq t ih=>
  intro x hx;rcases ao.mp hx with e|hx
  ·subst e;exact(show KyV H x.1 x.2.1 from by rw[<-hq.1];exact hq.2.1).is ok
  ·exact ih x hx
theorem KM.val(r:KM H kvs xs)(k:MK):RelO (valV kvs k) ((mAt xs k).map (·.2)):=by
 induction r with
|nil=>exact bG
|@cons p q ps qs h t ih=>
  obtain⟨h1,_,h2⟩:=h;by_cases e:p.1=k
  ·have e':q.1=k:=h1.symm.trans e;have b:mAt (q::qs) k=some q.2:=by simp[mAt,b9,e']
   rw[Ys e,b];exact h2
  ·have e':¬q.1=k:=λz=>e (h1.trans z);have b:mAt (q::qs) k=mAt qs k:=by simp[mAt,b9,e']
   rw[Yt e,b];exact ih
theorem KM.repl(r:KM H kvs xs)(k:MK){y:V}{u:Value}(ry:RelV y u):KM H (kvs.map λkv=>if kv.1=k then(kv.1,y)else kv) (xs.map (mPut k u)):=by
 induction r with
|nil=>exact .nil
|@cons p q ps qs h t ih=>
  rw[ar,ar];refine .cons ?_ ih;obtain⟨h1,h2,h3⟩:=h;unfold mPut;by_cases e:p.1=k
  ·rw[if_pos e,if_pos (h1.symm.trans e)];exact⟨h1,h2,ry⟩
  ·rw[if_neg e,if_neg (λz=>e (h1.trans z))];exact⟨h1,h2,h3⟩
theorem KM.any(r:KM H kvs xs)(k:MK):(kvs.any λkv=>decide (kv.1=k))=(mAt xs k).isSome:=by rw[Jf,(r.val k).isSome_eq,d6]
theorem KM.put(r:KM H kvs xs)(k:MK){b:Value}{y:V}{u:Value}(hb:KyV H k b)(ry:RelV y u):KM H (putK kvs k y) (mSto xs k b u):=by
 unfold putK mSto;rw[r.any k];by_cases q:(mAt xs k).isSome=true
 ·rw[if_pos q,if_pos q];exact r.repl k ry
 ·rw[if_neg q,if_neg q];exact dq r ⟨rfl,hb,ry⟩
theorem DM.at(ok:HOk P w H h)(d:DM P w H a kvs):(a==sysModules)=false/\∃xs,KM H kvs xs/\MD P w h a xs/\xs.length<=sizeLine/\∀x∈xs,mIs P w h x.1 x.2.1:=by obtain⟨xs,e,r,z,hs⟩:=d;exact⟨hs,xs,r,(show ZR P w H h a (mdO P w a xs)from e.ok ok).1,by rw[<-aK r];exact z,r.is ok⟩
theorem DMw.keeps(d:DMw P w H a kvs)(hk:H' a=H a)(ht:∀b ys,H b=some (.tup ys)->H' b=some (.tup ys)):DMw P w H' a kvs:=by obtain⟨xs,e,r,z⟩:=d;exact⟨xs,hk.trans e,r.keeps ht,z⟩
end
section
variable {X:Cx}{pins:List (Addr×Obj)}{σ:St}{H:Hp}{s:ag}{a:Addr}{kvs:List (MK×V)}{k:MK}{y v:V}{u r:Value}{A:a9}{E:Value->ag->Prop}
theorem DMw.write{h':Heap}{t':Nat}{xs:List (MK×Value×Value)}{kvs2:List (MK×V)}(I:Inv X pins σ H s)(d:DMw X.prog X.w H a kvs)(hs:Heap.SameBut a s.heap h')(m:MD X.prog X.w h' a xs)(r:KM H kvs2 xs)(z:kvs2.length<=sizeLine):Inv X pins σ (upd H a (mdO X.prog X.w a xs)) {s with heap:=h',toks:=t'}/\DMw X.prog X.w (upd H a (mdO X.prog X.w a xs)) a kvs2:=by obtain⟨x0,e,_,_,hm⟩:=d;have m':=m;obtain⟨q,_,_,hq,_⟩:=m';refine⟨PM I (by rw[e];exact bG) hs ⟨q,hq⟩ (Rz m),xs,Zf,r.keeps λc ys ec=>?_,z,hm⟩;rw[Zg (ne_of ec e (λz=>nomatch z))];exact ec
def rInM(P:Program)(w:World):R2:=λx y H Q=>∃a kvs k,y=.ref a/\DM P w H a kvs/\KyM H k x/\Q (.bl (valV kvs k).isSome) H
def SM(P:Program)(w:World):R2:=λx y H Q=>∃a kvs k,y=.ref a/\DM P w H a kvs/\KyM H k x/\Q (.bl (!(valV kvs k).isSome)) H
theorem FU(hu:X.A.units+1<cLine):OpR X (br .In) (rInM X.prog X.w):=by intro pins s σ H x y v u Q I rx ry h;obtain⟨a,kvs,k,rfl,d,hk,q⟩:=h;cases ry;obtain⟨hs,xs,rel,m,z,his⟩:=d.at I.hok;show wpAny _ _ (contains (.ref a) v >>= λb=>pure (Value.bool b)) _ _ s;refine ae (m_contains hu ((hk.val X.prog X.w rx).is I.hok) hs m his (ai ⟨_,H,I.tok _,?_,q⟩));rw[(rel.val k).isSome_eq,d6];rfl
theorem Wb(hu:X.A.units+1<cLine):OpR X (br .NotIn) (SM X.prog X.w):=by intro pins s σ H x y v u Q I rx ry h;obtain⟨a,kvs,k,rfl,d,hk,q⟩:=h;cases ry;obtain⟨hs,xs,rel,m,z,his⟩:=d.at I.hok;show wpAny _ _ (contains (.ref a) v >>= λb=>pure (Value.bool (!b))) _ _ s;refine ae (m_contains hu ((hk.val X.prog X.w rx).is I.hok) hs m his (ai ⟨_,H,I.tok _,?_,q⟩));rw[(rel.val k).isSome_eq,d6];rfl
end
def Aw(P:Program)(w:World)(td ty tv:TE):TS:=λD σ H=>tv σ H λv H1=>td σ H1 λx H2=>ty σ H2 λy H3=>∃a kvs k,x=.ref a/\DMw P w H3 a kvs/\KyM H3 k y/\kvs.length<sizeLine /\∀o,DMw P w (upd H3 a o) a (putK kvs k v)->D.nx σ (upd H3 a o)
def An(P:Program)(w:World):TE:=λ_ H Q=>∀p o,H p=none->DMw P w (upd H p o) p []->Q (.ref p) (upd H p o)
section
variable {X:Cx}{o i e value:Expr}{es:List Expr}{pos pos' apos cpos:Pos}{td ty tv to:TE}{t:TA}{name:Str}{id:String}{r:V->List V->Hp->VK->Prop}
theorem Eb(hu:X.A.units+1<cLine)(ho:PE X o td)(hi:PE X i ty)(hv:PE X value tv)(hs:fH value (some (.Subscript o i pos')) pos.line X.env=pure false):PS X (.Assign [.Subscript o i pos'] value pos) (Aw X.prog X.w td ty tv):=by intro pins s σ H D I h;refine wpAny_Assign_Subscript (thn (hv pins s σ H _ I h) λr s1⟨v,H1,I1,rv,q1⟩=>thn (ho pins s1 σ H1 _ I1 q1) λu s2⟨x,H2,I2,rx,q2⟩=>thn (hi pins s2 σ H2 _ I2 q2) λiv s3 hZ=>?_) hs;obtain⟨y,H3,I3,ry,a,kvs,k,ex,d,hk,hl,q3⟩:=hZ;subst ex;obtain rfl:u=Value.ref a:=rx;obtain⟨hs,xs,rel,m,z,his⟩:=d.rd.at I3.hok;refine Wi hu ((hk.val X.prog X.w ry).is I3.hok) m his (λh' m' sb=>?_) z;obtain⟨I',d'⟩:=d.write (t':=s3.toks+mD X.prog X.w k) I3 sb m' (rel.put k (hk.val X.prog X.w ry) rv) (by have:=YQ kvs k v;omega);exact⟨σ,_,I',q3 _ d'⟩
theorem Ed:PE X (.Dict [] [] pos) (An X.prog X.w):=λpins s σ H Q I h=>by have hb:(s.heap.objs.size==sysModules)=false:=beq_eq_false_iff_ne.mpr (bo (Nat.ne_of_lt I.big));have m:MD X.prog X.w (s.heap.push {cls:=.type "dict",data:=.dict #[]}) s.heap.objs.size []:=⟨_,#[],0,Heap.get?_push_size _ rfl,⟨rfl,rfl,rfl⟩,rfl,rfl,dA⟩;exact wpAny_Dict_empty ⟨.ref s.heap.objs.size,_,I.laid (a:=s.heap.objs.size) (o:=mdO X.prog X.w s.heap.objs.size []) (t':=s.toks) (λ_ _ q=>Heap.get?_push_of_some _ q) (Nat.le_refl _) (Rz m),rfl,h _ _ (I.hok.fresh (Nat.le_refl _)) ⟨[],Zf,.nil,Nat.zero_le _,hb⟩⟩
end
section
variable {prog:Program}{w:World}{A:a9}{E:Value->ag->Prop}{s:ag}
theorem RI{it d:Addr}{o:Obj}{es:Array DictEntry}{i ep:Nat}{e:DictEntry}{Q:Fin->ag->Prop}(st:s.heap.IsKeyIter it d i es.size ep)(hd:s.heap.get? d=some o)(hdd:o.data=.dict es ep)(he:es[i]?=some e)(hQ:∀h',h'.IsKeyIter it d (i+1) es.size ep->Heap.SameBut it s.heap h'->Q (.done (.ret e.key)) {s with heap:=h'}):wpAny (model prog w) A (dD.«dict_keyiterator.__next__» ⟨[.ref it],[]⟩) Q E s:=by
 obtain⟨ob,h1,h2,h3⟩:=st;have hT:s.TypeIs (.ref it) "dict_keyiterator":=⟨ob,h1,h2⟩;unfold dD.«dict_keyiterator.__next__»;refine ae ?_;refine ai ?_;refine ae ?_;refine ae ?_;refine ae (df hT ?_);refine ai ?_;refine ae (wpAny_fieldsOf h1 h3 ?_);show wpAny _ _ (if(Value.ref d==Value.none)=true then _ else _) _ _ _;rw[if_neg (show ¬(Value.ref d==Value.none)=true from λz=>nomatch z)];refine ae ?_;refine ai ?_;refine ae (dE hd hdd ?_);rw[if_neg (by simp)];refine ae ?_;refine ai ?_;refine ae (cu hd hdd ?_);rw[if_neg (by simp)];refine ai ?_;have ei:(if(i:Int)<0 then none else es[((i:Int)).toNat]?)=some e:=by rw[if_neg (by omega),Int.toNat_natCast];exact he
 show wpAny _ _ (match (if(i:Int)<0 then none else es[((i:Int)).toNat]?)with|some e=>_|none=>_) _ _ _
 rw[ei];refine ae ?_;refine ae (df hT ?_);refine ai ?_;refine ae (wpAny_isOneOf_keyiter hT ?_);refine ae (c8 h1 h3 (show 0+1<4 by decide) ?_);have g:=Heap.get?_update_self (Obj.mapFields λx=>x.setIfInBounds 1 (dh ((i:Int)+1))) h1 (Obj.isFreed_of_fields (Obj.data_mapFields h3 _));have sb:Heap.SameBut it s.heap (s.heap.update it (Obj.mapFields λx=>x.setIfInBounds 1 (dh ((i:Int)+1)))):=Heap.SameBut.update ..;have hI:(s.heap.update it (Obj.mapFields λx=>x.setIfInBounds 1 (dh ((i:Int)+1)))).IsKeyIter it d (i+1) es.size ep:=by exact⟨_,g,(Obj.cls_mapFields ..).trans h2,by rw[Obj.data_mapFields h3];simp[dh]⟩
 have hT':Shared.TypeIs {s with heap:=s.heap.update it (Obj.mapFields λx=>x.setIfInBounds 1 (dh ((i:Int)+1)))} (.ref it) "dict_keyiterator":=by obtain⟨ob',q1,q2,_⟩:=hI;exact⟨ob',q1,q2⟩
 refine ae (a8 ?_);refine ae (wpAny_isOneOf_keyiter hT' ?_);exact ai (ai (hQ _ hI sb))
theorem Wl{it d:Addr}{o:Obj}{es:Array DictEntry}{i ep:Nat}{Q:Fin->ag->Prop}(hh:A.handled=none)(st:s.heap.IsKeyIter it d i es.size ep)(hd:s.heap.get? d=some o)(hdd:o.data=.dict es ep)(he:es[i]?=none)(hE:∀h' e,(∀c q,c≠it->s.heap.get? c=some q->h'.get? c=some q)->(∃o,h'.get? e=some o/\o.cls=.type "StopIteration")->E (.ref e) {s with heap:=h'}):wpAny (model prog w) A (dD.«dict_keyiterator.__next__» ⟨[.ref it],[]⟩) Q E s:=by
 obtain⟨ob,h1,h2,h3⟩:=st;have hT:s.TypeIs (.ref it) "dict_keyiterator":=⟨ob,h1,h2⟩;unfold dD.«dict_keyiterator.__next__»;refine ae ?_;refine ai ?_;refine ae ?_;refine ae ?_;refine ae (df hT ?_);refine ai ?_;refine ae (wpAny_fieldsOf h1 h3 ?_);show wpAny _ _ (if(Value.ref d==Value.none)=true then _ else _) _ _ _;rw[if_neg (show ¬(Value.ref d==Value.none)=true from λz=>nomatch z)];refine ae ?_;refine ai ?_;refine ae (dE hd hdd ?_);rw[if_neg (by simp)];refine ae ?_;refine ai ?_;refine ae (cu hd hdd ?_);rw[if_neg (by simp)];refine ai ?_;have ei:(if(i:Int)<0 then none else es[((i:Int)).toNat]?)=none:=by rw[if_neg (by omega),Int.toNat_natCast];exact he
 show wpAny _ _ (match (if(i:Int)<0 then none else es[((i:Int)).toNat]?)with|some e=>_|none=>_) _ _ _
 rw[ei];refine ae ?_;refine ae (df hT ?_);refine ai ?_;refine ae (c8 h1 h3 (show 0<4 by decide) ?_);show wpAny (model prog w) _ (newExc (.type "StopIteration") [] >>= _) _ _ _;refine ae ?_;simp only[newTuple,newExc];refine ae (cS (ae (m:=hX _ _) (g_ (a:=Value.none) (by first|rfl|(simp only[hX];rfl)) (cS ?_ (by size_fits)))) (by size_fits))
 simp only[raiseNew];refine ae (wpAny_handled ?_);rw[hh];refine ae (ai (wpAny_throw ?_));exact hE _ _ (((Heap.SameBut.update ..).extBut.push _).push _) ⟨_,Heap.get?_push_size _ rfl,rfl⟩
def RawD(h:Heap)(d:Addr)(es:Array DictEntry)(ep:Nat):Prop:=∃o,h.get? d=some o/\o.ExactDict/\o.data=.dict es ep
theorem LI{d:Addr}{es:Array DictEntry}{ep:Nat}{Q:Value->ag->Prop}(hs:(d==sysModules)=false)(h:RawD s.heap d es ep)(hQ:Q (.ref s.heap.objs.size) {s with heap:=s.heap.push {cls:=.type "dict_keyiterator",data:=.fields #[.ref d,.int 0 0,.int es.size 0,.int ep 0]}}):wpAny (model prog w) A (pyIter (.ref d)) Q E s:=by obtain⟨o,ho,ex,hd⟩:=h;have hT:s.TypeIs (.ref d) "dict":=⟨o,ho,ex.1⟩;refine wpAny_pyIter_slot hT F.slot_dict_iter (c9 F.slot_dict_iter hT F.entry_dict_iter ?_ (F.args_dict_iter_1 _));unfold dD.«dict.__iter__»;refine ae ?_;unfold Builtin.Dict.dictSlotNone;refine ae (gQ hT ?_);refine ai ?_;refine ae ?_;refine ai ?_;refine ae ?_;unfold Builtin.Dict.showsAll;rw[if_neg (by rw[hs];exact Bool.false_ne_true)];refine ai ?_;refine ae (dE ho hd ?_);refine ae (cu ho hd ?_);unfold newFields;refine ae (cS ?_ (by size_fits));refine ai ⟨_,rfl,"dict_keyiterator",_,⟨_,Heap.get?_push_size _ rfl,rfl⟩,F.slot_dict_keyiterator_next.lookup,?_⟩;exact hQ
end
theorem JE{α β:Type}{R:α->β->Prop}:∀{a:List α}{c:List β},bj R a c->∀{i:Nat}{x:α}{y:β},a[i]?=some x->c[i]?=some y->R x y
|_,_,.nil,_,_,_,h,_=>by cases h
|_,_,.cons h t,0,_,_,e1,e2=>by cases e1;cases e2;exact h
|_,_,.cons h t,i+1,_,_,e1,e2=>JE t (by simpa using e1) (by simpa using e2)
theorem HK{P:Program}{w:World}{es:Array DictEntry}{xs:List (List Key×Addr×Value)}(h:es.toList=xs.map (entryOfKey (cz (ZH P w)))){i:Nat}{x:List Key×Addr×Value}(hx:xs[i]?=some x):∃e,es[i]?=some e/\e.key=.ref x.2.1/\e.val=x.2.2:=by refine⟨entryOfKey (cz (ZH P w)) x,?_,rfl,rfl⟩;rw[<-Array.getElem?_toList,h,aJ,hx];rfl
section
variable {X:Cx}{pins:List (Addr×Obj)}{σ:St}{H:Hp}{s:ag}{a:Addr}{o:Obj}{u:HO}
theorem Inv.thaw(I:Inv X pins σ H s)(e:H a=some (.frz o u))(h0:∀o' u',X.H₀ a≠some (.frz o' u')):Inv X pins σ (upd H a u) s:=by
 have ne:∀{c:Addr},H c=none->c≠a:=λh z=>by rw[z,e]at h;cases h
 have nt:∀{c:Addr}{xs:List V},H c=some (.tup xs)->c≠a:=λh z=>by rw[z,e]at h;cases h
 have nw:∀{c y:Addr},H c=some (.own y)->c≠a:=λh z=>by rw[z,e]at h;cases h
 refine⟨I.ok,I.os,I.bare,⟨I.base.keep,I.base.slot,λb ob q n hx=>?_,I.base.there,λb xs q=>?_,λb ob v q=>?_,λb ps q=>?_⟩,I.loc,I.cell,?_,λx c q=>?_,λp hp=>?_,λb v q=>?_,I.len⟩
 ·have:=I.base.free b ob q n hx;rw[Zg (ne this)];exact this
 ·have z:=I.base.tups b xs q;rw[Zg (nt z)];exact z
 ·rw[Zg (λz=>h0 _ _ (z▸q))];exact I.base.frzs b ob v q
 ·obtain⟨m,hm⟩:=I.base.tbls b ps q;exact⟨m,by rw[Zg (λz=>by rw[z,e]at hm;cases hm)];exact hm⟩
 ·rw[Zg (ne I.free)];exact I.free
 ·rw[Zg (ne (I.freeC x c q))];exact I.freeC x c q
 ·obtain⟨p1,p2,p3⟩:=I.pin p hp;exact⟨p1,by rw[Zg (ne p2)];exact p2,p3⟩
 ·by_cases hb:b=a
  ·subst hb;rw[Zf]at q;cases q;exact(I.hok b _ e).2.stay (λ_ _ _ z=>z) (λc z=>by rw[Zg (nw z)];exact z) λc xs z=>by rw[Zg (nt z)];exact z
  ·rw[Zg hb]at q;exact(I.hok b v q).stay (λ_ _ _ z=>z) (λc z=>by rw[Zg (nw z)];exact z) λc xs z=>by rw[Zg (nt z)];exact z
end
end L2
namespace SX
open PySem L2 PySem.Spec PyProof.Rows TB WD
def MG(K:aa)(f:Str):Sp:=λvs H Q _=>∃(x C dx:Addr)(fs:List (Str×V))(v:V),vs=[.ref x]/\SCl K C/\H x=some (.ins C dx fs)/\fs.lookup f=some v/\Q v H
section
variable {P:Program}{w:World}{K:aa}{mg:Str->Option Value}{base:Heap}{C:Addr}
theorem Pk:FnScope ["self"] ["self"] (Zc T.m_Step_tail):=scO
theorem VM(D:DfM K C "tail" "Step.tail" T.m_Step_tail ["self"]):CanM P w K mg base CX0 1 C "tail" ["self"] (MG K "its_tail"):=by refine D.cn Pk λf cdv A outer s H vs Q E hr h=>?_;obtain⟨x,C,dx,fs,v,rfl,Z,hx,hl,k⟩:=h;refine⟨_,(Zd (Zl (ZZ (pv 0) rfl))),?_⟩;exact⟨_,rfl,x,C,dx,fs,_,rfl,hx,Z.cl,nof Z (by decide +kernel),hl,k⟩
theorem Pn:FnScope ["self"] ["self"] (Zc T.m_Step_head):=scO
theorem VO(D:DfM K C "head" "Step.head" T.m_Step_head ["self"]):CanM P w K mg base CX0 1 C "head" ["self"] (MG K "its_head"):=by refine D.cn Pn λf cdv A outer s H vs Q E hr h=>?_;obtain⟨x,C,dx,fs,v,rfl,Z,hx,hl,k⟩:=h;refine⟨_,(Zd (Zl (ZZ (pv 0) rfl))),?_⟩;exact⟨_,rfl,x,C,dx,fs,_,rfl,hx,Z.cl,nof Z (by decide +kernel),hl,k⟩
theorem Pm:FnScope ["self"] ["self"] (Zc T.m_Step_room):=scO
theorem VN(D:DfM K C "room" "Step.room" T.m_Step_room ["self"]):CanM P w K mg base CX0 1 C "room" ["self"] (MG K "its_room"):=by refine D.cn Pm λf cdv A outer s H vs Q E hr h=>?_;obtain⟨x,C,dx,fs,v,rfl,Z,hx,hl,k⟩:=h;refine⟨_,(Zd (Zl (ZZ (pv 0) rfl))),?_⟩;exact⟨_,rfl,x,C,dx,fs,_,rfl,hx,Z.cl,nof Z (by decide +kernel),hl,k⟩
end
noncomputable def G6:PyData->MK
|.str a=>.inl (.inr a)
|.tuple [.str a,.int i]=>.inr [.inr a,.inl i]
|_=>.inl (.inr "")
theorem Mp{H:Hp}{v:V}{d:PyData}(n:NL d)(h:Is H v d):KyM H (G6 d) v:=by
 rcases n with⟨a,rfl⟩|⟨a,i,rfl⟩
 ·cases h with
 |str=>exact(rfl:V.str a=kV (.inr a))
 ·cases h with
 |tup e r=>
   cases r with
  |cons h1 r=>
   cases r with
  |cons h2 r=>
   cases r;cases h1;cases h2;exact⟨_,rfl,e⟩
def P8:Sp:=λvs H Q _=>∃(pw l1 l2 l3 l4:Addr)(T:Tb),vs=[.ref pw]/\WAt H pw T l1 l2 l3 l4/\OkTb T/\∀H' p,Same H H'->H p=none->Dc H' p (allS T)->Q (.ref p) H'
theorem _root_.WD.RowsL.keepB{H H':Hp}{l p:Addr}{rows:List (List V)}(h:RowsL H l rows)(hp:H p=none)(s:Zj p H H'):RowsL H' l rows:=by obtain⟨as,e,hl,r⟩:=h;exact⟨as,s _ _ e (Zi e hp),hl,λi a q h1 h2=>s _ _ (r i a q h1 h2) (Zi (r i a q h1 h2) hp)⟩
theorem DZ{H H1:Hp}{p a k:Addr}{L:List Sx}{S:Sx}{R:Hp->Prop}(hno:H p=none)(s:Zj p H H1)(dc:Dc H1 p L)(hl:L.length<=20000)(hv:Is H1 (.ref a) (JR S))(hk:H1 k=some (.tup (S.key.map kV)))(r:∀H2,Zj p H H2->Dc H2 p (L++[S])->R H2):∃d H2,V.ref p=.ref d/\DPut H1 d (.ref k) (.ref a) H2/\R H2:=by obtain⟨kvs,e,l,h1,h2⟩:=dc;refine⟨p,_,rfl,DPut.t e hk (Nat.lt_of_le_of_lt (Nat.le_trans l hl) (by decide)),r _ ?_ (Dc.put e l h1 h2 hv)⟩;intro c o ec hc;rw[Zg hc];exact s c o ec hc
theorem Mh{H H1:Hp}{p a k:Addr}{ks:List V}(hk:H1 k=none){L:List Sx}{S:Sx}(e:ks=S.key.map kV){R:Hp->Prop}(hno:H p=none)(s:Zj p H H1)(dc:Dc H1 p L)(hl:L.length<=20000)(hv:Is H1 (.ref a) (JR S))(r:∀H2,Zj p H H2->Dc H2 p (L++[S])->R H2):∃d H2,V.ref p=.ref d/\DPut (upd H1 k (.tup ks)) d (.ref k) (.ref a) H2/\R H2:=by subst e;have S1:=sameNew (o:=.tup (S.key.map kV)) (Same.refl H1) hk;exact DZ hno (s.trans (Zj.of S1)) (dc.same S1) hl (hv.same S1) Zf r
section
variable {P:Program}{w:World}{K:aa}{mg:Str->Option Value}{base:Heap}{C:Addr}{Cs:Nat->Addr}
theorem Zr:FnScope [q_w,"_law_turns",q_p,"_law_rides","_law_ways","_law_groups","_law_steps_here","_law_name","_law_place","_law_turn","_law_many","_law_at","_law_start","_law_leave","_law_goal","_law_come","_law_seats","_law_long","_law_wide","_law_room"] [q_w] (Zc T.f__law_steps):=scO
theorem R5(B:∀x∈Blts,mg x=none)(D:Df K mg "_law_steps" T.f__law_steps [q_w]):Can P w K mg base 1 "_law_steps" [q_w] P8:=by
 refine D.cn Zr λf cdv A outer s H vs Q E hr h=>?_;obtain⟨pw,l1,l2,l3,l4,T,rfl,tb,ok,k⟩:=h;refine' ⟨_,(@Za _ _ _ _ _ ?h24 (@Za _ _ _ _ _ ?h25 (@Za _ _ _ _ _ ?h26 (@Za _ _ _ _ _ ?h27 (@Za _ _ _ _ _ ?h28 (@Za _ _ _ _ _ ?h29 (@Zd _ _ _ ?h30))))))),?rd⟩;case' h30=>refine' (Zl (pv 6))
 case' h29=>refine' (Yc aT rfl (ZW (pv 2)) (YN rfl (Zn (nmT 8 Zr.nd) (Zn (nmT 19 Zr.nd) Yd))) (@Zd _ _ _ ?h23))
 case' h28=>refine' (Yc aT rfl (ZW (pv 4)) (YN rfl (Zn (nmT 7 Zr.nd) (Zn (nmT 12 Zr.nd) (Zn (nmT 14 Zr.nd) (Zn (nmT 17 Zr.nd) (Zn (nmT 18 Zr.nd) Yd)))))) (@Zd _ _ _ ?h16))
 case' h27=>refine' (Yc aT rfl (ZW (pv 3)) (YN rfl (Zn (nmT 7 Zr.nd) (Zn (nmT 12 Zr.nd) (Zn (nmT 13 Zr.nd) (Zn (nmT 14 Zr.nd) (Zn (nmT 15 Zr.nd) (Zn (nmT 16 Zr.nd) Yd))))))) (@Zd _ _ _ ?h10))
 case' h26=>refine' (Yc aT rfl (ZW (pv 5)) (YN rfl (Zn (nmT 7 Zr.nd) (Zn (nmT 8 Zr.nd) (Zn (nmT 9 Zr.nd) (Zn (nmT 10 Zr.nd) Yd))))) (@Zd _ _ _ ?h5))
 case' h25=>refine' (@st _ _ _ _ 6 _ _ Zr.nd Ll (by rfl) (by exact aO rfl) (by rfl) (by exact .inl rfl))
 case' h24=>refine' (V9 (pv 0) (YN rfl (Zn (nmT 1 Zr.nd) (Zn (nmT 2 Zr.nd) (Zn (nmT 3 Zr.nd) (Zn (nmT 4 Zr.nd) (Zn (nmT 5 Zr.nd) Yd)))))))
 case' h23=>refine' (@ZG _ _ _ _ _ _ _ _ (@Zt _ _ _ _ _ _ _ _ VD (pv 19) ZF (ZC _)) (@Zd _ _ _ ?h22) Zp)
 case' h22=>refine' (Yc aT rfl (YD rfl (bm B) (@pa1 _ _ _ (pv 1) (by rfl))) (nmT 11 Zr.nd) (@Zd _ _ _ ?h21))
 case' h21=>refine' (XM (YS hr) (pv 6) ?h17 ?h20 rfl)
 case' h20=>refine' (@Zu _ _ _ _ _ (@Ze _ _ _ _ _ ?h19 (@pa3 _ _ _ _ _ _ _ ?h18 (pv 19) Zb (by rfl)) (by rfl)))
 case' h19=>refine' (@Zu _ _ _ _ _ (@pa2 _ _ _ _ _ (pv 8) (pv 11) (by rfl)))
 case' h18=>refine' (@Zu _ _ _ _ _ (@pa2 _ _ _ _ _ (pv 8) (Zo ZI (pv 11) Zb) (by rfl)))
 case' h17=>refine' (@Zu _ _ _ _ _ (@pa3 _ _ _ _ _ _ _ ZE (pv 8) (pv 11) (by rfl)))
 case' h16=>refine' (Yc aT rfl (YD rfl (bm B) (@pa1 _ _ _ (Zo XZ (Zo ZI (pv 1) Zb) (pv 17)) (by rfl))) (nmT 11 Zr.nd) (@Zd _ _ _ ?h15))
 case' h15=>refine' (XM (YS hr) (pv 6) ?h11 ?h14 rfl)
 case' h14=>refine' (@Zu _ _ _ _ _ (@Ze _ _ _ _ _ ?h13 (@pa3 _ _ _ _ _ _ _ ?h12 (pv 18) (pv 17) (by rfl)) (by rfl)))
 case' h13=>refine' (@Zu _ _ _ _ _ (@pa2 _ _ _ _ _ (pv 12) (pv 11) (by rfl)))
 case' h12=>refine' (@Zu _ _ _ _ _ (@pa2 _ _ _ _ _ (pv 14) (Zo ZI (pv 11) (pv 17)) (by rfl)))
 case' h11=>refine' (@Zu _ _ _ _ _ (@pa3 _ _ _ _ _ _ _ ZE (pv 7) (pv 11) (by rfl)))
 case' h10=>refine' (XM (YS hr) (pv 6) ?h6 ?h9 rfl)
 case' h9=>refine' (@Zu _ _ _ _ _ (@Ze _ _ _ _ _ ?h8 (@pa3 _ _ _ _ _ _ _ ?h7 (pv 16) (Zo XZ (pv 15) (pv 13)) (by rfl)) (by rfl)))
 case' h8=>refine' (@Zu _ _ _ _ _ (@pa2 _ _ _ _ _ (pv 12) (pv 13) (by rfl)))
 case' h7=>refine' (@Zu _ _ _ _ _ (@pa2 _ _ _ _ _ (pv 14) (pv 15) (by rfl)))
 case' h6=>refine' (@Zu _ _ _ _ _ (@pa2 _ _ _ _ _ ZE (pv 7) (by rfl)))
 case' h5=>refine' (Yc aT rfl (Xp rfl (bm B) (@pa2 _ _ _ _ _ (pv 9) (Zo ZI (pv 1) Zb) (by rfl))) (nmT 11 Zr.nd) (@Zd _ _ _ ?h4))
 case' h4=>refine' (XM (YS hr) (pv 6) ?h1 ?h3 rfl)
 case' h3=>refine' (@Zu _ _ _ _ _ (@Ze _ _ _ _ _ (pv 7) (@pa3 _ _ _ _ _ _ _ ?h2 ZF Zb (by rfl)) (by rfl)))
 case' h2=>refine' (@Zu _ _ _ _ _ (@pa2 _ _ _ _ _ (pv 8) (pv 11) (by rfl)))
 case' h1=>refine' (@Zu _ _ _ _ _ (@pa3 _ _ _ _ _ _ _ ZE (pv 7) (pv 11) (by rfl)))
 have n0:=ok.n0;have n1:=ok.n1;obtain⟨m1,m2,m3,m4⟩:=Xv ok;obtain⟨z1,z2,z3,z4⟩:=Uu ok;refine⟨_,rfl,pw,_,rfl,SqT.of tb.at_,rfl,_,_,rfl,_,_,rfl,_,_,rfl,_,_,rfl,_,_,rfl,rfl,λp hp=>?_⟩;have D0:Dc (upd H p (.dT [])) p []:=⟨[],Zf,Nat.le_refl _,⟨[],.nil,rfl⟩,trivial⟩;have S0:Zj p H (upd H p (.dT [])):=λc o e hc=>by rw[Zg hc];exact e
 generalize upd H p (.dT [])=H0 at D0 S0 ⊢;have nw:∀{c:Addr}{o:HO},H c=some o->c≠p:=λe=>Zi e hp;have rw4:∀{H':Hp},Zj p H H'->RowsL H' l4 T.t4:=λs=>tb.r4.keepB hp s;have rw3:∀{H':Hp},Zj p H H'->RowsL H' l3 T.t3:=λs=>tb.r3.keepB hp s;have rw2:∀{H':Hp},Zj p H H'->RowsL H' l2 T.t2:=λs=>tb.r2.keepB hp s;have rw1:∀{H':Hp},Zj p H H'->RowsL H' l1 T.t1:=λs=>tb.r1.keepB hp s;have DD:∀{H':Hp}{L:List Sx},Dc H' p L->Dc H' p (L++[]):=λh=>by rw[bB];exact h
 dsimp only[Zq];refine tq λD1 hk1=>?_;refine⟨_,rfl,l4,rfl,⟨_,SqL.of (rw4 S0).choose_spec.1⟩,?_⟩;refine YC (J:=Itl K l4) T.t4.length (λi σ H'=>Zj p H H'/\Dc H' p ((T.t4.take i).flatMap (ZK T))/\∃o:Nat->Option V,σ=[some (.ref pw),some (.int T.n),some (.ref l1),some (.ref l2),some (.ref l3),some (.ref l4),some (.ref p),o 7,o 8,o 9,o 10,o 11,o 12,o 13,o 14,o 15,o 16,o 17,o 18,o 19]) ⟨S0,D0,shp rfl⟩ (λi σ H' hi q=>(rw4 q.1).go hi) (λσ H' q=>(rw4 q.1).stop) (λi σ H' x H2 hi q yl=>?_) (λσ H1 q=>?_)
 ·obtain⟨s1,dc,o,rfl⟩:=q;have e0:T.t4[i]?=some T.t4[i]:=gE hi;obtain⟨rfl,a,rfl,ha⟩:=(rw4 s1).item e0 yl;have hy:T.t4[i]∈T.t4:=aE hi;have le1:=J6 (f:=ZK T) (t:=T.t4) i;have le2:=Qr ok hy;rw[Jr hi];generalize T.t4[i]=y at ha hy le2;obtain⟨a1,b1,c1,d1,rfl,ga,gb,c0,c2,_,_⟩:=XJ ok hy;refine⟨a,_,rfl,SqT.of ha,rfl,_,_,rfl,_,_,rfl,_,_,rfl,_,_,rfl,rfl,?_⟩;try dsimp only[ay]
  refine td λD'' hd'=>?_;refine⟨_,rfl,_,rfl,_,_,rfl,rfl,c1,T.n+1,rfl,⟨by omega,by omega,by omega,by omega⟩,?_⟩;refine Gf (lo:=c1) (n:=(T.n+1-c1).toNat) (λm σ' H'=>Zj p H H'/\Dc H' p ((T.t4.take i).flatMap (ZK T)++(ZK T [.str a1,.str b1,.int c1,.int d1]).take m)/\∃o:Nat->Option V,σ'=[some (.ref pw),some (.int T.n),some (.ref l1),some (.ref l2),some (.ref l3),some (.ref l4),some (.ref p),some (.str a1),some (.str b1),some (.int c1),some (.int d1),o 11,o 12,o 13,o 14,o 15,o 16,o 17,o 18,o 19]) ⟨s1,DD dc,shp rfl⟩ (λm σ' H' hm q=>?_) (λσ' H' q=>?_)
  ·obtain⟨s2,dc2,o,rfl⟩:=q;dsimp only[Zq];refine td λD' hd=>?_;refine⟨_,rfl,_,rfl,_,rfl,zl,λq1 h1=>?_⟩;try dsimp only[tNil]
   refine nl2 h1 λH3 S3 e3=>?_;refine⟨zl,λq2 h2=>?_⟩;try dsimp only[tNil]
   refine nl2 h2 λH4 S4 e4=>?_;refine⟨_,rfl,_,rfl,_,rfl,zl,λq3 h3=>?_⟩;try dsimp only[tNil]
   have S35:=S3.trans S4;refine Mh h3 rfl (S:=outS [.str a1,.str b1,.int c1,.int d1] (c1+m)) hp (s2.trans (Zj.of S35)) (dc2.same S35) ?_ (.tup e4 (.cons (.str _) (.cons (.tup (S4 _ _ e3) (.cons (.str _) (.cons (.int _) .nil))) (.cons .non (.cons (.int _) .nil))))) λH6 s6 dc6=>hd _ _ ⟨s6,?_,shp rfl⟩
   ·rw[aj,aN];omega
   ·rw[show ZK T [.str a1,.str b1,.int c1,.int d1]=(aV (T.n+1-c1).toNat).map λ(m:Nat)=>outS [.str a1,.str b1,.int c1,.int d1] (c1+m)from rfl]at dc6 ⊢;rw[Xs hm,<-bU];exact dc6
  ·obtain⟨s2,dc2,o,rfl⟩:=q;refine hd' _ _ ⟨s2,?_,shp rfl⟩;rw[show(ZK T [.str a1,.str b1,.int c1,.int d1]).take (T.n+1-c1).toNat=ZK T [.str a1,.str b1,.int c1,.int d1]from aX (by unfold ZK;rw[lm,bf];exact Nat.le_refl _)]at dc2;exact dc2
 obtain⟨s1,dc1,o,rfl⟩:=q;rw[aW]at dc1;refine hk1 _ _ ?_;refine tq λD2 hk2=>?_;refine⟨_,rfl,l2,rfl,⟨_,SqL.of (rw2 s1).choose_spec.1⟩,?_⟩;refine YC (J:=Itl K l2) T.t2.length (λi σ H'=>Zj p H H'/\Dc H' p (T.t4.flatMap (ZK T)++(T.t2.take i).map Xr)/\∃o:Nat->Option V,σ=[some (.ref pw),some (.int T.n),some (.ref l1),some (.ref l2),some (.ref l3),some (.ref l4),some (.ref p),o 7,o 8,o 9,o 10,o 11,o 12,o 13,o 14,o 15,o 16,o 17,o 18,o 19]) ⟨s1,DD dc1,shp rfl⟩ (λi σ H' hi q=>(rw2 q.1).go hi) (λσ H' q=>(rw2 q.1).stop) (λi σ H' x H2 hi q yl=>?_) (λσ H1 q=>?_)
 ·obtain⟨s2,dc,o,rfl⟩:=q;have e0:T.t2[i]?=some T.t2[i]:=gE hi;obtain⟨rfl,a,rfl,ha⟩:=(rw2 s2).item e0 yl;have hy:T.t2[i]∈T.t2:=aE hi;have le1:((T.t2.take i).map Xr).length<=80:=by rw[lm,aN];omega
  rw[map_take hi];generalize T.t2[i]=y at ha hy;obtain⟨a1,b1,d1,c1,e1,f1,rfl,_⟩:=K6 ok hy;refine⟨a,_,rfl,SqT.of ha,rfl,_,_,rfl,_,_,rfl,_,_,rfl,_,_,rfl,_,_,rfl,_,_,rfl,rfl,?_⟩;try dsimp only[ay]
  refine td λD'' hd'=>?_;refine⟨_,rfl,_,rfl,zl,λq1 h1=>?_⟩;try dsimp only[tNil]
  refine nl2 h1 λH3 S3 e3=>?_;refine⟨_,rfl,_,rfl,zl,λq2 h2=>?_⟩;try dsimp only[tNil]
  refine nl2 h2 λH4 S4 e4=>?_;refine⟨_,rfl,_,rfl,_,rfl,_,_,rfl,rfl,zl,λq3 h3=>?_⟩;try dsimp only[tNil]
  refine nl2 h3 λH5 S5 e5=>?_;refine⟨_,rfl,_,rfl,zl,λq4 h4=>?_⟩;try dsimp only[tNil]
  have S36:=(S3.trans S4).trans S5;refine Mh h4 rfl (S:=Xr [.str a1,.str b1,.int c1,.str d1,.int e1,.int f1]) hp (s2.trans (Zj.of S36)) (dc.same S36) (by rw[aj];omega) (.tup e5 (.cons (.tup (S5 _ _ (S4 _ _ e3)) (.cons (.str _) (.cons (.int _) .nil))) (.cons (.tup (S5 _ _ e4) (.cons (.str _) (.cons (.int _) .nil))) (.cons (.int _) (.cons (.int _) .nil))))) λH7 s7 dc7=>hd' _ _ ⟨s7,?_,shp rfl⟩;rw[<-bU];exact dc7
 obtain⟨s2,dc2,o,rfl⟩:=q;rw[aW]at dc2;refine hk2 _ _ ?_;refine tq λD3 hk3=>?_;refine⟨_,rfl,l3,rfl,⟨_,SqL.of (rw3 s2).choose_spec.1⟩,?_⟩;refine YC (J:=Itl K l3) T.t3.length (λi σ H'=>Zj p H H'/\Dc H' p ((T.t4.flatMap (ZK T)++T.t2.map Xr)++(T.t3.take i).flatMap (ZO T))/\∃o:Nat->Option V,σ=[some (.ref pw),some (.int T.n),some (.ref l1),some (.ref l2),some (.ref l3),some (.ref l4),some (.ref p),o 7,o 8,o 9,o 10,o 11,o 12,o 13,o 14,o 15,o 16,o 17,o 18,o 19]) ⟨s2,DD dc2,shp rfl⟩ (λi σ H' hi q=>(rw3 q.1).go hi) (λσ H' q=>(rw3 q.1).stop) (λi σ H' x H2 hi q yl=>?_) (λσ H1 q=>?_)
 ·obtain⟨s3,dc,o,rfl⟩:=q;have e0:T.t3[i]?=some T.t3[i]:=gE hi;obtain⟨rfl,a,rfl,ha⟩:=(rw3 s3).item e0 yl;have hy:T.t3[i]∈T.t3:=aE hi;have le1:=J6 (f:=ZO T) (t:=T.t3) i;have le2:=Np ok hy;rw[Jr hi];generalize T.t3[i]=y at ha hy le2;obtain⟨a1,b1,c1,d1,e1,rfl,_,_,_,c0,c2,_⟩:=K5 ok hy;refine⟨a,_,rfl,SqT.of ha,rfl,_,_,rfl,_,_,rfl,_,_,rfl,_,_,rfl,_,_,rfl,rfl,?_⟩;try dsimp only[ay]
  refine td λD'' hd'=>?_;refine⟨_,rfl,_,_,rfl,rfl,_,rfl,_,_,rfl,rfl,T.n+1-d1,rfl,by omega,by omega,?_⟩;refine Gf (lo:=0) (n:=(T.n+1-d1).toNat) (λm σ' H'=>Zj p H H'/\Dc H' p (((T.t4.flatMap (ZK T)++T.t2.map Xr)++(T.t3.take i).flatMap (ZO T))++(ZO T [.str a1,.str b1,.str c1,.int d1,.int e1]).take m)/\∃o:Nat->Option V,σ'=[some (.ref pw),some (.int T.n),some (.ref l1),some (.ref l2),some (.ref l3),some (.ref l4),some (.ref p),some (.str a1),o 8,o 9,o 10,o 11,some (.str b1),o 13,some (.str c1),o 15,o 16,some (.int d1),some (.int e1),o 19]) ⟨s3,DD dc,shp rfl⟩ (λm σ' H' hm q=>?_) (λσ' H' q=>?_)
  ·obtain⟨s4,dc4,o,rfl⟩:=q;dsimp only[Zq];refine td λD' hd=>?_;refine⟨_,rfl,_,rfl,zl,λq1 h1=>?_⟩;try dsimp only[tNil]
   refine nl2 h1 λH3 S3 e3=>?_;refine⟨_,rfl,_,rfl,_,rfl,_,_,rfl,rfl,zl,λq2 h2=>?_⟩;try dsimp only[tNil]
   refine nl2 h2 λH4 S4 e4=>?_;refine⟨_,rfl,_,rfl,zl,λq3 h3=>?_⟩;try dsimp only[tNil]
   refine nl2 h3 λH5 S5 e5=>?_;refine⟨_,rfl,_,rfl,_,rfl,zl,λq4 h4=>?_⟩;try dsimp only[tNil]
   have S36:=(S3.trans S4).trans S5;refine Mh h4 rfl (S:=Um [.str a1,.str b1,.str c1,.int d1,.int e1] (0+m)) hp (s4.trans (Zj.of S36)) (dc4.same S36) ?_ (.tup e5 (.cons (.tup (S5 _ _ (S4 _ _ e3)) (.cons (.str _) (.cons (.int _) .nil))) (.cons (.tup (S5 _ _ e4) (.cons (.str _) (.cons (.int _) .nil))) (.cons (.int _) (.cons (.int _) .nil))))) λH7 s7 dc7=>hd _ _ ⟨s7,?_,shp rfl⟩
   ·simp only[aj,aN];omega
   ·rw[show ZO T [.str a1,.str b1,.str c1,.int d1,.int e1]=(aV (T.n+1-d1).toNat).map λ(m:Nat)=>Um [.str a1,.str b1,.str c1,.int d1,.int e1] (0+m)from rfl]at dc7 ⊢;rw[Xs hm,<-bU];exact dc7
  ·obtain⟨s4,dc4,o,rfl⟩:=q;refine hd' _ _ ⟨s4,?_,shp rfl⟩;rw[show(ZO T [.str a1,.str b1,.str c1,.int d1,.int e1]).take (T.n+1-d1).toNat=ZO T [.str a1,.str b1,.str c1,.int d1,.int e1]from aX (by unfold ZO;rw[lm,bf];exact Nat.le_refl _)]at dc4;rw[<-bU];exact dc4
 obtain⟨s3,dc3,o,rfl⟩:=q;rw[aW]at dc3;refine hk3 _ _ ?_;refine tq λD4 hk4=>?_;refine⟨_,rfl,l1,rfl,⟨_,SqL.of (rw1 s3).choose_spec.1⟩,?_⟩;refine YC (J:=Itl K l1) T.t1.length (λi σ H'=>Zj p H H'/\Dc H' p ((T.t4.flatMap (ZK T)++T.t2.map Xr++T.t3.flatMap (ZO T))++(T.t1.take i).flatMap (ZL T))/\∃o:Nat->Option V,σ=[some (.ref pw),some (.int T.n),some (.ref l1),some (.ref l2),some (.ref l3),some (.ref l4),some (.ref p),o 7,o 8,o 9,o 10,o 11,o 12,o 13,o 14,o 15,o 16,o 17,o 18,o 19]) ⟨s3,DD dc3,shp rfl⟩ (λi σ H' hi q=>(rw1 q.1).go hi) (λσ H' q=>(rw1 q.1).stop) (λi σ H' x H2 hi q yl=>?_) (λσ H1 q=>?_)
 ·obtain⟨s4,dc,o,rfl⟩:=q;have e0:T.t1[i]?=some T.t1[i]:=gE hi;obtain⟨rfl,a,rfl,ha⟩:=(rw1 s4).item e0 yl;have hy:T.t1[i]∈T.t1:=aE hi;have le1:=J6 (f:=ZL T) (t:=T.t1) i;have le2:=Nq ok (y:=T.t1[i]);rw[Jr hi];generalize T.t1[i]=y at ha hy le2;obtain⟨⟨z1,rr⟩,rfl,_,_⟩:=XQ ok hy;refine⟨a,_,rfl,SqT.of ha,rfl,_,_,rfl,_,_,rfl,rfl,?_⟩;try dsimp only[ay]
  refine td λD'' hd'=>?_;cases rr with
 |none=>refine⟨_,rfl,rfl,_,rfl,?_⟩;refine iteF ?_;refine hd' _ _ ⟨s4,?_,shp rfl⟩;rw[show ZL T (plRow (z1,none))=[]from if_pos rfl,bB];exact dc
 |some r1=>
   refine⟨_,rfl,rfl,_,rfl,?_⟩;refine iteT ?_;have ew:ZL T (plRow (z1,some r1))=(aV T.n.toNat).map λ(m:Nat)=>VQ (plRow (z1,some r1)) (0+m):=if_neg (λz=>by cases z);refine⟨_,rfl,T.n,rfl,by omega,by omega,?_⟩;refine Gf (lo:=0) (n:=T.n.toNat) (λm σ' H'=>Zj p H H'/\Dc H' p (((T.t4.flatMap (ZK T)++T.t2.map Xr++T.t3.flatMap (ZO T))++(T.t1.take i).flatMap (ZL T))++(ZL T (plRow (z1,some r1))).take m)/\∃o:Nat->Option V,σ'=[some (.ref pw),some (.int T.n),some (.ref l1),some (.ref l2),some (.ref l3),some (.ref l4),some (.ref p),o 7,some (.str z1),o 9,o 10,o 11,o 12,o 13,o 14,o 15,o 16,o 17,o 18,some (.int r1)]) ⟨s4,DD dc,shp rfl⟩ (λm σ' H' hm q=>?_) (λσ' H' q=>?_)
   ·obtain⟨s5,dc5,o,rfl⟩:=q;dsimp only[Zq];refine td λD' hd=>?_;refine⟨_,rfl,_,rfl,zl,λq1 h1=>?_⟩;try dsimp only[tNil]
    refine nl2 h1 λH3 S3 e3=>?_;refine⟨_,rfl,_,rfl,_,_,rfl,rfl,zl,λq2 h2=>?_⟩;try dsimp only[tNil]
    refine nl2 h2 λH4 S4 e4=>?_;refine⟨_,rfl,zl,λq3 h3=>?_⟩;try dsimp only[tNil]
    refine nl2 h3 λH5 S5 e5=>?_;refine⟨_,rfl,_,rfl,_,rfl,zl,λq4 h4=>?_⟩;try dsimp only[tNil]
    have S36:=(S3.trans S4).trans S5;refine Mh h4 rfl (S:=VQ (plRow (z1,some r1)) (0+m)) hp (s5.trans (Zj.of S36)) (dc5.same S36) ?_ (.tup e5 (.cons (.tup (S5 _ _ (S4 _ _ e3)) (.cons (.str _) (.cons (.int _) .nil))) (.cons (.tup (S5 _ _ e4) (.cons (.str _) (.cons (.int _) .nil))) (.cons (.int _) (.cons (.int _) .nil))))) λH7 s7 dc7=>hd _ _ ⟨s7,?_,shp rfl⟩
    ·simp only[aj,aN];omega
    ·rw[ew]at dc7 ⊢;rw[Xs hm,<-bU];exact dc7
   ·obtain⟨s5,dc5,o,rfl⟩:=q;refine hd' _ _ ⟨s5,?_,shp rfl⟩;rw[show(ZL T (plRow (z1,some r1))).take T.n.toNat=ZL T (plRow (z1,some r1))from aX (by rw[ew,lm,bf];exact Nat.le_refl _)]at dc5;rw[<-bU];exact dc5
 obtain⟨s4,dc4,o,rfl⟩:=q;rw[aW]at dc4;exact hk4 _ _ ⟨_,rfl,k H1 p (λc o e=>s4 c o e (nw e)) hp dc4⟩
end
def KNe(S S':Sx):Prop:=S.key≠S'.key
theorem Rt{f:Nat->Sx}{n:Nat}(h:∀a b:Nat,a<b->KNe (f a) (f b)):((aV n).map f).Pairwise KNe:=ig.mpr (List.Pairwise.imp (h _ _) List.pairwise_lt_range)
theorem SO{T:Tb}(o:OkTb T){j:Nat}(hj:isJ j){R:List V->List V->Prop}(h:∀a b,nameOf a≠nameOf b->R a b):(T.part j).Pairwise R:=List.Pairwise.imp (h _ _) (ig.mp (NI o hj))
theorem key2{a b:Str}{x y:Key}{l m:List Key}(h:a≠b\/x≠y):((.inr a:Key)::x::l)≠.inr b::y::m:=by
 intro e;injection e with e1 e2;injection e2 with e2 e3;injection e1 with e1;rcases h with h|h
 ·exact h e1
 ·exact h e2
theorem nmI{a b:Str}(h:a≠b):(.inr a:Key)≠.inr b:=λe=>by injection e with e;exact h e
theorem key3{a b:Str}{x y:Key}{i j:Int}(h:i≠j):([.inr a,x,.inl i]:List Key)≠[.inr b,y,.inl j]:=by intro e;injection e with e1 e2;injection e2 with e2 e3;injection e3 with e3 e4;injection e3 with e3;exact h e3
theorem JH{T:Tb}{y:List V}{S:Sx}(h:S∈ZK T y):∃i,S=outS y i:=by obtain⟨m,_,rfl⟩:=ah.mp h;exact⟨_,rfl⟩
theorem Ul{T:Tb}{y:List V}{S:Sx}(h:S∈ZO T y):∃i,S=Um y i:=by obtain⟨m,_,rfl⟩:=ah.mp h;exact⟨_,rfl⟩
theorem Mw{T:Tb}{y:List V}{S:Sx}(h:S∈ZL T y):∃i,S=VQ y i:=by
 unfold ZL at h;split at h
 ·cases h
 obtain⟨m,_,rfl⟩:=ah.mp h;exact⟨_,rfl⟩
theorem Dx{T:Tb}(o:OkTb T):(allS T).Pairwise KNe:=by
 obtain⟨w1,w2,w3,w4,w5,w6⟩:=W6;unfold allS;rw[gu,gu,gu];refine⟨⟨⟨?_,?_,?_⟩,?_,?_⟩,?_,?_⟩
 ·refine gc.mpr ⟨λy hy=>Rt λa b h=>key3 (by omega),SO o (j:=4) (.inr (.inr (.inr rfl))) λa b h x hx y hy=>?_⟩;obtain⟨i,rfl⟩:=JH hx;obtain⟨i',rfl⟩:=JH hy;exact key2 (.inr (nmI h))
 ·exact ig.mpr (SO o (j:=2) (.inr (.inl rfl)) λa b h=>key2 (.inr (nmI h)))
 ·intro x hx z hz;obtain⟨y,hy,hx⟩:=bQ.mp hx;obtain⟨y',hy',rfl⟩:=ah.mp hz;obtain⟨i,rfl⟩:=JH hx;exact key2 (.inl w4)
 ·refine gc.mpr ⟨λy hy=>Rt λa b h=>key3 (by omega),SO o (j:=3) (.inr (.inr (.inl rfl))) λa b h x hx y hy=>?_⟩;obtain⟨i,rfl⟩:=Ul hx;obtain⟨i',rfl⟩:=Ul hy;exact key2 (.inr (nmI h))
 ·intro x hx z hz;obtain⟨y',hy',hz⟩:=bQ.mp hz;obtain⟨i',rfl⟩:=Ul hz;rcases aD.mp hx with hx|hx
  ·obtain⟨y,hy,hx⟩:=bQ.mp hx;obtain⟨i,rfl⟩:=JH hx;exact key2 (.inl w1)
  ·obtain⟨y,hy,rfl⟩:=ah.mp hx;exact key2 (.inl w5.symm)
 ·refine gc.mpr ⟨λy hy=>?_,SO o (j:=1) (.inl rfl) λa b h x hx y hy=>?_⟩
  ·unfold ZL;split
   ·exact .nil
   ·exact Rt λa b h=>key3 (by omega)
  ·obtain⟨i,rfl⟩:=Mw hx;obtain⟨i',rfl⟩:=Mw hy;exact key2 (.inr (nmI h))
 ·intro x hx z hz;obtain⟨y',hy',hz⟩:=bQ.mp hz;obtain⟨i',rfl⟩:=Mw hz;rcases aD.mp hx with hx|hx
  ·rcases aD.mp hx with hx|hx
   ·obtain⟨y,hy,hx⟩:=bQ.mp hx;obtain⟨i,rfl⟩:=JH hx;exact key2 (.inl w2)
   ·obtain⟨y,hy,rfl⟩:=ah.mp hx;exact key2 (.inl w6.symm)
  ·obtain⟨y,hy,hx⟩:=bQ.mp hx;obtain⟨i,rfl⟩:=Ul hx;exact key2 (.inl w3)
theorem Qj:∀(l:List (Sx×V))(acc:List (List Key×V)),l.Pairwise (λp q=>KNe p.1 q.1)->(∀p∈l,∀q∈acc,q.1≠p.1.key)->puts l acc=acc++l.map λp=>(p.1.key,p.2)
|[],acc,_,_=>by simp[puts]
|p::l,acc,h,n=>by
  have e:putK acc p.1.key p.2=acc++[(p.1.key,p.2)]:=by unfold putK;rw[if_neg];intro z;obtain⟨q,hq,z⟩:=bJ.mp z;exact n p (by simp) q hq (of_decide_eq_true z)
  show puts l (putK acc p.1.key p.2)=_;cases h with
 |cons h1 h2=>
  rw[e,Qj l _ h2 λq hq r hr=>?_,bU]
  ·rfl
  ·rcases aD.mp hr with hr|hr
   ·exact n q (by simp[hq]) r hr
   ·rw[aB]at hr;subst hr;exact h1 q hq
theorem WZ{H:Hp}:∀{vs:List V}{L:List Sx},bj (λv S=>Is H v (JR S)) vs L->L.Pairwise KNe->(L.zip vs).Pairwise λp q=>KNe p.1 q.1
|_,_,.nil,_=>.nil
|_,_,.cons _ t,h=>by
  cases h with
 |cons h1 h2=>exact .cons (λq hq=>h1 q.1 (f7 hq).1) (WZ t h2)
theorem W0{H:Hp}:∀{vs:List V}{L:List Sx},bj (λv S=>Is H v (JR S)) vs L->bj (λ(kv:List Key×V)(S:Sx)=>kv.1=S.key/\Is H kv.2 (JR S)) ((L.zip vs).map λp=>(p.1.key,p.2)) L
|_,_,.nil=>.nil
|_,_,.cons r t=>.cons ⟨rfl,r⟩ (W0 t)
theorem Dc.ord{H:Hp}{p:Addr}{L:List Sx}(d:Dc H p L)(h:L.Pairwise KNe):∃kvs,H p=some (.dT kvs)/\bj (λ(kv:List Key×V)(S:Sx)=>kv.1=S.key/\Is H kv.2 (JR S)) kvs L:=by obtain⟨kvs,e,_,⟨vs,r,ek⟩,_⟩:=d;refine⟨_,e,?_⟩;rw[ek,Qj _ [] (WZ r h) (λ_ _ q hq=>nomatch hq),List.nil_append];exact W0 r
end SX
namespace L2
open PySem PySem.Spec PyProof.Rows
noncomputable def Itk(a:Addr)(o:Obj)(kvs:List (List Key×V)):It:=⟨λi H=>i<kvs.length/\H a=some (.frz o (.dT kvs)),λi H x H'=>H'=H/\∃(b:Addr)(kv:List Key×V),kvs[i]?=some kv/\H b=some (.tup (kv.1.map kV))/\x=.ref b,λi H=>i=kvs.length/\H a=some (.frz o (.dT kvs))⟩
theorem Q7{P:Program}{w:World}{K:aa}{tg:Expr}{a it:Addr}{o:Obj}{kvs:List (List Key×V)}{es:Array DictEntry}{ep:Nat}(hdd:o.data=.dict es ep)(hsz:es.size=kvs.length):
  Turn P w K tg (Itk a o kvs) [it] it (λi h=>h.IsKeyIter it a i es.size ep) where
 mem:=by simp
 obj:=λi h st b hb=>by
  have e:b=it:=by simpa using hb
  subst e
  obtain⟨o,e,c,d⟩:=st
  exact⟨o,e,λv z=>by rw[d]at z;cases z⟩
 keep:=λi h h' st k=>st.at λo e=>k it (by simp) o e
 item:=by
  intro X hP hw hK hc i pins s σ H E I hf st hg
  subst hP hw hK
  obtain⟨hi,hq⟩:=hg
  obtain⟨ho,z,hd,xs,rel,o',es2,ep2,h1,h2,h3,h4,h5⟩:=I.hok a _ hq
  rw[ho]at h1
  cases h1
  rw[hdd]at h3
  cases h3
  have hl:=aK rel
  have hi':i<xs.length:=by omega
  obtain⟨e,he,ek,ev⟩:=HK h4 (gE hi')
  have hkv:=gE hi
  obtain⟨r1,r2,r3⟩:=JE rel hkv (gE hi')
  obtain⟨f0,f1,f2,f3,f4,f5⟩:=hf it (by simp)
  have hT:s.TypeIs (.ref it) "dict_keyiterator":=by obtain⟨o,e,c,d⟩:=st;exact⟨o,e,c⟩
  unfold pyNext
  refine ae (fX (cg (name:=Str.ofString "__next__") hT F.slot_dict_keyiterator_next (c9 F.slot_dict_keyiterator_next hT F.entry_dict_keyiterator_next ?_ (F.args_dict_keyiterator_next_1 _))))
  refine RI st ho hdd he λh' st' sb=>⟨_,rfl,ai ?_⟩
  have I1:Inv X pins σ H {s with heap:=h'}:=I.turned (t':=s.toks) (λb o hb e=>(sb.2 b hb).trans e) f0 f1 f3 f4 f5
  obtain⟨o',e',c',d'⟩:=id st'
  exact⟨_,rfl,QM (s:={s with heap:=h'}) e' c' d' (by decide) ⟨.ref xs[i].2.1,H,I1,ek,⟨rfl,xs[i].2.1,kvs[i],hkv,r2,rfl⟩,st',λb hb=>(hf b hb).1⟩⟩
 done:=by
  intro X hP hw hK hc i pins s σ H E I hf st hg
  subst hP hw hK
  obtain⟨hi,hq⟩:=hg
  have ho:=(I.hok a _ hq).1
  obtain⟨f0,f1,f2,f3,f4,f5⟩:=hf it (by simp)
  have hT:s.TypeIs (.ref it) "dict_keyiterator":=by obtain⟨o,e,c,d⟩:=st;exact⟨o,e,c⟩
  unfold pyNext
  refine ae (fX (cg (name:=Str.ofString "__next__") hT F.slot_dict_keyiterator_next (c9 F.slot_dict_keyiterator_next hT F.entry_dict_keyiterator_next ?_ (F.args_dict_keyiterator_next_1 _))))
  refine Wl (I.ok.hd hc) st ho hdd (by simp;omega) λh' e hk he=>?_
  obtain⟨o',ho',hc'⟩:=he
  refine ae (wpAny_isInstance (T:="StopIteration") (b:=true) ⟨o',ho',hc'⟩ isSubtype_stop ?_)
  exact ai ⟨rfl,I.turned (t':=s.toks) (λb o hb e=>hk b o hb e) f0 f1 f3 f4 f5⟩
 self:=λ_ _ _ _ _ st h=>wpAny_pyIter_keyiter st h
section
variable {X:Cx}{tg:Expr}
noncomputable def HL(tl:TE):TI:=λσ H R=>tl σ H λx H1=>∃a kvs,x=.ref a/\H1 a=some (.dT kvs)/\∀o,R (Itk a o kvs) (upd H1 a (.frz o (.dT kvs)))
theorem Le{l:Expr}{tl:TE}(hl:PE X l tl):PI X tg l (HL tl):=by
 intro pins s σ H R I h;refine thn (hl pins s σ H _ I h) λv s1 hZ=>?_;obtain⟨x,H1,I1,r1,q1⟩:=hZ;obtain⟨a,kvs,e,hq,q⟩:=q1;subst e;cases r1;obtain⟨z,hd,xs,rel,ob,es,ep,h1,h2,h3,h4,h5,h6⟩:=Fi I1.hok hq;have hlen:=aK rel;have hsz:es.size=kvs.length:=by rw[<-dI,h4,lm,hlen]
 have I2:Inv X pins σ (upd H1 a (.frz ob (.dT kvs))) s1:=I1.write (x:=a) (e:=a) (h':=s1.heap) (t':=s1.toks) (o:=.frz ob (.dT kvs)) (by rw[hq];exact bG) (.inl rfl) (λb u _ z=>z) ⟨ob,h1⟩ ⟨h1,?_⟩
 ·refine LI hd ⟨ob,h1,h2,h3⟩ ?_;refine⟨s1.heap.objs.size,[s1.heap.objs.size],_,_,_,rfl,I2.kept (t':=s1.toks) λb o e=>Heap.get?_push_of_some _ e,Q7 h3 hsz,⟨_,Heap.get?_push_size _ rfl,rfl,rfl⟩,λb hb=>?_,q ob⟩;have e:b=s1.heap.objs.size:=by simpa using hb
  subst e;exact I2.fpOk (Nat.le_refl _) (I2.hok.fresh (Nat.le_refl _))
 ·have h0:ZR X.prog X.w H1 s1.heap a (.dT kvs):=I1.hok a _ hq;exact h0.stay (λ_ _ _ z=>z) (λc z=>by rw[Zg (ne_of z hq (λq=>nomatch q))];exact z) λc xs z=>by rw[Zg (ne_of z hq (λq=>nomatch q))];exact z
end
section
variable {prog:Program}{w:World}{A:a9}{E:Value->ag->Prop}{s:ag}
theorem Wk{a:Addr}{xs:Array Value}{k:Nat}{sl:Array (Option Value)}{Q:Option Value->ag->Prop}(hx:s.heap.get? a=some {cls:=.type "list",data:=.seq xs k,slots:=sl})(hA:A.handled=none)(h:∀(h':Heap)(tk:Nat),(∀b o,s.heap.get? b=some o->h'.get? b=some o)->Q none {s with heap:=h',toks:=tk}):wpAny (model prog w) A (getAttr? (.ref a) (Str.ofString "keys")) Q E s:=by obtain⟨hp,g,d,tk,os⟩:=s;have hT:∀x,Shared.TypeIs {heap:=hp,gens:=g,drawn:=d,toks:=x,os:=os} (.ref a) "list":=λx=>⟨_,hx,rfl⟩;have f3:=F.slot_list_getattribute.lookup;have f4:=F.slot_list_getattribute.bind (Value.ref a);have f5:=am_list_getattr_none;unfold getAttr?;refine ae ?_;unfold mkText;refine ae (wpAny_fresh' (ai ?_));unfold getAttrBy?;refine ae (fX ?_);unfold getAttrBy;refine a8 (ae (wpAny_typeOf (hT _) ?_));refine ae (g_ f3 ?_);refine gF rfl ?_;unfold getAttrByItsOwn;refine ae ?_;unfold hookBefore;refine gF rfl (ai ?_);refine ae (fX (a8 ?_));unfold callGetattribute;refine gF rfl ?_;refine ae (g_ f4 ?_);refine gB F.slot_list_getattribute (hT _) am_entry_list_getattribute (F.args_list_getattribute_2 _ _) (meets_getattribute_miss_list a xs k _ (Str.ofString "keys") _ (by rfl) (by decide)) ⟨hx,hA,λh' tk' e hn=>?_⟩;obtain⟨keeps,new,⟨t,u,there⟩⟩:=hn;have hE:∀x,Shared.TypeIs {heap:=h',gens:=g,drawn:=d,toks:=x,os:=os} (.ref e) "AttributeError":=λx=>⟨_,there,rfl⟩;show wpAny _ _ (getattributeRaised _ _ _ _ _ _ _) _ _ _;unfold getattributeRaised;refine ae (wpAny_isInstance (b:=true) (hE _) sub_AttributeError ?_);refine eI rfl ?_;refine ae ?_;unfold hookBehind;refine gF rfl (g_ f5 ?_);unfold hookOrError;dsimp only;unfold attributeErrorLeaves;refine eI rfl (ae (wpAny_throw ?_));show wpAny _ _ (isInstance _ _ >>= _) _ _ _;refine ae (wpAny_isInstance (b:=true) (hE _) sub_AttributeError ?_);refine eI rfl (ai ?_);exact h h' tk' keeps
theorem Tg{h h':Heap}{k:MK}{v:Value}(x:mIs prog w h k v)(e:∀b o,h.get? b=some o->h'.get? b=some o):mIs prog w h' k v:=by
 rcases k with k|ks
 ·exact x
 ·obtain⟨a,rfl,o,items,n,h1,h2,h3,h4⟩:=x;exact⟨a,rfl,o,items,n,e _ _ h1,h2,h3,h4⟩
noncomputable def U3(ps:List (MK×Value×Value)):List (MK×Value×Value):=ps.foldl (λxs p=>mSto xs p.1 p.2.1 p.2.2) []
theorem Sr:∀(ps:List (MK×Value×Value))(xs:List (MK×Value×Value))x,x∈ps.foldl (λxs p=>mSto xs p.1 p.2.1 p.2.2) xs->∃p∈xs++ps,x.1=p.1/\x.2.1=p.2.1
|[],xs,x,h=>⟨x,by simpa using h,rfl,rfl⟩
|p::ps,xs,x,h=>by
  obtain⟨q,hq,e1,e2⟩:=Sr ps _ x h;rcases aD.mp hq with hq|hq
  ·unfold mSto at hq;dsimp only at hq;split at hq
   ·obtain⟨y,hy,rfl⟩:=ah.mp hq;refine⟨y,bh _ hy,?_⟩;rw[e1,e2];unfold mPut;split<;>exact⟨rfl,rfl⟩
   ·rcases aD.mp hq with hq|hq
    ·exact⟨q,bh _ hq,e1,e2⟩
    ·rw[aB]at hq;subst hq;exact⟨p,by simp,e1,e2⟩
  ·exact⟨q,by simp[hq],e1,e2⟩
theorem Ss:∀(ps:List (MK×Value×Value))(xs:List (MK×Value×Value)),(ps.foldl (λxs p=>mSto xs p.1 p.2.1 p.2.2) xs).length<=xs.length+ps.length
|[],xs=>by simp
|p::ps,xs=>by
  have:=Ss ps (mSto xs p.1 p.2.1 p.2.2);have h:(mSto xs p.1 p.2.1 p.2.2).length<=xs.length+1:=by
   unfold mSto;split
   ·rw[lm];omega
   ·simp
  rw[c_,aR];omega
theorem NR:entryFor table "dict.update.loop"=some dD.«dict.update.loop»:=entryFor_of_tree (by rfl)
theorem VB:plainId "dict.update.loop"=true:=by decide +kernel
theorem Wx{h0:Heap}{I l d:Addr}{items:Array Value}{ps:List (MK×Value×Value)}{R:Result->ag->Prop}(hu:A.in1.units<cLine)(hh:A.in1.handled=none)(hne:l≠I)(ndI:d≠I)(ndl:d≠l)(hps:ps.length=items.size)(hz:ps.length<=sizeLine)(hit:∀(i:Nat)p,ps[i]?=some p->∃a o n,items[i]?=some (.ref a)/\h0.get? a=some o/\o.cls=.type "tuple"/\o.data=.seq #[p.2.1,p.2.2] n)(hk:∀p∈ps,mIs prog w h0 p.1 p.2.1)(fr:∀b o,h0.get? b=some o->b≠d/\b≠I):∀(k i:Nat)(j:Int)(s:ag),items.size-i=k->i<=items.size->(∀b o,h0.get? b=some o->s.heap.get? b=some o)->s.heap.IsListIter I l i->s.heap.IsList l items->MD prog w s.heap d (U3 (ps.take i)) ->(∀(h':Heap)(tk:Nat),(∀b o,h0.get? b=some o->h'.get? b=some o)->MD prog w h' d (U3 ps)->R (.ok (.ret .none)) {s with heap:=h',toks:=tk}) ->gy (model prog w) A (Code.builtin "dict.update.loop" {pos:=[.ref d,.ref I,dh j,.none],kw:=[]}) R s:=by
 have W:=Walks.list (prog:=prog) (w:=w) (A:=A.in1) hh I l hne items;intro k;induction k with
|zero=>
  intro i j s hki hi hold it li md hR;have e:i=items.size:=by omega
  subst e;refine codeAny_builtin NR ?_;rw[Around.under_plainId VB];unfold dD.«dict.update.loop»;refine ae (W.done s _ _ ⟨it,li⟩ λh' tk mv=>?_);show wpAny _ _ (ip d [] >>= _) _ _ _;unfold ip;refine ae (ae (ai (ai ?_)));refine ai (hR h' tk (λb o e=>mv b o (by simpa using(fr b o e).2) (hold b o e)) ?_);rw[<-hps,aW]at md;obtain⟨o,es,ep,ho,r⟩:=md;exact⟨o,es,ep,mv d o (by simpa using ndI) ho,r⟩
|succ k ih=>
  intro i j s hki hi hold it li md hR;have hlt:i<items.size:=by omega
  refine codeAny_builtin NR ?_;rw[Around.under_plainId VB];unfold dD.«dict.update.loop»;refine ae (W.item i s _ _ hlt ⟨it,li⟩ λv h' tk hv st mv=>?_);have hlt':i<ps.length:=by omega
  have ep:ps[i]?=some ps[i]:=gE hlt';have hmem:ps[i]∈ps:=aE hlt';generalize ps[i]=p at ep hmem;obtain⟨a,o,n,ea,ho,hc,hd⟩:=hit i p ep;rw[ea]at hv;cases hv;have hold':∀b o,h0.get? b=some o->h'.get? b=some o:=λb o e=>mv b o (by simpa using(fr b o e).2) (hold b o e);have ho':=hold' _ _ ho;have md':MD prog w h' d (U3 (ps.take i)):=by obtain⟨o,es,ep,ho,r⟩:=md;exact⟨o,es,ep,mv d o (by simpa using ndI) ho,r⟩
  refine ae (a8 (ae (wpAny_tryCatch ?_)));unfold Builtin.Dict.pairItems;refine ae (wpAny_typeOf (T:="tuple") ⟨o,ho',hc⟩ ?_);refine eI rfl ?_;unfold seqItems?;refine ae (ae (wpAny_load ho' ?_));rw[hd];refine ai (ai ?_);show wpAny _ _ (eV [p.2.1,p.2.2] (dictSet d p.2.1 p.2.2)) _ _ _;refine a8 (Fd (k:=p.1) hu (Tg (hk p hmem) hold') md' (λx hx=>?_) (λh2 m2 sb=>?_) ?_)
  ·obtain⟨q,hq,e1,e2⟩:=Sr _ _ x hx;rw[List.nil_append]at hq;rw[e1,e2];exact Tg (hk q (cL hq)) hold'
  ·refine ai ⟨plainId_quiet VB _,?_⟩;have hold2:∀b o,h0.get? b=some o->h2.get? b=some o:=λb o e=>sb.extBut b o (fr b o e).1 (hold' b o e);refine ih (i+1) (j+1) _ (by omega) (by omega) hold2 ?_ ?_ ?_ ?_
   ·obtain⟨oI,e1,e2⟩:=st.1;exact⟨oI,sb.extBut I oI (bo ndI) e1,e2⟩
   ·obtain⟨ol,e1,e2⟩:=st.2;exact⟨ol,sb.extBut l ol (bo ndl) e1,e2⟩
   ·rw[bc,ep];unfold U3 at m2 ⊢;rw[ij];exact m2
   ·exact λh3 tk3=>hR h3 tk3
  ·have:=Ss (ps.take i) [];rw[aN]at this;unfold U3;have h0:([]:List (MK×Value×Value)).length=0:=rfl;omega
end
section
variable {X:Cx}
noncomputable def Qk(ks:List (MK×V)):List (MK×V):=ks.foldl (λkvs p=>putK kvs p.1 p.2) []
noncomputable def FI(P:Program)(w:World)(K:aa):List V->Hp->VK->Prop:=λxs H Q=>∃(l:Addr)(its:List V)(ks:List (MK×V)),xs=[.ref l]/\SqL K H l its/\bj (λv p=>∃(a:Addr)(y:V),v=.ref a/\H a=some (.tup [y,p.2])/\KyM H p.1 y) its ks/\its.length<=1000 /\∀d o,H d=none->DMw P w (upd H d o) d (Qk ks)->Q (.ref d) (upd H d o)
theorem Hg{H:Hp}{ks:List (MK×V)}{ps:List (MK×Value×Value)}{kvs:List (MK×V)}{xs:List (MK×Value×Value)}(h:bj (λ(p:MK×V)(q:MK×Value×Value)=>p.1=q.1/\KyV H p.1 q.2.1/\RelV p.2 q.2.2) ks ps)(r:KM H kvs xs):KM H (ks.foldl (λkvs p=>putK kvs p.1 p.2) kvs) (ps.foldl (λxs p=>mSto xs p.1 p.2.1 p.2.2) xs):=by
 induction h generalizing kvs xs with
|nil=>exact r
|@cons p q ks ps h0 _ ih=>obtain⟨e,h1,h2⟩:=h0;rw[c_,c_];refine ih ?_;rw[<-e];exact r.put p.1 h1 h2
theorem SQ:∀(ks kvs:List (MK×V)),(ks.foldl (λkvs p=>putK kvs p.1 p.2) kvs).length<=kvs.length+ks.length
|[],kvs=>by simp
|p::ks,kvs=>by have h1:=SQ ks (putK kvs p.1 p.2);have h2:=YQ kvs p.1 p.2;rw[c_,aR];omega
theorem Lq{pins:List (Addr×Obj)}{σ:St}{H:Hp}{s:ag}(I:Inv X pins σ H s){its:List V}{us:List Value}{ks:List (MK×V)}(rv:Vals its us)(h:bj (λv(p:MK×V)=>∃(a:Addr)(y:V),v=.ref a/\H a=some (.tup [y,p.2])/\KyM H p.1 y) its ks):∃ps:List (MK×Value×Value),bj (λ(p:MK×V)(q:MK×Value×Value)=>p.1=q.1/\KyV H p.1 q.2.1/\RelV p.2 q.2.2) ks ps/\bj (λu(q:MK×Value×Value)=>∃a o n,u=Value.ref a/\s.heap.get? a=some o/\o.cls=.type "tuple"/\o.data=.seq #[q.2.1,q.2.2] n) us ps:=by
 induction h generalizing us with
|nil=>cases rv;exact⟨[],.nil,.nil⟩
|@cons v p its ks h0 _ ih=>
  cases rv with
 |cons r t=>
   obtain⟨ps,h1,h2⟩:=ih t;obtain⟨a,y,e,ha,hy⟩:=h0;subst e;cases r;obtain⟨vs,rv,⟨o,e1,e2,n,e3⟩,_⟩:=I.tuple (SqT.of ha);obtain⟨x,z,rfl,rx,rz⟩:∃x z,vs=[x,z]/\RelV y x/\RelV p.2 z:=by
    cases rv with
   |cons r1 t1=>cases t1 with
    |cons r2 t2=>cases t2;exact⟨_,_,rfl,r1,r2⟩
   exact⟨(p.1,x,z)::ps,.cons ⟨rfl,hy.val X.prog X.w rx,rz⟩ h1,.cons ⟨a,o,n,rfl,e1,e2,e3⟩ h2⟩
theorem JF{α β:Type}{R:α->β->Prop}{a:List α}{b:List β}(h:bj R a b):∀{i:Nat}{y:β},b[i]?=some y->∃x,a[i]?=some x/\R x y:=by
 induction h with
|nil=>intro i x h;cases h
|cons r _ ih=>
  intro i x h;cases i with
 |zero=>cases h;exact⟨_,rfl,r⟩
 |succ i=>obtain⟨u,h1,h2⟩:=ih (i:=i) (y:=x) (by simpa using h);exact⟨u,by simpa using h1,h2⟩
theorem Se(hu:X.A.units+64<cLine)(hc:X.calm=true):YI X (.type "dict") (FI X.prog X.w X.K):=by
 intro pins s σ H xs us Q I r h;obtain⟨l,its,ks,rfl,hq,pk,hl,q⟩:=h;obtain⟨u,rfl,ru⟩:=vals1 r;cases ru;obtain⟨vs,rv,pl,hz⟩:=I.list hq;obtain⟨ps,pa,pb⟩:=Lq I rv pk;have hlv:=rv.length;have lp:=aK pb;have lk:=aK pk;have lka:=aK pa;obtain⟨ol,n0,el,cl,dl,sl⟩:=pl;refine callType_codes F.kt_called_dict (F.kt_typeCall_dict_1 _) F.entry_dict_init (kt_code_dict_new (Q₁:=λobj s1=>obj=.ref s.heap.objs.size/\s1={s with heap:=s.heap.push {cls:=.type "dict",data:=.dict #[]}}) _ ⟨rfl,rfl⟩) λobj s1⟨e1,e2⟩=>?_;subst e1 e2;have hD:∀(h':Heap),(∀b o,(s.heap.push {cls:=.type "dict",data:=.dict #[]}).get? b=some o->h'.get? b=some o)->MD X.prog X.w h' s.heap.objs.size []:=λh' k=>⟨_,#[],0,k _ _ (Heap.get?_push_size _ rfl),⟨rfl,rfl,rfl⟩,rfl,rfl,dA⟩;refine⟨⟨_,Heap.get?_push_size _ rfl,rfl⟩,F.args_dict_init_2 _ _,?_⟩;have ell:∀b o,s.heap.get? b=some o->(s.heap.push {cls:=.type "dict",data:=.dict #[]}).get? b=some o:=λb o e=>Heap.get?_push_of_some _ e;have lsz:l<s.heap.objs.size:=Heap.lt_size el;generalize hS:s.heap.objs.size=S at *;unfold dD.«dict.__init__»;refine ae ?_;unfold Builtin.Dict.selfAndRest;refine ae (gQ ⟨_,by rw[<-hS];exact Heap.get?_push_size _ rfl,rfl⟩ ?_);refine ae (ai (ai ?_));show wpAny _ _ (ix _ _ _ _ _) _ _ _;unfold ix;refine ae (wpAny_typeOf (T:="list") ⟨ol,ell _ _ el,cl⟩ ?_);refine eI rfl ?_;obtain⟨c0,d0,t0,z0⟩:=ol;subst cl dl sl;have hhd:X.A.in1.in1.handled=none:=I.ok.hd hc;refine ae (Wk (ell _ _ el) hhd λh1 tk1 k1=>?_);refine eI rfl ?_;refine ae (d_ ?_);have li1:h1.IsList l vs.toArray:=⟨_,k1 _ _ (ell _ _ el),rfl,_,rfl⟩;refine ae (eJ li1 ?_);refine ai ⟨plainId_quiet VB _,?_⟩;have hge:S<h1.objs.size:=Heap.lt_size (k1 S _ (by rw[<-hS];exact Heap.get?_push_size _ rfl));have k2:∀b o,(s.heap.push {cls:=.type "dict",data:=.dict #[]}).get? b=some o->(h1.push {cls:=.type "list_iterator",data:=.fields #[.ref l,.int 0 0]}).get? b=some o:=λb o e=>Heap.get?_push_of_some _ (k1 _ _ e);have hu2:X.A.in1.in1.units<cLine:=by show X.A.units+1+1<cLine;omega
 refine Wx (A:=X.A.in1) (h0:=s.heap) (I:=h1.objs.size) (l:=l) (d:=S) (items:=vs.toArray) (ps:=ps) hu2 hhd (Nat.ne_of_lt (Nat.lt_trans lsz hge)) (Nat.ne_of_lt hge) (Nat.ne_of_gt lsz) (by rw[aq];omega) (Nat.le_trans (by omega:ps.length<=1000) (by decide)) (λi p hp=>?_) (λp hp=>?_) (λb o e=>?_) vs.toArray.size 0 0 _ (by omega) (Nat.zero_le _) ?_ ?_ ?_ ?_ (λh' tk kk m=>?_)
 ·obtain⟨u,hu',a,o,n,e,r1,r2,r3⟩:=JF pb hp;subst e;exact⟨a,o,n,by simpa using hu',r1,r2,r3⟩
 ·obtain⟨i,hi⟩:=aY.mp hp;obtain⟨x,_,e,h1,_⟩:=JF pa hi;rw[<-e];exact h1.is I.hok
 ·have hb:b<S:=hS▸Heap.lt_size e;exact⟨Nat.ne_of_lt hb,Nat.ne_of_lt (Nat.lt_trans hb hge)⟩
 ·exact λb o e=>k2 _ _ (ell _ _ e)
 ·exact⟨_,Heap.get?_push_size _ rfl,rfl,rfl⟩
 ·obtain⟨o,e,r⟩:=li1;exact⟨o,Heap.get?_push_of_some _ e,r⟩
 ·exact hD _ k2
 ·have keep:∀b o,s.heap.get? b=some o->h'.get? b=some o:=kk;have hn:H S=none:=I.hok.fresh (Nat.le_of_eq hS);refine⟨rfl,.ref S,upd H S (mdO X.prog X.w S (U3 ps)),I.laid keep (Nat.le_of_eq hS) (Rz m),rfl,q _ _ hn ⟨_,Zf,?_,?_,?_⟩⟩
  ·exact KM.keeps (λb ys e=>(Zg (Zi e hn)).trans e) (Hg pa .nil)
  ·have:=SQ ks [];exact Nat.le_trans (Nat.le_trans this (by rw[eQ];omega:_<=1000)) (by decide)
  ·rw[<-hS];exact beq_eq_false_iff_ne.mpr (bo (Nat.ne_of_lt I.big))
theorem any_range(bs:List Bool):(aV bs.length).any (λi=>bs.getD i true)=bs.any id:=by
 rw[Bool.eq_iff_iff,bJ,bJ];constructor
 ·rintro ⟨i,hi,h⟩;have hl:=bp.mp hi;rw[aw,gE hl]at h;exact⟨_,aE hl,h⟩
 ·rintro ⟨b,hb,h⟩;obtain⟨i,hi⟩:=aY.mp hb;have hl:i<bs.length:=(ak.mp hi).1;exact⟨i,bp.mpr hl,by rw[aw,hi];exact h⟩
theorem UW(hc:X.calm=true):YI X (.builtin "any") (λxs H Q=>∃(p:Addr)(bs:List Bool),xs=[.ref p]/\SqL X.K H p (bs.map V.bl)/\Q (.bl (bs.any id)) H):=by
 intro pins s σ H xs us Q I r h;obtain⟨p,bs,rfl,hq,q⟩:=h;obtain⟨u,rfl,ru⟩:=vals1 r;cases ru;obtain⟨its,rv,pl,hz⟩:=I.list hq;have hl:=rv.length;rw[lm]at hl;refine call_any_walk (eJ pl.isList ?_);have hne:p≠s.heap.objs.size:=by obtain⟨o,n,e,_⟩:=pl;exact Nat.ne_of_lt (Heap.lt_size e)
 refine⟨s.heap.objs.size,_,_,_,_,_,λi=>bs.getD i true,rfl,Walks.list (A:=X.A.in1) (I.ok.hd hc) s.heap.objs.size p hne its.toArray,⟨⟨_,Heap.get?_push_size _ rfl,rfl,rfl⟩,?_⟩,λi v s' Q' E' hp hQ=>?_,λh' tk kk=>?_⟩
 ·obtain⟨o,e,c,n,d⟩:=pl.isList;exact⟨o,Heap.get?_push_of_some _ e,c,n,d⟩
 ·obtain⟨b,hb,rfl⟩:=Sl rv i v (by simpa using hp);have:bs.getD i true=b:=by rw[aw,hb];rfl
  exact bt (this▸hQ)
 ·have e:(aV its.toArray.size).any (λi=>bs.getD i true)=bs.any id:=by rw[aq,<-hl];exact any_range bs
  rw[e];refine⟨.bl (bs.any id),H,I.kept (t':=tk) λb o q=>?_,rfl,q⟩;exact kk b o (by simp;exact Nat.ne_of_lt (Heap.lt_size q)) (Heap.get?_push_of_some _ q)
theorem Eo{prog:Program}{w:World}{d:Addr}(hd:(d==sysModules)=false):MeetsIn prog w (dD.«dict.__len__» {pos:=[.ref d]}) (λ_ R s=>∃xs,MD prog w s.heap d xs/\R (.ok (.ret (.int (xs.length:Nat) s.toks))) {s with toks:=s.toks+1}):=.of_wp λA R s hZ=>by
  obtain⟨xs,⟨o,es,ep,ho,hc,hdat,he,hn⟩,h⟩:=hZ
  have this:es.size=xs.length:=by rw[<-dI,he,lm]
  show wpAny _ _ (dictSize d >>= _) _ _ _;refine ae (ae (dE ho hdat (ai (ae (wpAny_pendingCount_other hd (wpAny_ret_mkInt ?_))))));rw[this];simpa using h
theorem WW:YI X (.builtin "len") (λxs H Q=>∃a kvs,xs=[V.ref a]/\DM X.prog X.w H a kvs/\Q (.int kvs.length) H):=by
 intro pins s σ H xs us Q I r h;obtain⟨a,kvs,rfl,d,q⟩:=h;obtain⟨u,rfl,ru⟩:=vals1 r;cases ru;obtain⟨hs,ys,rel,m,z,his⟩:=d.at I.hok;have hl:=aK rel;have hfit:((ys.length:Nat):Int)<2 ^ 63:=by have:=JM;omega
 refine Calls.call_function_entry kind_len plain_len entry_len (args_len1 _) ?_;unfold Builtin.len;refine ae (ai ?_);refine ae (cg m.typeIs F.slot_dict_len (call_meetsIn F.slot_dict_len m.typeIs F.entry_dict_len (F.args_dict_len_1 _) (Eo hs) ⟨ys,m,?_⟩));show wpAny _ _ (eV _ (asIndex _) >>= _) _ _ _;refine ae (a8 (ai ?_));refine ae (wpAny_letGo ?_);dsimp only;rw[if_neg (by omega),if_neg (by omega)];refine ae (wpAny_mkInt (ai ⟨_,rfl,.int kvs.length,H,(I.tok _).tok _,⟨_,by rw[hl]⟩,q⟩))
end
theorem Ld(its:List Value):slicePick its.toArray none none (some (-1))=its.reverse.toArray:=by
 have hb:dX none none (some (-1)) its.toArray.size=((its.length:Int)-1,-1,-1):=by simp[dX]
 unfold slicePick;rw[hb];have hr:sliceRange ((its.length:Int)-1) (-1) (-1)=(aV its.length).map λk=>its.length-1-k:=by
  unfold sliceRange;have hc:(if(-1:Int)>0 then if(its.length:Int)-1 < -1 then(-1-((its.length:Int)-1) + -1-1) / -1 else 0 else if(its.length:Int)-1 > -1 then(((its.length:Int)-1) - -1 - -1-1) / - -1 else 0).toNat=its.length:=by
   rw[if_neg (by decide)];split
   ·rw[show((its.length:Int)-1 - -1 - -1-1)=its.length by omega,show(- -1:Int)=1 by decide,Int.ediv_one,Int.toNat_natCast]
   ·omega
  show((aV _).map _)=_;rw[hc];refine dR λk hk=>?_;rw[bp]at hk;omega
 rw[hr];congr 1;apply List.ext_getElem?;intro i;have h2:∀l:List Nat,(∀k∈l,k<its.length)->(l.map λk=>its.length-1-k).filterMap (λx=>its.toArray[x]?)=l.map λk=>its.getD (its.length-1-k) .none:=by
  intro l;induction l with
 |nil=>intro _;rfl
 |cons k l ih=>
   intro h;have hk:=h k aG;have:its.length-1-k<its.length:=by omega
   rw[ar,ar,cU,ih λj hj=>h j (av _ hj)];simp[this]
 rw[h2 _ λk hk=>bp.mp hk,aJ];by_cases h:i<its.length
 ·rw[List.getElem?_reverse h,gM h];have h3:its.length-1-i<its.length:=by omega
  simp[h3]
 ·rw[de (by simp;omega),de (by simp;omega)];rfl
def tRev(K:aa)(te ts:TE):TE:=λσ H Q=>te σ H λx H1=>ts σ H1 λy H2=>y=.int (-1)/\∃a xs,x=.ref a/\SqL K H2 a xs/\∀p,H2 p=none->Q (.ref p) (upd H2 p (.lst xs.reverse))
theorem Lh{X:Cx}{e st:Expr}{te ts:TE}{pos p2:Pos}(he:PE X e te)(hs:PE X st ts):PE X (.Subscript e (.Slice none none (some st) p2) pos) (tRev X.K te ts):=by intro pins s σ H Q I h;refine Subscript_ (thn (he pins s σ H _ I h) λv s1 hZ=>?_);obtain⟨x,H1,I1,r1,q1⟩:=hZ;refine wpAny_Slice ?_;rw[evalPart_none,evalPart_some];refine ai (ai (thn (hs pins s1 σ H1 _ I1 q1) λu s3 hZ=>?_));obtain⟨y,H3,I3,r3,ey,a,xs,ex,hx,q⟩:=hZ;subst ey ex;obtain⟨t,rfl⟩:=r3;cases r1;have I4:Inv X pins σ H3 {s3 with heap:=s3.heap.push {cls:=.type "slice",data:=.fields #[.none,.none,.int (-1) t]}}:=I3.kept (t':=s3.toks) λb ob q=>Heap.get?_push_of_some _ q;obtain⟨its,r,ht,hz⟩:=I4.list hx;have hlen:=r.length;show wpAny (model X.prog X.w) X.A (iy e (.Slice none none (some st) p2) (.ref a) (.ref s3.heap.objs.size)) (EP X pins σ Q) X.xe {s3 with heap:=s3.heap.push {cls:=.type "slice",data:=.fields #[.none,.none,.int (-1) t]}};refine tail_any (ops:=[.ref a,.ref s3.heap.objs.size]) ht.isList.typeIs slot_list_getitem.lookup ?_ (by with_unfolding_all rfl);refine wpAny_getItem_list_slice ht.isList (Heap.IsSliceOf.new ..) .none .none (.int (-1) t) (by simp) ?_ (by rw[aq]<;>omega);rw[Ld];refine⟨.ref _,_,I4.laid (t':=s3.toks) (o:=.lst xs.reverse) (λb ob q=>Heap.get?_push_of_some _ q) (Nat.le_refl _) ?_,rfl,q _ (I4.hok.fresh (Nat.le_refl _))⟩;exact⟨by rw[gK];exact hz,_,0,r.reverse,Heap.get?_push_size _ rfl⟩
end L2
namespace SX
open PySem L2 PySem.Spec PyProof.Rows TB WD
def DB(K:aa)(H:Hp)(x:V):Prop:=∃ty,TyOf K H x ty/\aH K ty (.type "tuple")=some false
theorem RF{K:aa}:aH K (.type "tuple") (.type "tuple")=some true:=by kernel_rfl
def Si(T:Tb)(xs:List V):Prop:=∃y∈T.t1,∃i,xs=[.str (nameOf y),.int i]/\0<=i/\i<=T.n
def Kn(K:aa)(C:Addr):Sp:=λvs H Q _=>∃(t:Addr)(x:V)(T:Tb),vs=[.ref t,x]/\Tel H C t T/\OkTb T /\((DB K H x/\Q (.bl false) H)\/∃a xs,x=.ref a/\H a=some (.tup xs)/\xs.length<=1000/\(∀v∈xs,∃T,Th H v T)/\∀b:Bool,(b=true↔Si T xs)->Q (.bl b) H)
theorem QE{z:Str}{kvs:List (Key×V)}{v:V}(h:valV kvs (.inr z)=some v):ZV (.str z) kvs=true:=by show(valV kvs (.inr z)).isSome=true;rw[h];rfl
section
variable {P:Program}{w:World}{K:aa}{mg:Str->Option Value}{base:Heap}{C:Addr}
theorem Nj:FnScope ["table","thing"] ["table","thing"] (Zc T.f_is_spot_of):=scO
theorem L7(B:∀x∈Blts,mg x=none)(Z:TCl K C)(CP:CanM P w K mg base CX0 2 C "is_place" ["self","thing"] (G5 C "room_by_place"))(CI:Can P w K mg base 2 "is_within" ["thing","low","high"] K1.Xb)(D:Df K mg "is_spot_of" T.f_is_spot_of ["table","thing"]):Can P w K mg base 4 "is_spot_of" ["table","thing"] (Kn K C):=by
 refine D.cn Nj λf cdv A outer s H vs Q E hr h=>?_;obtain⟨t,x,T,rfl,tel,ok,h⟩:=h;obtain⟨fs,x1,x2,x3,x4,k5,tp,dd⟩:=tel;obtain⟨l,d,ys,rs,a1,a2,a3,a4,a5⟩:=tp.tab.p;have pd:=dd.p;obtain⟨dx,ht⟩:=tp.tab.tab.at_;refine⟨_,(Za (ZG (PW.pt (JT (ZY (ZT (Xu (c:="tuple") (pv 1) rfl (bm B) rfl (bm B) XE))) (Xh (Zt NG (Zv (r:=rLen K) Z1 rfl (bm B) ba (Ze (pv 1) Zk)) Zb (ZC _))))) (Zd (Zl JU)) Zp) (Zd (Zl (Y3 (Yx CP Z.cl Yl hr.m (pv 0) (Ze (it K (pv 1) Zb) Zk)) (YJ (cn CI hr (Ze (it K (pv 1) Zb) (Ze Zb (Ze (ZZ (pv 0) rfl) Zk))))))))),?_⟩;rcases h with⟨⟨ty,hty,kt⟩,k⟩|⟨a,xs,rfl,ha,hlen,hit,k⟩
 ·refine⟨_,rfl,_,_,_,_,rfl,hty,kt,_,rfl,?_⟩;refine iteT ?_;exact iteT k
 ·refine⟨_,rfl,_,_,_,_,rfl,.tup ha,RF,_,rfl,?_⟩;refine iteF ?_;refine⟨_,rfl,a,_,rfl,.inr (SqT.of ha),rfl,_,rfl,?_⟩;refine XS (λe=>?_) (λe=>?_)
  ·refine k false ⟨λh=>(by cases h),?_⟩;rintro ⟨y,_,i,rfl,_⟩;simp at e
  ·have h2:xs.length=2:=by
    have q:decide (V.int (xs.length:Int)=V.int 2)=true:=by simpa using e
    have q:=of_decide_eq_true q;injection q with q;omega
   obtain⟨u,v,rfl⟩:=len2 h2;obtain⟨T0,th0⟩:=hit u (by simp);obtain⟨T1,th1⟩:=hit v (by simp);refine mthV ht (tp.tab.tab.only _ (by decide +kernel)) (ixT 0 ha rfl ⟨t,u,T0,fs,d,_,rfl,tp.tab.tab,a2,a5,th0,?_⟩);refine⟨_,rfl,?_⟩;cases e2:ZV u k5.1 with
  |false=>refine iteF ?_;refine k false ⟨λh=>(by cases h),?_⟩;rintro ⟨y,hy,i,e3,_⟩;injection e3 with e3 e4;rw[e3,QE (pd.has y hy)]at e2;cases e2
  |true=>
    refine iteT ?_;refine ixT 1 ha rfl ⟨_,rfl,t,C,dx,fs,_,rfl,ht,Z.cl,Z.na _ (by simp[fields]),tp.tab.turns,v,T1,0,T.n,rfl,th1,?_⟩;obtain⟨z,v0,rfl,hv⟩:=Yu e2;refine k _ ⟨λh=>?_,?_⟩
    ·obtain⟨i,rfl,i0,i1⟩:=within_int h;have hm:z∈T.t1.map nameOf:=iB λn=>by rw[pd.no z n]at hv;cases hv
     obtain⟨y,hy,rfl⟩:=ah.mp hm;exact⟨y,hy,i,rfl,i0,i1⟩
    ·rintro ⟨y,hy,i,e3,i0,i1⟩;injection e3 with e3 e4;injection e4 with e4;subst e4;show(decide (0<=i)&&decide (i<=T.n))=true;rw[decide_eq_true i0,decide_eq_true i1];rfl
end
noncomputable abbrev Spt:=Str×Int
noncomputable def nG(g:Str):MK:=.inl (.inr g)
noncomputable def nS(s:Spt):MK:=.inr [.inr s.1,.inl s.2]
noncomputable def YL(gs:List Str)(ss:List Spt):List MK:=gs.map nG++ss.map nS
theorem F6{a b:Str}(h:nG a=nG b):a=b:=by injection h with h;injection h with h
theorem F5{a b:Spt}(h:nS a=nS b):a=b:=by obtain⟨a1,a2⟩:=a;obtain⟨b1,b2⟩:=b;injection h with h;injection h with h1 h2;injection h1 with h1;injection h2 with h2 h3;injection h2 with h2;subst h1 h2;rfl
theorem nGS{a:Str}{b:Spt}:nG a≠nS b:=λh=>by cases h
noncomputable def memK(ks:List MK)(k:MK):Bool:=ks.any λx=>decide (x=k)
theorem Lg{a b:List Int}(h:a.Perm b):a.sum=b.sum:=by
 induction h with
|nil=>rfl
|cons x _ ih=>rw[bZ,bZ,ih]
|swap x y l=>simp only[bZ];omega
|trans _ _ h1 h2=>exact h1.trans h2
section
variable {gs gs':List Str}{ss ss':List Spt}{T:Tb}
theorem Tc:(YL gs ss).Nodup↔gs.Nodup/\ss.Nodup:=by
 unfold YL;rw[di];constructor
 ·rintro ⟨h1,h2,_⟩;exact⟨iL nG (λa b h e=>h (e▸rfl)) h1,iL nS (λa b h e=>h (e▸rfl)) h2⟩
 ·rintro ⟨h1,h2⟩;refine⟨nodup_map_on h1 λx _ y _ e=>F6 e,nodup_map_on h2 λx _ y _ e=>F5 e,λa ha b hb e=>?_⟩;obtain⟨x,_,rfl⟩:=ah.mp ha;obtain⟨y,_,rfl⟩:=ah.mp hb;exact nGS e
def Xl(T:Tb)(s:Spt):Prop:=s.1∈T.t1.map nameOf/\0<=s.2/\s.2<=T.n
structure LnOk(T:Tb)(gs:List Str)(ss:List Spt):Prop where
 g:∀g∈gs,g∈T.t4.map nameOf
 s:∀s∈ss,Xl T s
noncomputable def inN(gs:List Str)(ss:List Spt)(k:MK):Bool:=memK (YL gs ss) k
noncomputable def crs(gs:List Str)(ss:List Spt)(S:Sx):Bool:=inN gs ss (G6 S.tail)&&!inN gs ss (G6 S.head)
noncomputable def rmI(S:Sx):Int:=match S.room with|.int i=>i|_=>0
noncomputable def sumR(gs:List Str)(ss:List Spt)(L:List Sx):Int:=((L.filter (crs gs ss)).map rmI).sum
noncomputable def acr(T:Tb)(gs:List Str)(ss:List Spt):Option Int:=if(T.t4.flatMap (ZK T)).any (crs gs ss)=true then none else some (sumR gs ss (Y5 T))
noncomputable def hmB(T:Tb)(p:Str):Bool:=T.t1.any λy=>decide (nameOf y=p)&&decide (at_ y 1=.non)
noncomputable def Xj(T:Tb)(ss:List Spt)(turn:Int):Bool:=ss.any λs=>hmB T s.1&&decide (s.2<=turn)
noncomputable def byd(T:Tb)(gs:List Str):Int:=((T.t4.filter λy=>!decide (nameOf y∈gs)).map Zz).sum
noncomputable def To(T:Tb)(turn:Int)(gs:List Str)(ss:List Spt):Option Int:=if Xj T ss turn=true then none else(acr T gs ss).map (·+byd T gs)
noncomputable def optV:Option Int->V
|none=>.non
|some i=>.int i
theorem Nz{p:List V->Bool}:∀t:List (List V),(t.map Zz).sum=((t.filter p).map Zz).sum+((t.filter λy=>!p y).map Zz).sum
|[]=>rfl
|y::t=>by
  have h:=Nz (p:=p) t;rw[ar,bZ,h];cases e:p y
  ·rw[cZ (by simp[e]),cY (by simp[e]),ar,bZ];omega
  ·rw[cY (by simp[e]),cZ (by simp[e]),ar,bZ];omega
theorem Aa(o:OkTb T)(nd:gs.Nodup)(hg:∀g∈gs,g∈T.t4.map nameOf){f:Str->Int}(hf:∀y∈T.t4,f (nameOf y)=Zz y):(T.t4.map Zz).sum-(gs.map f).sum=byd T gs:=by
 have ndn:(T.t4.map nameOf).Nodup:=NI o (j:=4) (.inr (.inr (.inr rfl)));have hp:gs.Perm ((T.t4.filter λy=>decide (nameOf y∈gs)).map nameOf):=by
  refine(List.perm_ext_iff_of_nodup nd (ndn.sublist ((List.filter_sublist).map nameOf))).mpr λg=>?_;constructor
  ·intro h;obtain⟨y,hy,rfl⟩:=ah.mp (hg g h);exact ah.mpr ⟨y,bA.mpr ⟨hy,decide_eq_true h⟩,rfl⟩
  ·intro h;obtain⟨y,hy,rfl⟩:=ah.mp h;exact of_decide_eq_true (bA.mp hy).2
 have h1:(gs.map f).sum=((T.t4.filter λy=>decide (nameOf y∈gs)).map Zz).sum:=by rw[Lg (hp.map f),bI];congr 1;refine dR λy hy=>?_;exact hf y (bA.mp hy).1
 have h2:=Nz (p:=λy=>decide (nameOf y∈gs)) T.t4;unfold byd;rw[h1,h2];omega
end
theorem Td{T:Tb}(o:OkTb T){S:Sx}(h:S∈Y5 T):S.room=.int (rmI S):=by
 unfold Y5 at h;simp only[aD,bQ,ah]at h;rcases h with(⟨y,hy,rfl⟩|⟨y,hy,h⟩)|⟨y,hy,h⟩
 ·rfl
 ·obtain⟨m,_,rfl⟩:=ah.mp h;rfl
 ·unfold ZL at h;split at h
  ·cases h
  rename_i hne;obtain⟨m,_,rfl⟩:=ah.mp h;obtain⟨⟨nm,rm⟩,rfl,_⟩:=XQ o hy;cases rm with
 |none=>exact absurd rfl hne
 |some i=>rfl
noncomputable def JL(ks:List MK):List (MK×V):=Qk (ks.map λk=>(k,V.bl true))
theorem Qv:∀(ks:List MK)(kvs:List (MK×V)),(∀k,(valV ((ks.map λk=>(k,V.bl true)).foldl (λkvs p=>putK kvs p.1 p.2) kvs) k).isSome=((valV kvs k).isSome||memK ks k))
|[],kvs,k=>by simp[memK]
|a::ks,kvs,k=>by
  rw[ar,c_,Qv ks,YU];unfold memK;rw[cq];by_cases e:k=a
  ·subst e;simp
  ·rw[if_neg (λz=>e z),decide_eq_false (λz=>e z.symm),Bool.false_or]
theorem LA(ks:List MK)(k:MK):(valV (JL ks) k).isSome=memK ks k:=by unfold JL Qk;rw[Qv];rfl
theorem La{kvs:List (MK×V)}{k:MK}{v:V}:(putK kvs k v).length=if(valV kvs k).isSome=true then kvs.length else kvs.length+1:=by
 unfold putK;rw[Jf];split
 ·rw[lm]
 ·rw[aj];rfl
theorem Ux:∀(ks:List MK)(kvs:List (MK×V)),((ks.map λk=>(k,V.bl true)).foldl (λkvs p=>putK kvs p.1 p.2) kvs).length<=kvs.length+ks.length/\(((ks.map λk=>(k,V.bl true)).foldl (λkvs p=>putK kvs p.1 p.2) kvs).length=kvs.length+ks.length↔ks.Nodup/\∀k∈ks,valV kvs k=none)
|[],kvs=>by simp
|a::ks,kvs=>by
  obtain⟨h1,h2⟩:=Ux ks (putK kvs a (.bl true));rw[ar,c_,aR];dsimp only;have hl:=La (kvs:=kvs) (k:=a) (v:=.bl true);refine⟨by split at hl<;>omega,?_⟩;rw[bz];constructor
  ·intro e;have hn:valV kvs a=none:=by
    cases hv:valV kvs a with
   |none=>rfl
   |some v=>rw[hv,if_pos (by rfl)]at hl;omega
   rw[hn,if_neg (by simp)]at hl;obtain⟨n1,n2⟩:=h2.mp (by omega);refine⟨⟨λhm=>?_,n1⟩,λk hk=>?_⟩
   ·have:=n2 a hm;rw[YU,if_pos rfl]at this;cases this
   ·rcases ao.mp hk with rfl|hk
    ·exact hn
    ·have:=n2 k hk;rw[YU]at this;split at this
     ·cases this
     ·exact this
  ·rintro ⟨⟨n1,n2⟩,n3⟩;have hn:=n3 a aG;rw[hn,if_neg (by simp)]at hl;have:=h2.mpr ⟨n2,λk hk=>by have hz:¬k=a:=λz=>n1 (z▸hk);rw[YU,if_neg hz];exact n3 k (av _ hk)⟩;omega
theorem MW(ks:List MK):(JL ks).length<=ks.length/\((JL ks).length=ks.length↔ks.Nodup):=by obtain⟨h1,h2⟩:=Ux ks [];unfold JL Qk;rw[eQ,Nat.zero_add]at h1 h2;refine⟨h1,h2.trans ⟨λh=>h.1,λh=>⟨h,λ_ _=>rfl⟩⟩⟩
theorem Xx{z:Str}(h:GS z):z.length<=1000:=Nat.le_trans h.1 (by decide)
theorem EK:bF "dict"=some (.type "dict"):=by decide +kernel
structure TA(H:Hp)(C t:Addr)(T:Tb)(dx:Addr)(fs:List (Str×V))(dP dG:Addr)(kP kG:List (Key×V)):Prop where
 tab:Tab H C t fs
 ins:H t=some (.ins C dx fs)
 turns:fs.lookup ("turns":Str)=some (.int T.n)
 p:fs.lookup ("room_by_place":Str)=some (.ref dP)
 pd:H dP=some (.dK kP)
 pk:PlDict kP T.t1
 g:fs.lookup ("group_by_name":Str)=some (.ref dG)
 gd:H dG=some (.dK kG)
 gk:∀y∈T.t4,∃a:Addr,valV kG (.inr (nameOf y))=some (.ref a)/\H a=some (.tup y)
 gn:∀z,z∉T.t4.map nameOf->valV kG (.inr z)=none
 gr:∃l xs,Prt H fs "groups" T.t4 l xs
theorem J5{H:Hp}{C t:Addr}{T:Tb}(h:Tel H C t T):∃dx fs dP dG kP kG,TA H C t T dx fs dP dG kP kG:=by
 obtain⟨fs',pr⟩:=Uo h;obtain⟨dx',ht'⟩:=pr.tab.at_;obtain⟨fs,x1,x2,x3,x4,k,tp,d⟩:=h;obtain⟨dx,ht⟩:=tp.tab.tab.at_;have e:fs'=fs:=by rw[ht]at ht';cases ht';rfl
 subst e;obtain⟨l1,dP,ys1,rs1,a1,a2,a3,a4,a5⟩:=tp.tab.p;obtain⟨l4,dG,ys4,rs4,b1,b2,b3,b4,b5⟩:=tp.tab.g;have rows:=tp.rows _ (.inr (.inr (.inr rfl))) _ _ rfl;refine⟨dx,fs',dP,dG,k.1,k.2.2.2,tp.tab.tab,ht,tp.tab.turns,a2,a5,d.p,b2,b5,λy hy=>?_,d.g.no,pr.g⟩;obtain⟨m,hm⟩:=aY.mp hy;have hl:x4.length=T.t4.length:=by rw[rows.1,lm]
 have hlt:m<T.t4.length:=(ak.mp hm).1;have e1:x4[m]?=some x4[m]:=gE (by omega);obtain⟨a,ea,ha,_⟩:=rows.2 m _ _ e1 (show(T.t4.map some)[m]?=some (some y) by rw[aJ,hm];rfl);exact⟨a,by rw[d.g.at_ m y _ hm e1,ea],ha⟩
section
variable {H H':Hp}{C t dx dP dG:Addr}{T:Tb}{fs:List (Str×V)}{kP kG:List (Key×V)}
theorem TA.same(s:Same H H')(h:TA H C t T dx fs dP dG kP kG):TA H' C t T dx fs dP dG kP kG:=⟨⟨⟨dx,s _ _ h.ins⟩,h.tab.only⟩,s _ _ h.ins,h.turns,h.p,s _ _ h.pd,h.pk,h.g,s _ _ h.gd,λy hy=>let ⟨a,e1,e2⟩:=h.gk y hy;⟨a,e1,s _ _ e2⟩,h.gn,let ⟨l,xs,f1,f2,f3,f4⟩:=h.gr;⟨l,xs,f1,s _ _ f2,f3,λi y hi=>let ⟨a,e1,e2⟩:=f4 i y hi;⟨a,e1,s _ _ e2⟩⟩⟩
noncomputable def isG(T:Tb):V->Bool
|.str z=>decide (z∈T.t4.map nameOf)
|_=>false
theorem TA.isG(h:TA H C t T dx fs dP dG kP kG)(v:V):ZV v kG=SX.isG T v:=by
 cases v with
|str z=>
  show(valV kG (.inr z)).isSome=decide _;by_cases e:z∈T.t4.map nameOf
  ·obtain⟨y,hy,rfl⟩:=ah.mp e;obtain⟨a,ha,_⟩:=h.gk y hy;rw[ha,decide_eq_true e];rfl
  ·rw[h.gn z e,decide_eq_false e];rfl
|_=>rfl
theorem TA.home(h:TA H C t T dx fs dP dG kP kG)(o:OkTb T){z:Str}(hz:z∈T.t1.map nameOf):UA (.str z) kP=hmB T z:=by
 obtain⟨y,hy,rfl⟩:=ah.mp hz;have hv:=h.pk.has y hy;have e1:UA (.str (nameOf y)) kP=decide (at_ y 1=.non):=by show decide (valV kP (.inr (nameOf y))=some .non)=_;rw[hv];by_cases e:at_ y 1=.non<;>simp[e]
 rw[e1];unfold hmB;rw[Bool.eq_iff_iff,bJ,decide_eq_true_iff];constructor
 ·exact λe=>⟨y,hy,by simp[e]⟩
 ·rintro ⟨x,hx,e⟩;rw[Bool.and_eq_true,decide_eq_true_iff,decide_eq_true_iff]at e;have:=NJ (NI o (j:=1) (.inl rfl)) hx hy e.1;rw[<-this];exact e.2
end
theorem kitL{K:aa}{H:Hp}{v:V}{T:String}(h:Th H v T):aH K (.type T) (.type "list")=some (decide (T="list")):=by cases h<;>(unfold aH;first|rfl|decide +kernel|(show _=_;simp;rfl))
def DC(H:Hp)(x:V):Prop:=∃T',Th H x T'/\T'≠"list"
def A0(H:Hp)(x:V):Prop:=∃T',Th H x T'/\T'≠"tuple"
theorem RH{K:aa}:aH K (.type "list") (.type "list")=some true:=by kernel_rfl
def Sg(H:Hp)(v:V):Prop:=A0 H v\/∃p xs,v=.ref p/\H p=some (.tup xs)/\xs.length<=1000 /\(xs.length≠2\/∃x y,xs=[x,y]/\(DC H x\/(∃a zs,x=.ref a/\H a=some (.lst zs))/\DC H y))
def KA:Sp:=λvs H Q _=>∃v,vs=[v]/\((Sg H v/\Q (.bl false) H)\/∃p a b xs ys,v=.ref p/\H p=some (.tup [.ref a,.ref b])/\H a=some (.lst xs)/\H b=some (.lst ys)/\Q (.bl true) H)
def MF(C:Addr):Sp:=λvs H Q _=>∃(t:Addr)(v:V)(T:Tb)(T':String),vs=[.ref t,v]/\Tel H C t T/\Th H v T'/\Q (.bl (K1.Zw v 0 T.n)) H
def Kr(C:Addr):Sp:=λvs H Q _=>∃(t:Addr)(v:V)(T:Tb)(T':String),vs=[.ref t,v]/\Tel H C t T/\Th H v T'/\K1.Zw v 0 T.n=true/\Q .non H
def Kz(C:Addr):Sp:=λvs H Q _=>∃(t:Addr)(T:Tb)(y:List V),vs=[.ref t,.str (nameOf y)]/\Tel H C t T/\OkTb T/\y∈T.t4/\∀a,H a=some (.tup y)->Q (.ref a) H
def EU(C:Addr):Sp:=λvs H Q _=>∃(t:Addr)(T:Tb),vs=[.ref t]/\Tel H C t T/\OkTb T/\∀H',Same H H'->Q (.int (T.t4.map Zz).sum) H'
section
variable {P:Program}{w:World}{K:aa}{mg:Str->Option Value}{base:Heap}{C:Addr}
theorem Rn:FnScope ["table","thing"] ["table","thing"] (Zc T.f_is_turn):=scO
theorem L5(Z:TCl K C)(CI:Can P w K mg base 2 "is_within" ["thing","low","high"] K1.Xb)(D:Df K mg "is_turn" T.f_is_turn ["table","thing"]):Can P w K mg base 3 "is_turn" ["table","thing"] (MF C):=by refine D.cn Rn λf cdv A outer s H vs Q E hr h=>?_;obtain⟨t,v,T,T',rfl,tel,th,k⟩:=h;obtain⟨dx,fs,dP,dG,kP,kG,ta⟩:=J5 tel;refine⟨_,(Zd (Zl (cn CI hr (Ze (pv 1) (Ze Zb (Ze (ZZ (pv 0) rfl) Zk)))))),?_⟩;exact⟨_,rfl,_,rfl,t,C,dx,fs,_,rfl,ta.ins,Z.cl,Z.na _ (by simp[fields]),ta.turns,v,T',0,T.n,rfl,th,k⟩
theorem XH:FnScope ["table","thing"] ["table","thing"] (Zc T.f_refuse_no_turn):=scO
theorem Dd(CT:Can P w K mg base 3 "is_turn" ["table","thing"] (MF C))(D:Df K mg "refuse_no_turn" T.f_refuse_no_turn ["table","thing"]):Can P w K mg base 4 "refuse_no_turn" ["table","thing"] (Kr C):=by refine D.cn XH λf cdv A outer s H vs Q E hr h=>?_;obtain⟨t,v,T,T',rfl,tel,th,hw,k⟩:=h;refine⟨_,(Zd (ZG (ZY (ZT (cn CT hr (Ze (pv 0) (Ze (pv 1) Zk))))) (Zd Jl) Zp)),?_⟩;refine⟨_,rfl,_,rfl,t,v,T,T',rfl,tel,th,_,rfl,?_⟩;rw[hw];exact iteF k
theorem Qg:FnScope ["line"] ["line"] (Zc T.f_has_form):=scO
theorem Dm(B:∀x∈Blts,mg x=none)(D:Df K mg "has_form" T.f_has_form ["line"]):Can P w K mg base 1 "has_form" ["line"] KA:=by
 refine D.cn Qg λf cdv A outer s H vs Q E hr h=>?_;obtain⟨v,rfl,h⟩:=h;refine⟨_,(Za (ZG (PW.pt (JT (ZY (ZT (Xu (c:="tuple") (pv 0) rfl (bm B) rfl (bm B) XE))) (Xh (Zt NG (Zv (r:=rLen K) Z1 rfl (bm B) ba (Ze (pv 0) Zk)) Zb (ZC _))))) (Zd (Zl JU)) Zp) (Zd (Zl (Y3 (Xu (c:="list") (it K (pv 0) Zb) rfl (bm B) rfl (bm B) Xn) (YJ (Xu (c:="list") (it K (pv 0) Zb) rfl (bm B) rfl (bm B) Xn)))))),?_⟩;rcases h with⟨⟨T',th,nt⟩|⟨p,xs,rfl,hp,hl,hx⟩,k⟩|⟨p,a,b,xs,ys,rfl,hp,ha,hb,k⟩
 ·refine⟨_,rfl,_,_,_,_,rfl,th.ty,(by rw[th.kitT,decide_eq_false nt]),_,rfl,?_⟩;refine iteT ?_;exact iteT k
 ·refine⟨_,rfl,_,_,_,_,rfl,.tup hp,RF,_,rfl,?_⟩;refine iteF ?_;refine⟨_,rfl,p,_,rfl,.inr (SqT.of hp),rfl,_,rfl,?_⟩;refine XS (λe=>k) (λe=>?_);have h2:xs.length=2:=by
   have q:decide (V.int (xs.length:Int)=V.int 2)=true:=by simpa using e
   have q:=of_decide_eq_true q;injection q with q;omega
  rcases hx with hx|⟨x,y,rfl,hx⟩
  ·exact absurd h2 hx
  ·rcases hx with⟨T',th,nt⟩|⟨⟨a,zs,rfl,ha⟩,⟨T',th,nt⟩⟩
   ·refine ixT 0 hp rfl ⟨_,_,_,_,rfl,th.ty,(by rw[kitL th,decide_eq_false nt]),_,rfl,?_⟩;exact iteF k
   ·refine ixT 0 hp rfl ⟨_,_,_,_,rfl,.lst ha,RH,_,rfl,?_⟩;refine iteT ?_;exact ixT 1 hp rfl ⟨_,_,_,_,rfl,th.ty,(by rw[kitL th,decide_eq_false nt]),k⟩
 ·refine⟨_,rfl,_,_,_,_,rfl,.tup hp,RF,_,rfl,?_⟩;refine iteF ?_;refine⟨_,rfl,p,_,rfl,.inr (SqT.of hp),rfl,_,rfl,?_⟩;refine iteF ?_;refine ixT 0 hp rfl ⟨_,_,_,_,rfl,.lst ha,RH,_,rfl,?_⟩;refine iteT ?_;exact ixT 1 hp rfl ⟨_,_,_,_,rfl,.lst hb,RH,k⟩
theorem V6:FnScope ["self","name"] ["self","name"] (Zc T.m_Table_group_row):=scO
theorem Dl(Z:TCl K C)(CG:CanM P w K mg base CX0 2 C "is_group" ["self","thing"] (G5 C "group_by_name"))(D:DfM K C "group_row" "Table.group_row" T.m_Table_group_row ["self","name"]):CanM P w K mg base CX0 3 C "group_row" ["self","name"] (Kz C):=by refine D.cn V6 λf cdv A outer s H vs Q E hr h=>?_;obtain⟨t,T,y,rfl,tel,ok,hy,k⟩:=h;obtain⟨dx,fs,dP,dG,kP,kG,ta⟩:=J5 tel;obtain⟨a,e1,e2⟩:=ta.gk y hy;have gs:=(YA ok (j:=4) (.inr (.inr (.inr rfl))) hy).2;refine⟨_,(Za (ZG (ZY (ZT (Yx CG Z.cl Yl hr.m (pv 0) (Ze (pv 1) Zk)))) (Zd Jl) Zp) (Zd (Zl (Px (YS hr) (ZZ (pv 0) rfl) (pv 1) (λ_ _=>rfl))))),?_⟩;refine mthV ta.ins (ta.tab.only _ (by decide +kernel)) ⟨_,rfl,t,.str (nameOf y),"str",fs,dG,kG,rfl,ta.tab,ta.g,ta.gd,.str _ (Xx gs),_,rfl,?_⟩;rw[QE e1];refine iteF ?_;exact⟨_,rfl,t,C,dx,fs,_,rfl,ta.ins,Z.cl,Z.na _ (by simp[fields]),ta.g,_,rfl,dG,_,rfl,(by rw[<-e1];exact DGet.k (k:=cV (nameOf y)) ta.gd),k a e2⟩
end
theorem Ug{α:Type}{J:It}{g:TG}{tc:TT}{te:TE}{τ0:L2.St}{H0:Hp}{R:List V->Hp->Prop}(xs:List α)(hn:xs.length<=sizeLine)(p:α->Bool)(f:α->V)(S:L2.St->Prop)(s0:S τ0)(go:∀i H,i<xs.length->Same H0 H->J.go i H)(stop:∀H,Same H0 H->J.stop xs.length H)(step:∀(i:Nat)x τ v H H',xs[i]?=some x->S τ->Same H0 H->J.yld i H v H'->∀(N1:V->L2.St->Hp->Prop)(N2:L2.St->Hp->Prop),(p x=true->∀τ2 H2,S τ2->Same H0 H2->N1 (f x) τ2 H2)->(p x=false->∀τ2 H2,S τ2->Same H0 H2->N2 τ2 H2) ->g v τ H' λτ2 H2=>tc τ2 H2 λb H3=>if b=true then te τ2 H3 λy H4=>N1 y τ2 H4 else N2 τ2 H3)(hd:∀H,Same H0 H->R ((xs.filter p).map f) H):∃W:Nat->Nat->List V->L2.St->Hp->Prop,(∃m,W 0 m [] τ0 H0)/\∀i m ys τ H,W i m ys τ H ->(J.stop i H/\R ys H) \/(J.go i H/\ys.length<sizeLine/\∃N:List V->L2.St->Hp->Prop,(∀ys' τ' H',N ys' τ' H'->∃m',m'<m/\W (i+1) m' ys' τ' H') /\∀x H',J.yld i H x H'->g x τ H' λτ2 H2=>tc τ2 H2 λb H3=>if b=true then te τ2 H3 λy H4=>N (ys++[y]) τ2 H4 else N ys τ2 H3):=by
 refine JP (J:=J) (g:=g) (tc:=tc) (te:=te) xs.length hn (λi ys τ H=>Same H0 H/\ys=((xs.take i).filter p).map f/\S τ) ⟨Same.refl _,rfl,s0⟩ (λi ys τ H q=>?_) (λi ys τ H hi q=>go i H hi q.1) (λys τ H q=>stop H q.1) (λi ys τ H x H' hi q yl=>?_) (λys τ H q=>?_)
 ·obtain⟨_,rfl,_⟩:=q;rw[lm];exact Nat.le_trans (bO _ _) (by rw[aN];omega)
 ·obtain⟨sm,rfl,st⟩:=q;have e0:xs[i]?=some xs[i]:=gE hi;refine step i xs[i] τ x H H' e0 st sm yl _ _ (λe τ2 H2 s2 m2=>⟨m2,?_,s2⟩) (λe τ2 H2 s2 m2=>⟨m2,?_,s2⟩)
  ·rw[XG _ _ e0,if_pos e,aL];rfl
  ·rw[XG _ _ e0,if_neg (by rw[e];exact Bool.false_ne_true),bB]
 ·obtain⟨sm,rfl,_⟩:=q;rw[aW];exact hd H sm
theorem Y7{α:Type}{J:It}{g:TG}{te:TE}{τ0:L2.St}{H0:Hp}{R:List V->Hp->Prop}(xs:List α)(hn:xs.length<=sizeLine)(f:α->V)(S:L2.St->Prop)(s0:S τ0)(go:∀i H,i<xs.length->Same H0 H->J.go i H)(stop:∀H,Same H0 H->J.stop xs.length H)(step:∀(i:Nat)x τ v H H',xs[i]?=some x->S τ->Same H0 H->J.yld i H v H'->∀(N1:V->L2.St->Hp->Prop),(∀τ2 H2,S τ2->Same H0 H2->N1 (f x) τ2 H2)->g v τ H' λτ2 H2=>te τ2 H2 λy H4=>N1 y τ2 H4)(hd:∀H,Same H0 H->R (xs.map f) H):∃W:Nat->Nat->List V->L2.St->Hp->Prop,(∃m,W 0 m [] τ0 H0)/\∀i m ys τ H,W i m ys τ H ->(J.stop i H/\R ys H) \/(J.go i H/\ys.length<sizeLine/\∃N:List V->L2.St->Hp->Prop,(∀ys' τ' H',N ys' τ' H'->∃m',m'<m/\W (i+1) m' ys' τ' H') /\∀x H',J.yld i H x H'->g x τ H' λτ2 H2=>tYes τ2 H2 λb H3=>if b=true then te τ2 H3 λy H4=>N (ys++[y]) τ2 H4 else N ys τ2 H3):=by
 refine YY (J:=J) (g:=g) (te:=te) xs.length hn (λi ys τ H=>Same H0 H/\ys=(xs.take i).map f/\S τ) ⟨Same.refl _,rfl,s0⟩ (λi ys τ H q=>?_) (λi ys τ H hi q=>go i H hi q.1) (λys τ H q=>stop H q.1) (λi ys τ H x H' hi q yl=>?_) (λys τ H q=>?_)
 ·obtain⟨_,rfl,_⟩:=q;rw[lm,aN];omega
 ·obtain⟨sm,rfl,st⟩:=q;have e0:xs[i]?=some xs[i]:=gE hi;refine step i xs[i] τ x H H' e0 st sm yl _ (λτ2 H2 s2 m2=>⟨m2,?_,s2⟩);rw[bc,e0,aL];rfl
 ·obtain⟨sm,rfl,_⟩:=q;rw[aW];exact hd H sm
theorem Yv{α β:Type}{R:α->β->Prop}{a:List α}{b:List β}(h:bj R a b):∀{i:Nat}{x:α},a[i]?=some x->∃y,b[i]?=some y/\R x y:=by
 induction h with
|nil=>intro i x h;cases h
|cons r _ ih=>
  intro i x h;cases i with
 |zero=>cases h;exact⟨_,rfl,r⟩
 |succ i=>obtain⟨u,h1,h2⟩:=ih (i:=i) (x:=x) (by simpa using h);exact⟨u,by simpa using h1,h2⟩
theorem Zx{n:Nat}(h:n<=1000):n<=sizeLine:=Nat.le_trans h (by decide)
def SpAt(H:Hp)(v:V)(s:Spt):Prop:=∃a:Addr,v=.ref a/\H a=some (.tup [.str s.1,.int s.2])
def IsSp(H:Hp)(T:Tb)(y:V):Prop:=∃a xs,y=.ref a/\H a=some (.tup xs)/\Si T xs
def SpIt(K:aa)(H:Hp)(T:Tb)(y:V):Prop:=(∃T',Th H y T'/\T'≠"tuple")\/∃a xs,y=.ref a/\H a=some (.tup xs)/\xs.length<=1000/\∀v∈xs,∃T,Th H v T
noncomputable def spB(H:Hp)(T:Tb)(y:V):Bool:=@decide (IsSp H T y) (Classical.propDecidable _)
theorem SG{H:Hp}{T:Tb}{y:V}:spB H T y=true↔IsSp H T y:=by unfold spB;exact @decide_eq_true_iff _ (Classical.propDecidable _)
theorem Ag{K:aa}{H:Hp}{y:V}{T':String}(h:Th H y T')(n:T'≠"tuple"):DB K H y:=⟨_,h.ty,by rw[h.kitT,decide_eq_false n]⟩
theorem Kc{H:Hp}{T:Tb}{y:V}{T':String}(h:Th H y T')(n:T'≠"tuple"):¬IsSp H T y:=λ hZ=>by
 obtain⟨a,xs,e,ha,_⟩:=hZ
 subst e;cases h with
|lst e=>rw[e]at ha;cases ha
|tup e=>exact n rfl
|dK e=>rw[e]at ha;cases ha
def Yh(H:Hp)(T:Tb)(v:V)(gs:List Str)(ss:List Spt):Prop:=∃p a b ys,v=.ref p/\H p=some (.tup [.ref a,.ref b])/\H a=some (.lst (gs.map V.str))/\H b=some (.lst ys)/\bj (SpAt H) ys ss/\LnOk T gs ss/\gs.Nodup/\ss.Nodup/\gs.length<=400/\ss.length<=400
def YM(K:aa)(H:Hp)(T:Tb)(v:V):Prop:=Sg H v\/∃p a b xs ys,v=.ref p/\H p=some (.tup [.ref a,.ref b])/\H a=some (.lst xs)/\H b=some (.lst ys)/\xs.length<=450/\ys.length<=450 /\(((∀x∈xs,∃T,Th H x T)/\∃x∈xs,isG T x=false)\/∃gs,xs=gs.map V.str/\(∀g∈gs,g∈T.t4.map nameOf)/\(((∀y∈ys,SpIt K H T y)/\∃y∈ys,¬IsSp H T y)\/∃ss,bj (SpAt H) ys ss/\(∀s∈ss,Xl T s)/\¬(YL gs ss).Nodup))
section
variable {K:aa}{H H':Hp}{T:Tb}{v:V}{gs:List Str}{ss:List Spt}
theorem SpAt.same(s:Same H H'){x:Spt}(h:SpAt H v x):SpAt H' v x:=by obtain⟨a,e,h⟩:=h;exact⟨a,e,s _ _ h⟩
theorem Yh.same(s:Same H H')(h:Yh H T v gs ss):Yh H' T v gs ss:=by obtain⟨p,a,b,ys,e,h1,h2,h3,h4,r⟩:=h;exact⟨p,a,b,ys,e,s _ _ h1,s _ _ h2,s _ _ h3,Paired.mapP h4 λ_ _ q=>q.same s,r⟩
theorem Kk{a:Addr}{x:Spt}(o:Xl T x):Si T [.str x.1,.int x.2]:=by obtain⟨h,h1,h2⟩:=o;obtain⟨y,hy,e⟩:=ah.mp h;exact⟨y,hy,x.2,by rw[e],h1,h2⟩
theorem g_th(o:OkTb T){g:Str}(h:g∈T.t4.map nameOf):Th H (.str g) "str"/\isG T (.str g)=true:=by obtain⟨y,hy,rfl⟩:=ah.mp h;exact⟨.str _ (Xx (YA o (j:=4) (.inr (.inr (.inr rfl))) hy).2),decide_eq_true h⟩
end
theorem SpIt.same{K:aa}{H H':Hp}{T:Tb}{y:V}(s:Same H H')(h:SpIt K H T y):SpIt K H' T y/\(¬IsSp H T y->¬IsSp H' T y):=by
 rcases h with⟨T',th,nt⟩|⟨a,xs,rfl,ha,hl,hi⟩
 ·exact⟨.inl ⟨T',th.same s,nt⟩,λ_=>Kc (th.same s) nt⟩
 ·refine⟨.inr ⟨a,xs,rfl,s _ _ ha,hl,λv hv=>let ⟨T',t⟩:=hi v hv;⟨T',t.same s⟩⟩,λh⟨a2,x2,e,h2,q⟩=>h ⟨a,xs,rfl,ha,?_⟩⟩;cases e;rw[s _ _ ha]at h2;cases h2;exact q
theorem YM.same{K:aa}{H H':Hp}{T:Tb}{v:V}(s:Same H H')(h:YM K H T v):YM K H' T v:=by
 rcases h with nf|⟨p,a,b,xs,ys,e,h1,h2,h3,h4,h5,h6⟩
 ·refine .inl ?_;rcases nf with⟨T',th,nt⟩|⟨p,xs,e,hp,hl,hx⟩
  ·exact .inl ⟨T',th.same s,nt⟩
  ·refine .inr ⟨p,xs,e,s _ _ hp,hl,?_⟩;rcases hx with hx|⟨x,y,e2,⟨T',th,nt⟩|⟨⟨a,zs,e3,ha⟩,T',th,nt⟩⟩
   ·exact .inl hx
   ·exact .inr ⟨x,y,e2,.inl ⟨T',th.same s,nt⟩⟩
   ·exact .inr ⟨x,y,e2,.inr ⟨⟨a,zs,e3,s _ _ ha⟩,T',th.same s,nt⟩⟩
 ·refine .inr ⟨p,a,b,xs,ys,e,s _ _ h1,s _ _ h2,s _ _ h3,h4,h5,?_⟩;rcases h6 with⟨t,bad⟩|⟨gs,e2,hg,⟨it,y,hy,ny⟩|⟨ss,ps,hs,nd⟩⟩
  ·exact .inl ⟨λx hx=>let ⟨T',q⟩:=t x hx;⟨T',q.same s⟩,bad⟩
  ·exact .inr ⟨gs,e2,hg,.inl ⟨λz hz=>((it z hz).same s).1,y,hy,((it y hy).same s).2 ny⟩⟩
  ·exact .inr ⟨gs,e2,hg,.inr ⟨ss,Paired.mapP ps λ_ _ q=>q.same s,hs,nd⟩⟩
def Nr(P:Program)(w:World)(H:Hp)(d:Addr)(gs:List Str)(ss:List Spt):Prop:=DM P w H d (JL (YL gs ss))
def Ku(P:Program)(w:World)(K:aa)(C:Addr):Sp:=λvs H Q _=>∃(t:Addr)(v:V)(T:Tb),vs=[.ref t,v]/\Tel H C t T/\OkTb T /\((YM K H T v/\∀H',Same H H'->Q .non H')\/∃gs ss,Yh H T v gs ss/\∀H' d,Same H H'->Nr P w H' d gs ss->Q (.ref d) H')
section
variable {P:Program}{w:World}{K:aa}{mg:Str->Option Value}{base:Heap}{C:Addr}
theorem JA:FnScope ["table","line","near","node"] ["table","line"] (Zc T.f_near_side):=scO
noncomputable def Vn:Scope:=csx [(".0",.local),("thing",.local),("table",.free)]
theorem UJ:CompScope Vn (Zc T.f_near_side):=⟨rfl,by decide +kernel,by decide +kernel,by decide +kernel⟩
theorem UL:(["thing","table"]:List Str).Nodup:=by decide +kernel
theorem UK:CompNames ["table","line","near","node"] Vn ["thing","table"] [none,some 0]:=.mk' (by decide +kernel)
noncomputable def Vm:Scope:=csx [(".0",.local),("thing",.local),("is_spot_of",.globalImplicit),("table",.free)]
theorem UG:CompScope Vm (Zc T.f_near_side):=⟨rfl,by decide +kernel,by decide +kernel,by decide +kernel⟩
theorem UI:(["thing","table"]:List Str).Nodup:=by decide +kernel
theorem UH:CompNames ["table","line","near","node"] Vm ["thing","table"] [none,some 0]:=.mk' (by decide +kernel)
theorem De(B:∀x∈Blts,mg x=none)(hall:mg "all"=none)(Z:TCl K C)(CF:Can P w K mg base 1 "has_form" ["line"] KA)(CG:CanM P w K mg base CX0 2 C "is_group" ["self","thing"] (G5 C "group_by_name"))(CS:Can P w K mg base 4 "is_spot_of" ["table","thing"] (Kn K C))(D:Df K mg "near_side" T.f_near_side ["table","line"]):Can P w K mg base 5 "near_side" ["table","line"] (Ku P w K C):=by
 refine D.cn JA λf cdv A outer s H vs Q E hr h=>?_;obtain⟨t,v,T,rfl,tel,ok,h⟩:=h;refine' ⟨_,(@Za _ _ _ _ _ ?h11 (@Za _ _ _ _ _ ?h12 (@Za _ _ _ _ _ ?h13 (@Za _ _ _ _ _ ?h14 (@Za _ _ _ _ _ ?h15 (@Zd _ _ _ ?h16)))))),?rd⟩;case' h16=>refine' (Zl (Qn (@Zt _ _ _ _ _ _ _ _ Xw (Zv WW rfl (bm B) ba (@pa1 _ _ _ (pv 2) (by rfl))) (Zo ZI (Zv (r:=rLen K) Z1 rfl (bm B) ba (@pa1 _ _ _ ?h9 (by rfl))) (Zv (r:=rLen K) Z1 rfl (bm B) ba (@pa1 _ _ _ ?h10 (by rfl)))) (ZC _)) (pv 2) ZF))
 case' h15=>refine' (Yc aT rfl (ZW (Zo Z6 ?h6 ?h7)) (nmT 3 JA.nd) (@Zd _ _ _ ?h8))
 case' h14=>refine' (@st _ _ _ _ 2 _ _ JA.nd Ed (by rfl) (by exact aO rfl) (by rfl) (by exact .inl rfl))
 case' h13=>refine' (@ZG _ _ _ _ _ _ _ _ (ZY (ZT (Zv (Nf rfl) rfl hall fB (@pa1 _ _ _ (Z0 rfl UG UH (ZW ?h4) (λC s H ex pn=>(nmT 0 UI)) (λC s H ex pn=>Yp) (λC s H ex pn=>(cn CS hr (Ze (pv 1) (Ze (pv 0) Zk))))) (by rfl))))) (@Zd _ _ _ ?h5) Zp)
 case' h12=>refine' (@ZG _ _ _ _ _ _ _ _ (ZY (ZT (Zv (Nf rfl) rfl hall fB (@pa1 _ _ _ (Z0 rfl UJ UK (ZW ?h2) (λC s H ex pn=>(nmT 0 UL)) (λC s H ex pn=>Yp) (λC s H ex pn=>(Yx CG Z.cl Yl hr.m (pv 1) (Ze (pv 0) Zk)))) (by rfl))))) (@Zd _ _ _ ?h3) Zp)
 case' h11=>refine' (@ZG _ _ _ _ _ _ _ _ (ZY (ZT (cn CF hr (@pa1 _ _ _ (pv 1) (by rfl))))) (@Zd _ _ _ ?h1) Zp)
 case' h10=>refine' (@it _ _ _ _ _ _ K (pv 1) Zb (by rfl) (by exact λ_ _=>rfl))
 case' h9=>refine' (@it _ _ _ _ _ _ K (pv 1) Zb (by rfl) (by exact λ_ _=>rfl))
 case' h8=>refine' (Eb (YS hr) (pv 2) (pv 3) JU rfl)
 case' h7=>refine' (@it _ _ _ _ _ _ K (pv 1) Zb (by rfl) (by exact λ_ _=>rfl))
 case' h6=>refine' (@it _ _ _ _ _ _ K (pv 1) Zb (by rfl) (by exact λ_ _=>rfl))
 case' h5=>refine' (Zl ZF)
 case' h4=>refine' (@it _ _ _ _ _ _ K (pv 1) Zb (by rfl) (by exact λ_ _=>rfl))
 case' h3=>refine' (Zl ZF)
 case' h2=>refine' (@it _ _ _ _ _ _ K (pv 1) Zb (by rfl) (by exact λ_ _=>rfl))
 case' h1=>refine' (Zl ZF)
 case' rd=>
 obtain⟨dx,fs,dP,dG,kP,kG,ta⟩:=J5 tel;have h':(Sg H v/\∀H',Same H H'->Q .non H')\/∃p a b xs ys,v=.ref p/\H p=some (.tup [.ref a,.ref b])/\H a=some (.lst xs)/\H b=some (.lst ys)/\xs.length<=450/\ys.length<=450 /\(((∀x∈xs,∃T,Th H x T)/\(∃x∈xs,isG T x=false)/\∀H',Same H H'->Q .non H')\/∃gs,xs=gs.map V.str/\(∀g∈gs,g∈T.t4.map nameOf)/\(((∀y∈ys,SpIt K H T y)/\(∃y∈ys,¬IsSp H T y)/\∀H',Same H H'->Q .non H')\/∃ss,bj (SpAt H) ys ss/\(∀s∈ss,Xl T s)/\((YL gs ss).Nodup->∀H' d,Same H H'->Nr P w H' d gs ss->Q (.ref d) H')/\(¬(YL gs ss).Nodup->∀H',Same H H'->Q .non H'))):=by
  rcases h with⟨nf|⟨p,a,b,xs,ys,e,h1,h2,h3,h4,h5,h6⟩,k⟩|⟨gs,ss,⟨p,a,b,ys,e,h1,h2,h3,h4,lk,n1,n2,l1,l2⟩,k⟩
  ·exact .inl ⟨nf,k⟩
  ·refine .inr ⟨p,a,b,xs,ys,e,h1,h2,h3,h4,h5,?_⟩;rcases h6 with⟨a1,a2⟩|⟨gs,a1,a2,⟨a3,a4⟩|⟨ss,a3,a4,a5⟩⟩
   ·exact .inl ⟨a1,a2,k⟩
   ·exact .inr ⟨gs,a1,a2,.inl ⟨a3,a4,k⟩⟩
   ·exact .inr ⟨gs,a1,a2,.inr ⟨ss,a3,a4,λz=>absurd z a5,λ_=>k⟩⟩
  ·exact .inr ⟨p,a,b,_,ys,e,h1,h2,h3,by rw[lm];omega,by rw[aK h4];omega,.inr ⟨gs,rfl,lk.g,.inr ⟨ss,h4,lk.s,λ_=>k,λz=>absurd (Tc.mpr ⟨n1,n2⟩) z⟩⟩⟩
 clear h;rcases h' with⟨nf,k⟩|⟨p,a,b,xs,ys,rfl,hp,ha,hb,lx,ly,h⟩
 ·exact⟨_,rfl,v,rfl,.inl ⟨nf,_,rfl,iteT (k H (Same.refl _))⟩⟩
 refine tqr λD0 hk0 hr0=>?_;refine⟨_,rfl,.ref p,rfl,.inr ⟨p,a,b,xs,ys,rfl,hp,ha,hb,_,rfl,iteF (hk0 _ _ ?_)⟩⟩;have hth:∀x∈xs,∃T',Th H x T':=by
  rcases h with⟨h1,_⟩|⟨gs,rfl,hg,_⟩
  ·exact h1
  ·intro x hx;obtain⟨g,hg',rfl⟩:=ah.mp hx;exact⟨_,(g_th ok (hg g hg')).1⟩
 refine tqr λD1 hk1 hr1=>?_;refine ixT 0 hp rfl ⟨a,rfl,⟨_,SqL.of ha⟩,?_⟩;refine Y7 (J:=Itl K a) xs (Zx (by omega)) (λx=>V.bl (isG T x)) (λτ=>∃v1,τ=[v1,some (.ref t)]) ⟨none,rfl⟩ (λi H' hi sm=>⟨_,xs[i],SqL.of (sm _ _ ha),gE hi⟩) (λH' sm=>⟨_,SqL.of (sm _ _ ha),Nat.le_refl _⟩) (λi x τ u H1 H2 hx st sm yl N1 h1=>?_) (λH1 sm l1 hl1=>?_)
 ·obtain⟨v1,rfl⟩:=st;obtain⟨rfl,hy⟩:=yl;have hu:=hy _ (SqL.of (sm _ _ ha));rw[hx]at hu;cases hu;obtain⟨T',th⟩:=hth x (aA hx);have ta1:=ta.same sm;refine mthV ta1.ins (ta1.tab.only _ (by decide +kernel)) ⟨_,rfl,t,x,T',fs,dG,kG,rfl,ta1.tab,ta1.g,ta1.gd,th.same sm,?_⟩;rw[ta1.isG];exact h1 _ _ ⟨_,rfl⟩ sm
 have S1:Same H (upd H1 l1 (.lst (xs.map λx=>V.bl (isG T x)))):=sameNew sm hl1;have e1:upd H1 l1 (.lst (xs.map λx=>V.bl (isG T x))) l1=some (.lst ((xs.map (isG T)).map V.bl)):=by rw[Zf,bI];rfl
 refine⟨l1,xs.map (isG T),rfl,SqL.of e1,_,rfl,?_⟩;generalize upd H1 l1 (.lst (xs.map λx=>V.bl (isG T x)))=H2 at S1 e1 ⊢;clear sm hl1 e1;rcases h with⟨_,⟨x,hx,ex⟩,k⟩|⟨gs,rfl,hg,h⟩
 ·rw[show(xs.map (isG T)).all id=false from by rw[Bool.eq_false_iff];intro z;have:=bg.mp z _ (ah.mpr ⟨x,hx,rfl⟩);rw[ex]at this;cases this];refine iteT ?_;exact hr1 _ _ (k _ S1)
 rw[show((gs.map V.str).map (isG T)).all id=true from by
  rw[bg];intro z hz;obtain⟨x,hx,rfl⟩:=ah.mp hz;obtain⟨g,hg',rfl⟩:=ah.mp hx;exact(g_th (H:=H) ok (hg g hg')).2];refine iteF (hk1 _ _ ?_);refine tqr λD2 hk2 hr2=>?_;have hp2:=S1 _ _ hp;have ha2:=S1 _ _ ha;have hb2:=S1 _ _ hb;refine ixT 1 hp2 rfl ⟨b,rfl,⟨_,SqL.of hb2⟩,?_⟩;have hsp:∀y∈ys,SpIt K H T y:=by
  rcases h with⟨h1,_⟩|⟨ss,ps,hs,_⟩
  ·exact h1
  ·intro y hy;obtain⟨m,hm⟩:=aY.mp hy;obtain⟨z,hz,a',rfl,ha'⟩:=Yv ps hm;obtain⟨hn,_⟩:=hs z (aA hz);obtain⟨yy,hyy,en⟩:=ah.mp hn;refine .inr ⟨a',_,rfl,ha',(by show 2<=1000;decide),λv hv=>?_⟩;simp only[ao,aF,or_false]at hv;rcases hv with rfl|rfl
   ·exact⟨_,.str _ (by rw[<-en];exact Xx (YA ok (j:=1) (.inl rfl) hyy).2)⟩
   ·exact⟨_,.int _⟩
 have tel2:=tel.same S1;refine Y7 (J:=Itl K b) ys (Zx (by omega)) (λy=>V.bl (spB H T y)) (λτ=>∃v1,τ=[v1,some (.ref t)]) ⟨none,rfl⟩ (λi H' hi sm=>⟨_,ys[i],SqL.of (sm _ _ hb2),gE hi⟩) (λH' sm=>⟨_,SqL.of (sm _ _ hb2),Nat.le_refl _⟩) (λi x τ u H3 H4 hx st sm yl N1 h1=>?_) (λH3 sm l3 hl3=>?_)
 ·obtain⟨v1,rfl⟩:=st;obtain⟨rfl,hy⟩:=yl;have hu:=hy _ (SqL.of (sm _ _ hb2));rw[hx]at hu;cases hu;have S13:=S1.trans sm;refine⟨_,rfl,_,rfl,t,x,T,rfl,tel2.same sm,ok,?_⟩;rcases hsp x (aA hx)with⟨T',th,nt⟩|⟨a',zs,rfl,ha',hl',hi'⟩
  ·refine .inl ⟨Ag (th.same S13) nt,?_⟩;have:=h1 ([some x,some (.ref t)]) _ ⟨_,rfl⟩ sm;rw[show spB H T x=false from Bool.eq_false_iff.mpr λz=>Kc th nt (SG.mp z)]at this;exact this
  ·refine .inr ⟨a',zs,rfl,S13 _ _ ha',hl',λv hv=>let ⟨T',th⟩:=hi' v hv;⟨T',th.same S13⟩,λc hc=>?_⟩;have e:c=spB H T (.ref a'):=by
    rw[Bool.eq_iff_iff,hc,SG];constructor
    ·exact λz=>⟨a',zs,rfl,ha',z⟩
    ·rintro ⟨a2,z2,e,h2,q⟩;cases e;rw[ha']at h2;cases h2;exact q
   rw[e];exact h1 _ _ ⟨_,rfl⟩ sm
 have S3:Same H2 (upd H3 l3 (.lst (ys.map λy=>V.bl (spB H T y)))):=sameNew sm hl3;have e3:upd H3 l3 (.lst (ys.map λy=>V.bl (spB H T y))) l3=some (.lst ((ys.map (spB H T)).map V.bl)):=by rw[Zf,bI];rfl
 refine⟨l3,ys.map (spB H T),rfl,SqL.of e3,_,rfl,?_⟩;generalize upd H3 l3 (.lst (ys.map λy=>V.bl (spB H T y)))=H4 at S3 e3 ⊢;clear sm hl3 e3;have S14:=S1.trans S3;rcases h with⟨_,⟨y,hy,ny⟩,k⟩|⟨ss,ps,hs,kg,kb⟩
 ·rw[show(ys.map (spB H T)).all id=false from by rw[Bool.eq_false_iff];intro z;exact ny (SG.mp (bg.mp z _ (ah.mpr ⟨y,hy,rfl⟩)))];refine iteT ?_;exact hr2 _ _ (k _ S14)
 rw[show(ys.map (spB H T)).all id=true from by rw[bg];intro z hz;obtain⟨y,hy,rfl⟩:=ah.mp hz;obtain⟨m,hm⟩:=aY.mp hy;obtain⟨z,hz2,a',rfl,ha'⟩:=Yv ps hm;exact SG.mpr ⟨a',_,rfl,ha',Kk (a:=a') (hs z (aA hz2))⟩];refine iteF (hk2 _ _ ?_);clear hsp hth hr1 hr2 hk1 hk2 tel2;have hp4:=S3 _ _ hp2;have ha4:=S3 _ _ ha2;have hb4:=S3 _ _ hb2;have ps4:=Paired.mapP ps λ_ _ q=>q.same S14;refine tq λD3 hk3=>?_;refine λd od hd dm=>hk3 _ _ ?_;have S5:Same H4 (upd H4 d od):=sameNew (Same.refl _) hd;dsimp only[Zq];rw[show(L2.start (["table","line","near","node"]:List Str) [V.ref t,V.ref p]).set 2 (some (.ref d))=[some (.ref t),some (.ref p),some (.ref d),none]from rfl];generalize upd H4 d od=H5 at S5 dm ⊢;have S15:=S14.trans S5;refine tq λD4 hk4=>?_;refine ixT 0 (S5 _ _ hp4) rfl (ixT 1 (S5 _ _ hp4) rfl ⟨a,b,_,_,rfl,rfl,S5 _ _ ha4,S5 _ _ hb4,Zx (by omega),λl6 h6=>?_⟩);have dm6:=dm.keeps (H':=upd H5 l6 (.lst (gs.map V.str++ys))) (Zg (by obtain⟨z,e,_⟩:=dm;exact Zi e h6)) (λc zs e=>by rw[Zg (Zi e h6)];exact e);have S6:Same H5 (upd H5 l6 (.lst (gs.map V.str++ys))):=sameNew (Same.refl _) h6;have e6:upd H5 l6 (.lst (gs.map V.str++ys)) l6=some (.lst (gs.map V.str++ys)):=Zf;have nd6:d≠l6:=by obtain⟨z,e,_⟩:=dm;exact Zi e h6
 generalize upd H5 l6 (.lst (gs.map V.str++ys))=H6 at dm6 S6 e6 ⊢;have hd1:H d=none:=by
  cases e:H d with
 |none=>rfl
 |some o=>rw[S14 _ _ e]at hd;cases hd
 have S16:=S15.trans S6;have ps6:=Paired.mapP ps λ_ _ q=>q.same S16;have lys:=aK ps;have hkl:(gs.map V.str++ys).length=(YL gs ss).length:=by unfold YL;rw[aj,aj,lm,lm,lm,lys]
 have tot:(YL gs ss).length<=900:=by rw[<-hkl,aj];omega
 have hky:∀(i:Nat)x,(gs.map V.str++ys)[i]?=some x->∃k,(YL gs ss)[i]?=some k/\∀H',(∀c zs,H c=some (.tup zs)->H' c=some (.tup zs))->KyM H' k x:=λi x hx=>by
  unfold YL;rcases Nat.lt_or_ge i (gs.map V.str).length with hi|hi
  ·rw[a_ hi,aJ]at hx;obtain⟨g,hg',rfl⟩:=b_.mp hx;refine⟨nG g,?_,λ_ _=>rfl⟩;rw[a_ (by rw[lm]at hi ⊢;exact hi),aJ,hg'];rfl
  ·rw[a6 hi]at hx;obtain⟨z,hz,a',rfl,ha'⟩:=Yv ps hx;refine⟨nS z,?_,λH' hh=>⟨a',rfl,hh _ _ ha'⟩⟩;rw[lm]at hi hz;rw[a6 (by rw[lm];exact hi),bq,aJ,hz];rfl
 refine⟨l6,rfl,⟨_,SqL.of e6⟩,?_⟩;refine YC (J:=Itl K l6) (gs.map V.str++ys).length (λi σ H'=>(∀c o,H6 c=some o->c≠d->H' c=some o)/\DMw P w H' d (JL ((YL gs ss).take i))/\∃o:Nat->Option V,σ=[some (.ref t),some (.ref p),some (.ref d),o 3]) ?_ (λi σ H' hi q=>⟨_,(gs.map V.str++ys)[i],SqL.of (q.1 _ _ e6 (bo nd6)),gE hi⟩) (λσ H' q=>⟨_,SqL.of (q.1 _ _ e6 (bo nd6)),Nat.le_refl _⟩) (λi σ H7 x H8 hi q yl=>?_) (λσ H7 q=>?_)
 ·exact⟨λc o e _=>e,dm6,shp rfl⟩
 ·obtain⟨kp,dm7,o,rfl⟩:=q;obtain⟨rfl,hy⟩:=yl;have hx:=hy _ (SqL.of (kp _ _ e6 (bo nd6)));obtain⟨k',hk',ky⟩:=hky i x hx;dsimp only[Zq,ay];refine td λD' hdd=>?_;refine⟨_,rfl,_,rfl,d,_,k',rfl,dm7,ky _ (λc zs e=>kp _ _ (S16 _ _ e) (Zi e hd1)),?_,λo' dm8=>hdd _ _ ⟨λc u e hc=>?_,?_,shp rfl⟩⟩
  ·have:=(MW ((YL gs ss).take i)).1;rw[aN]at this;exact Nat.lt_of_le_of_lt (by omega:_<=999) (by decide)
  ·rw[Zg hc];exact kp c u e hc
  ·rw[bc,hk'];unfold JL Qk at dm8 ⊢;rw[aL,ij];exact dm8
 ·obtain⟨kp,dm7,o,rfl⟩:=q;rw[hkl,aW]at dm7;have hd6:∀{c:Addr}{u:HO},H c=some u->H7 c=some u:=λe=>kp _ _ (S16 _ _ e) (Zi e hd1);refine hk4 _ _ ?_;refine⟨_,rfl,d,_,rfl,dm7.rd,ixT 0 (hd6 hp) rfl ⟨a,_,rfl,.inl (SqL.of (hd6 ha)),ixT 1 (hd6 hp) rfl ⟨b,_,rfl,.inl (SqL.of (hd6 hb)),_,_,rfl,rfl,rfl,_,rfl,?_⟩⟩⟩;have hll:((gs.map V.str).length:Int)+(ys.length:Int)=((YL gs ss).length:Nat):=by rw[<-hkl,aj];push_cast;rfl
  dsimp only;refine ite2 (λe=>?_) (λe=>?_)
  ·have e':=of_decide_eq_true e;injection e' with e';exact⟨_,rfl,kg ((MW _).2.mp (by omega)) _ d (λc u e=>hd6 e) dm7.rd⟩
  ·refine kb (λz=>e (decide_eq_true ?_)) _ λc u e=>hd6 e;have:=(MW _).2.mpr z;exact congrArg V.int (by omega)
end
end SX
namespace L2
open PySem PySem.Spec PyProof.Rows
theorem SY{X:Cx}{P:Program}{w:World}(hP:X.prog=P)(hw:X.w=w)(hu:X.A.units+1<cLine):OpR X (br .In) (rInM P w):=by subst hP hw;exact FU hu
theorem JI{X:Cx}{P:Program}{w:World}(hP:X.prog=P)(hw:X.w=w)(hu:X.A.units+1<cLine):OpR X (br .NotIn) (SM P w):=by subst hP hw;exact Wb hu
theorem DM.same{P:Program}{w:World}{H H':Hp}{a:Addr}{kvs:List (MK×V)}(s:Same H H')(d:DM P w H a kvs):DM P w H' a kvs:=by
 obtain⟨xs,r,km,z⟩:=d;refine⟨xs,?_,km.keeps λb ys e=>s _ _ e,z⟩;rcases r with r|⟨o,r⟩
 ·exact .inl (s _ _ r)
 ·exact .inr ⟨o,s _ _ r⟩
theorem Lk{X:Cx}{e:Expr}{T:Nat->TE}(h:∀j,j<4->PE X e (T j)):PE X e (λσ H Q=>∃j,j<4/\T j σ H Q):=λpins s σ H Q I⟨j,hj,q⟩=>h j hj pins s σ H Q I q
end L2
namespace SX
open PySem L2 PySem.Spec PyProof.Rows TB WD
theorem Nr.same{P:Program}{w:World}{H H':Hp}{d:Addr}{gs:List Str}{ss:List Spt}(s:Same H H')(h:Nr P w H d gs ss):Nr P w H' d gs ss:=DM.same s h
theorem VE(gs:List Str)(ss:List Spt)(k:MK):(valV (JL (YL gs ss)) k).isSome=inN gs ss k:=LA _ _
theorem Mb{α:Type}(c:Bool)(f:α->Bool):∀l:List α,l.any (λx=>c&&f x)=(c&&l.any f)
|[]=>by simp
|a::l=>by rw[cq,cq,Mb c f l];cases c<;>simp
def ET(P:Program)(w:World)(C:Addr):Sp:=λvs H Q _=>∃(t d r:Addr)(T:Tb)(y:List V)(gs:List Str)(ss:List Spt),vs=[.ref t,.ref d,.ref r]/\Tel H C t T/\OkTb T/\Nr P w H d gs ss/\H r=some (.tup y)/\y∈T.t4/\∀H',Same H H'->Q (.bl ((ZK T y).any (crs gs ss))) H'
def P9(K:aa)(C:Addr):Sp:=λvs H Q _=>∃(t:Addr)(v:V)(T:Tb),vs=[.ref t,v]/\Tel H C t T/\OkTb T /\((YM K H T v/\∀H',Same H H'->Q .non H')\/∃gs ss,Yh H T v gs ss/\∀H',Same H H'->Q (optV (acr T gs ss)) H')
section
variable {P:Program}{w:World}{K:aa}{mg:Str->Option Value}{base:Heap}{C:Addr}{Cs:Nat->Addr}
theorem Mc:FnScope ["self"] ["self"] (Zc T.m_Table_people):=scO
noncomputable def XY:Scope:=csx [(".0",.local),("row",.local)]
theorem Vt:CompScope XY (Zc T.m_Table_people):=⟨rfl,by decide +kernel,by decide +kernel,by decide +kernel⟩
theorem Vv:(["row"]:List Str).Nodup:=by decide +kernel
theorem Vu:CompNames ["self"] XY ["row"] [none]:=.mk' (by decide +kernel)
theorem EF(B:∀x∈Blts,mg x=none)(Z:TCl K C)(D:DfM K C "people" "Table.people" T.m_Table_people ["self"]):CanM P w K mg base CX0 1 C "people" ["self"] (EU C):=by
 refine D.cn Mc λf cdv A outer s H vs Q E hr h=>?_;obtain⟨t,T,rfl,tel,ok,k⟩:=h;obtain⟨dx,fs,dP,dG,kP,kG,ta⟩:=J5 tel;obtain⟨l,xs,f1,f2,f3,f4⟩:=ta.gr;refine⟨_,(Zd (Zl (Zv (VP rfl) rfl (bm B) dY (Ze (Z0 rfl Vt Vu (MR (ZZ (pv 0) rfl)) (λC s H ex pn=>(nmT 0 Vv)) (λC s H ex pn=>Yp) (λC s H ex pn=>(it K (pv 0) Zb))) Zk)))),?_⟩;refine⟨_,rfl,t,C,dx,fs,_,rfl,ta.ins,Z.cl,Z.na _ (by simp[fields]),f1,l,rfl,⟨_,SqT.of f2⟩,?_⟩;refine Y7 (J:=Itt K l) T.t4 (Nat.le_trans (Xv ok).2.2.2 (by decide)) (λy=>V.int (Zz y)) (λτ=>∃v1,τ=[v1]) ⟨none,rfl⟩ (λi H' hi sm=>⟨xs,xs[i]'(by omega),SqT.of (sm _ _ f2),gE _⟩) (λH' sm=>⟨xs,SqT.of (sm _ _ f2),by omega⟩) (λi y τ u H1 H2 hx st sm yl N1 h1=>?_) (λH1 sm l1 hl1=>?_)
 ·obtain⟨v1,rfl⟩:=st;obtain⟨rfl,hy⟩:=yl;have hu:=hy _ (SqT.of (sm _ _ f2));obtain⟨a,ea,ha⟩:=f4 i y hx;rw[ea]at hu;cases hu;obtain⟨a1,b1,c1,d1,rfl,_⟩:=XJ ok (aA hx);exact ixT 3 (sm _ _ ha) rfl (h1 _ _ ⟨_,rfl⟩ sm)
 ·exact⟨l1,T.t4.map Zz,rfl,SqL.of (by rw[Zf,bI];rfl),k _ (sameNew sm hl1)⟩
theorem V5:FnScope ["table","near","row"] ["table","near","row"] (Zc T.f_set_out_crosses):=scO
noncomputable def Xf:Scope:=csx [(".0",.local),("turn",.local),("near",.free),("row",.free)]
theorem Js:CompScope Xf (Zc T.f_set_out_crosses):=⟨rfl,by decide +kernel,by decide +kernel,by decide +kernel⟩
theorem Ju:(["turn","near","row"]:List Str).Nodup:=by decide +kernel
theorem Jt:CompNames ["table","near","row"] Xf ["turn","near","row"] [none,some 1,some 2]:=.mk' (by decide +kernel)
theorem EE(B:∀x∈Blts,mg x=none)(hany:mg "any"=none)(Z:TCl K C)(D:Df K mg "set_out_crosses" T.f_set_out_crosses ["table","near","row"]):Can P w K mg base 1 "set_out_crosses" ["table","near","row"] (ET P w C):=by
 refine D.cn V5 λf cdv A outer s H vs Q E hr h=>?_;obtain⟨t,d,r,T,y,gs,ss,rfl,tel,ok,nr,hy,my,k⟩:=h;obtain⟨dx,fs,dP,dG,kP,kG,ta⟩:=J5 tel;refine⟨_,(Za (ZG (Zt (JI (P:=P) (w:=w) rfl rfl (YS hr)) (it K (pv 2) Zb) (pv 1) (by with_unfolding_all rfl)) (Zd (Zl JU)) Zp) (Zd (Zl (Zv (UW rfl) rfl hany dZ (Ze (Z0 rfl Js Jt (Xp rfl (bm B) (Ze (it K (pv 2) Zb) (Ze (Zo ZI (ZZ (pv 0) rfl) Zb) Zk))) (λC s H ex pn=>(nmT 0 Ju)) (λC s H ex pn=>Yp) (λC s H ex pn=>(YE (JI (P:=P) (w:=w) rfl rfl (YS hr)) (Zu (Ze (it K (pv 2) Zb) (Ze (pv 0) Zk))) (pv 1) (by with_unfolding_all rfl)))) Zk))))),?_⟩;obtain⟨a1,b1,c1,d1,rfl,_,_,c0,c2,_⟩:=XJ ok my;have n1:=ok.n1;have eo:(ZK T [.str a1,.str b1,.int c1,.int d1]).any (crs gs ss)=(inN gs ss (nG a1)&&(aV (T.n+1-c1).toNat).any λm=>!inN gs ss (nS (b1,c1+(m:Int)))):=by rw[<-Mb,show ZK T [.str a1,.str b1,.int c1,.int d1]=(aV (T.n+1-c1).toNat).map λ(m:Nat)=>outS [.str a1,.str b1,.int c1,.int d1] (c1+m)from rfl,ie];rfl
 rw[eo]at k;refine ixT 0 hy rfl ⟨_,rfl,d,_,nG a1,rfl,nr,rfl,_,rfl,?_⟩;rw[VE];cases e:inN gs ss (nG a1)with
|false=>rw[e]at k;exact iteT (k _ (Same.refl _))
|true=>
  rw[e,Bool.true_and]at k;refine iteF ?_;refine ixT 2 hy rfl ⟨_,rfl,t,C,dx,fs,_,rfl,ta.ins,Z.cl,Z.na _ (by simp[fields]),ta.turns,_,_,rfl,rfl,c1,T.n+1,rfl,⟨by omega,by omega,by omega,by omega⟩,?_⟩;refine Y7 (J:=Itr c1 (T.n+1-c1).toNat) (aV (T.n+1-c1).toNat) (by rw[bf];exact Zx (by omega)) (λm=>V.bl (!inN gs ss (nS (b1,c1+(m:Int))))) (λτ=>∃v1,τ=[v1,some (.ref d),some (.ref r)]) ⟨none,rfl⟩ (λi H' hi sm=>by rw[bf]at hi;exact hi) (λH' sm=>by rw[bf];exact Nat.le_refl _) (λi m τ u H1 H2 hx st sm yl N1 h1=>?_) (λH1 sm l1 hl1=>?_)
  ·obtain⟨v1,rfl⟩:=st;obtain⟨rfl,rfl⟩:=yl;have hm:m=i:=by
    have hi:i<(T.n+1-c1).toNat:=by have:=(ak.mp hx).1;rwa [bf]at this
    rw[gM hi]at hx;exact(au hx).symm
   subst hm;refine ixT 1 (sm _ _ hy) rfl ⟨_,rfl,Zx (by show 2<=1000;decide),λq hq=>?_⟩;have S2:Same H (upd H2 q (.tup [.str b1,.int (c1+m)])):=sameNew sm hq;refine⟨_,rfl,d,_,nS (b1,c1+m),rfl,nr.same S2,⟨q,rfl,Zf⟩,?_⟩;rw[VE];exact h1 _ _ ⟨_,rfl⟩ S2
  ·refine⟨l1,(aV (T.n+1-c1).toNat).map λ(m:Nat)=>!inN gs ss (nS (b1,c1+(m:Int))),rfl,SqL.of (by rw[Zf,bI];rfl),?_⟩;rw[ie];exact k _ (sameNew sm hl1)
theorem JS:FnScope ["table","line","near"] ["table","line"] (Zc T.f_rooms_across):=scO
noncomputable def XW:Scope:=csx [(".0",.local),("row",.local),("set_out_crosses",.globalImplicit),("near",.free),("table",.free)]
theorem Vj:CompScope XW (Zc T.f_rooms_across):=⟨rfl,by decide +kernel,by decide +kernel,by decide +kernel⟩
theorem Vl:(["row","near","table"]:List Str).Nodup:=by decide +kernel
theorem Vk:CompNames ["table","line","near"] XW ["row","near","table"] [none,some 2,some 0]:=.mk' (by decide +kernel)
noncomputable def XU:Scope:=csx [(".0",.local),("step",.local),("near",.free)]
theorem Vg:CompScope XU (Zc T.f_rooms_across):=⟨rfl,by decide +kernel,by decide +kernel,by decide +kernel⟩
theorem Vi:(["step","near"]:List Str).Nodup:=by decide +kernel
theorem Vh:CompNames ["table","line","near"] XU ["step","near"] [none,some 2]:=.mk' (by decide +kernel)
theorem EJ(B:∀x∈Blts,mg x=none)(hany:mg "any"=none)(Z:TCl K C)(ZS:∀j,j<4->SCl K (Cs j))(CN:Can P w K mg base 5 "near_side" ["table","line"] (Ku P w K C))(CO:Can P w K mg base 1 "set_out_crosses" ["table","near","row"] (ET P w C))(CM:Can P w K mg base 5 "moves_of" ["table"] (Vz C Cs Y5))(M2:∀j,j<4->CanM P w K mg base CX0 1 (Cs j) "tail" ["self"] (MG K "its_tail"))(M3:∀j,j<4->CanM P w K mg base CX0 1 (Cs j) "head" ["self"] (MG K "its_head"))(M4:∀j,j<4->CanM P w K mg base CX0 1 (Cs j) "room" ["self"] (MG K "its_room"))(D:Df K mg "rooms_across" T.f_rooms_across ["table","line"]):Can P w K mg base 6 "rooms_across" ["table","line"] (P9 K C):=by
 refine D.cn JS λf cdv A outer s H vs Q E hr h=>?_;obtain⟨t,v,T,rfl,tel,ok,h⟩:=h;refine' ⟨_,(@Za _ _ _ _ _ ?h2 (@Za _ _ _ _ _ ?h3 (@Zd _ _ _ ?h4))),?rd⟩;case' h4=>refine' (Zl (Zv (VP rfl) rfl (bm B) dY (@pa1 _ _ _ (Z0 rfl Vg Vh (ZW (cn CM hr (@pa1 _ _ _ (pv 0) (by rfl)))) (λC s H ex pn=>(nmT 0 Vi)) (λC s H ex pn=>(Y9 (PW.pt (U8 (Zt (SY (P:=P) (w:=w) rfl rfl (YS hr)) (Lk λj hj=>Uw (M2 j hj) (ZS j hj).cl Yl hr.m (pv 0)) (pv 1) (by with_unfolding_all rfl)) (VA (Zt (JI (P:=P) (w:=w) rfl rfl (YS hr)) (Lk λj hj=>Uw (M3 j hj) (ZS j hj).cl Yl hr.m (pv 0)) (pv 1) (by with_unfolding_all rfl))))))) (λC s H ex pn=>(Lk λj hj=>Uw (M4 j hj) (ZS j hj).cl Yl hr.m (pv 0)))) (by rfl))))
 case' h3=>refine' (@ZG _ _ _ _ _ _ _ _ (PW.pt (JT (@Zt _ _ _ _ _ _ _ _ X3 (pv 2) ZF (ZC _)) (Xh (ZT (Zv (UW rfl) rfl hany dZ (@pa1 _ _ _ (Z0 rfl Vj Vk (MR (ZZ (pv 0) rfl)) (λC s H ex pn=>(nmT 0 Vl)) (λC s H ex pn=>Yp) (λC s H ex pn=>(cn CO hr (Ze (pv 2) (Ze (pv 1) (Ze (pv 0) Zk)))))) (by rfl))))))) (@Zd _ _ _ ?h1) Zp)
 case' h2=>refine' (@Yn _ _ 2 _ _ _ _ JS.nd (by rfl) (by exact dC rfl) (cn CN hr (@pa2 _ _ _ _ _ (pv 0) (pv 1) (by rfl))) (by rfl) (by exact aO rfl))
 case' h1=>refine' (Zl ZF)
 case' rd=>
 rcases h with⟨bad,k⟩|⟨gs,ss,good,k⟩
 ·refine⟨_,rfl,_,rfl,t,v,T,rfl,tel,ok,.inl ⟨bad,λH1 S1=>?_⟩⟩;dsimp only[Zq,ay];refine⟨_,rfl,rfl,_,rfl,?_⟩;refine iteT ?_;exact iteT (k _ S1)
 refine tqr λD0 hk0 hr0=>?_;refine⟨_,rfl,_,rfl,t,v,T,rfl,tel,ok,.inr ⟨gs,ss,good,λH1 d S1 nr=>hk0 _ _ ?_⟩⟩;dsimp only[Zq];rw[show(L2.start (["table","line","near"]:List Str) [V.ref t,v]).set 2 (some (.ref d))=[some (.ref t),some v,some (.ref d)]from rfl];clear hk0 hr0;obtain⟨dx,fs,dP,dG,kP,kG,ta⟩:=J5 (tel.same S1);obtain⟨l,xs,f1,f2,f3,f4⟩:=ta.gr;refine tqr λD1 hk1 hr1=>?_;refine⟨_,rfl,rfl,_,rfl,?_⟩;refine iteF ?_;refine⟨_,rfl,t,C,dx,fs,_,rfl,ta.ins,Z.cl,Z.na _ (by simp[fields]),f1,l,rfl,⟨_,SqT.of f2⟩,?_⟩;refine Y7 (J:=Itt K l) T.t4 (Nat.le_trans (Xv ok).2.2.2 (by decide)) (λy=>V.bl ((ZK T y).any (crs gs ss))) (λτ=>∃v1,τ=[v1,some (.ref d),some (.ref t)]) ⟨none,rfl⟩ (λi H' hi sm=>⟨xs,xs[i]'(by omega),SqT.of (sm _ _ f2),gE _⟩) (λH' sm=>⟨xs,SqT.of (sm _ _ f2),by omega⟩) (λi y τ u H2 H3 hx st sm yl N1 h1=>?_) (λH2 sm l1 hl1=>?_)
 ·obtain⟨v1,rfl⟩:=st;obtain⟨rfl,hy⟩:=yl;have hu:=hy _ (SqT.of (sm _ _ f2));obtain⟨a,ea,ha⟩:=f4 i y hx;rw[ea]at hu;cases hu;exact⟨_,rfl,_,rfl,_,rfl,t,d,a,T,y,gs,ss,rfl,(tel.same S1).same sm,ok,nr.same sm,sm _ _ ha,aA hx,λH' s'=>h1 _ _ ⟨_,rfl⟩ (sm.trans s')⟩
 have S2:Same H1 (upd H2 l1 (.lst (T.t4.map λy=>V.bl ((ZK T y).any (crs gs ss))))):=sameNew sm hl1;have e2:upd H2 l1 (.lst (T.t4.map λy=>V.bl ((ZK T y).any (crs gs ss)))) l1=some (.lst ((T.t4.map λy=>(ZK T y).any (crs gs ss)).map V.bl)):=by rw[Zf,bI];rfl
 refine⟨l1,_,rfl,SqL.of e2,_,rfl,?_⟩;generalize upd H2 l1 (.lst (T.t4.map λy=>V.bl ((ZK T y).any (crs gs ss))))=H3 at S2 e2 ⊢;have S13:=S1.trans S2;have eo:(T.t4.map λy=>(ZK T y).any (crs gs ss)).any id=(T.t4.flatMap (ZK T)).any (crs gs ss):=by rw[ie,List.any_flatMap];rfl
 rw[eo];unfold acr at k;cases e:(T.t4.flatMap (ZK T)).any (crs gs ss)with
|true=>rw[e,if_pos rfl]at k;exact iteT (hr1 _ _ (k _ S13))
|false=>
  rw[e,if_neg Bool.false_ne_true]at k;refine iteF (hk1 _ _ ?_);have nr3:=nr.same S2;refine⟨_,rfl,t,T,rfl,tel.same S13,ok,λH4 p vs S4 hp ep sl=>?_⟩;replace sl:StL H4 Cs T vs (Y5 T):=sl;have ll:=sl.len;have lm:(Y5 T).length<=3000:=by have pl:=Uu ok;unfold Y5;rw[aj,aj];omega
  refine⟨p,rfl,⟨_,SqL.of ep⟩,?_⟩;refine Ug (J:=Itl K p) (te:=λσ H Q=>∃j,j<4/\Ny (Cs j) "room" (MG K "its_room") [] E0 (tVar 0) tNil σ H Q) (Y5 T) (Nat.le_trans lm (by decide)) (crs gs ss) (λS=>V.int (rmI S)) (λτ=>∃v1,τ=[v1,some (.ref d)]) ⟨none,rfl⟩ (λi H' hi sm=>⟨vs,vs[i]'(by omega),SqL.of (sm _ _ ep),gE _⟩) (λH' sm=>⟨vs,SqL.of (sm _ _ ep),by omega⟩) (λi S τ u H5 H6 hx st sm yl N1 N2 h1 h2=>?_) ?_
  ·obtain⟨v1,rfl⟩:=st;obtain⟨rfl,hy⟩:=yl;have hu:=hy _ (SqL.of (sm _ _ ep));obtain⟨x',ex,q,j,rfl,sa,is⟩:=JF sl hx;rw[ex]at hu;cases hu;obtain⟨dy,ky,vt,vh,g1,g2,g3,g4⟩:=sa.same sm;have hj4:=is.key.2;obtain⟨nt,nh⟩:=Ta is;have nr5:=nr3.same (S4.trans sm);refine⟨_,hj4,_,rfl,q,dy,_,rfl,g1,rfl,q,_,dy,_,vt,rfl,ZS _ hj4,g1,rfl,_,rfl,d,_,_,rfl,nr5,Mp nt g3,_,rfl,?_⟩;rw[VE];have hcr:crs gs ss S=(inN gs ss (G6 S.tail)&&!inN gs ss (G6 S.head)):=rfl;cases e1:inN gs ss (G6 S.tail)with
  |false=>rw[e1,Bool.false_and]at hcr;exact iteF (iteF (h2 hcr _ _ ⟨_,rfl⟩ sm))
  |true=>rw[e1,Bool.true_and]at hcr;refine iteT ?_;refine⟨_,hj4,_,rfl,q,dy,_,rfl,g1,rfl,q,_,dy,_,vh,rfl,ZS _ hj4,g1,rfl,_,rfl,d,_,_,rfl,nr5,Mp nh g4,_,rfl,?_⟩;rw[VE];refine XS (λz=>?_) (λz=>h2 (hcr.trans z) _ _ ⟨_,rfl⟩ sm);refine⟨_,hj4,_,rfl,q,dy,_,rfl,g1,rfl,q,_,dy,_,S.room,rfl,ZS _ hj4,g1,rfl,?_⟩;rw[Td ok (aA hx)];exact h1 (hcr.trans z) _ _ ⟨_,rfl⟩ sm
  ·intro H5 sm l2 hl2;exact⟨l2,((Y5 T).filter (crs gs ss)).map rmI,rfl,SqL.of (by rw[Zf,bI];rfl),k _ (S13.trans (S4.trans (sameNew sm hl2)))⟩
noncomputable def mOfG(T:Tb)(g:Str):Int:=match T.t4.find? λy=>decide (nameOf y=g)with|some y=>Zz y|none=>0
theorem Tf{T:Tb}(o:OkTb T){y:List V}(hy:y∈T.t4):mOfG T (nameOf y)=Zz y:=by
 unfold mOfG;cases e:T.t4.find? λx=>decide (nameOf x=nameOf y)with
|none=>have:=List.find?_eq_none.mp e y hy;simp at this
|some z=>have h1:=List.mem_of_find?_eq_some e;have h2:=List.find?_some e;rw[NJ (NI o (j:=4) (.inr (.inr (.inr rfl)))) h1 hy (of_decide_eq_true h2)]
def KC(C:Addr):Sp:=λvs H Q _=>∃(t:Addr)(v:V)(T:Tb)(gs:List Str)(ss:List Spt),vs=[.ref t,v]/\Tel H C t T/\OkTb T/\Yh H T v gs ss/\∀H',Same H H'->Q (.int (byd T gs)) H'
def Rh(K:aa)(C:Addr):Sp:=λvs H Q _=>∃(t:Addr)(i:Int)(v:V)(T:Tb),vs=[.ref t,.int i,v]/\Tel H C t T/\OkTb T/\0<=i/\i<=T.n /\((YM K H T v/\∀H',Same H H'->Q .non H')\/∃gs ss,Yh H T v gs ss/\∀H',Same H H'->Q (optV (To T i gs ss)) H')
theorem U4:FnScope ["table","line"] ["table","line"] (Zc T.f_people_beyond):=scO
noncomputable def XA:Scope:=csx [(".0",.local),("name",.local),("table",.free)]
theorem JX:CompScope XA (Zc T.f_people_beyond):=⟨rfl,by decide +kernel,by decide +kernel,by decide +kernel⟩
theorem JZ:(["name","table"]:List Str).Nodup:=by decide +kernel
theorem JY:CompNames ["table","line"] XA ["name","table"] [none,some 0]:=.mk' (by decide +kernel)
theorem EI(B:∀x∈Blts,mg x=none)(Z:TCl K C)(CP:CanM P w K mg base CX0 1 C "people" ["self"] (EU C))(CR:CanM P w K mg base CX0 3 C "group_row" ["self","name"] (Kz C))(D:Df K mg "people_beyond" T.f_people_beyond ["table","line"]):Can P w K mg base 4 "people_beyond" ["table","line"] (KC C):=by
 refine D.cn U4 λf cdv A outer s H vs Q E hr h=>?_;obtain⟨t,v,T,gs,ss,rfl,tel,ok,good,k⟩:=h;refine' ⟨_,(@Zd _ _ _ ?h2),?rd⟩;case' h2=>refine' (Zl (Zo XZ (Uw CP Z.cl Yl hr.m (pv 0)) (Zv (VP rfl) rfl (bm B) dY (@pa1 _ _ _ (Z0 rfl JX JY (ZW ?h1) (λC s H ex pn=>(nmT 0 JZ)) (λC s H ex pn=>Yp) (λC s H ex pn=>(it K (Yx CR Z.cl Yl hr.m (pv 1) (Ze (pv 0) Zk)) Zb))) (by rfl)))))
 case' h1=>refine' (@it _ _ _ _ _ _ K (pv 1) Zb (by rfl) (by exact λ_ _=>rfl))
 case' rd=>
 obtain⟨dx,fs,dP,dG,kP,kG,ta⟩:=J5 tel;obtain⟨p,a,b,ys,rfl,hp,ha,hb,ps,lk,nd1,nd2,l1,l2⟩:=good;refine mthV ta.ins (ta.tab.only _ (by decide +kernel)) ⟨t,T,rfl,tel,ok,λH1 S1=>?_⟩;refine ixT 0 (S1 _ _ hp) rfl ⟨a,rfl,⟨_,SqL.of (S1 _ _ ha)⟩,?_⟩;refine Y7 (J:=Itl K a) gs (Zx (by omega)) (λg=>V.int (mOfG T g)) (λτ=>∃v1,τ=[v1,some (.ref t)]) ⟨none,rfl⟩ (λi H' hi sm=>⟨_,V.str gs[i],SqL.of (sm _ _ (S1 _ _ ha)),by simp[hi]⟩) (λH' sm=>⟨_,SqL.of (sm _ _ (S1 _ _ ha)),by simp⟩) (λi g τ u H2 H3 hx st sm yl N1 h1=>?_) ?_
 ·obtain⟨v1,rfl⟩:=st;obtain⟨rfl,hy⟩:=yl;have hu:=hy _ (SqL.of (sm _ _ (S1 _ _ ha)));rw[aJ,hx]at hu;cases hu;have S2:=S1.trans sm;have ta2:=ta.same S2;obtain⟨y,hy',ey⟩:=ah.mp (lk.g g (aA hx));subst ey;refine mthV ta2.ins (ta2.tab.only _ (by decide +kernel)) ⟨_,rfl,t,T,y,rfl,tel.same S2,ok,hy',λa' ha'=>?_⟩;have hm:=Tf ok hy';obtain⟨a1,b1,c1,d1,rfl,_⟩:=XJ ok hy';refine⟨a',_,3,_,rfl,rfl,SqT.of ha',ZD (j:=3) rfl,?_⟩;have:=h1 ([some (.str (nameOf [.str a1,.str b1,.int c1,.int d1])),some (.ref t)]) _ ⟨_,rfl⟩ sm;rw[hm]at this;exact this
 ·intro H2 sm l3 hl3;refine⟨l3,gs.map (mOfG T),rfl,SqL.of (by rw[Zf,bI];rfl),_,_,rfl,rfl,?_⟩;dsimp only;rw[Aa ok nd1 lk.g (f:=mOfG T) λy hy=>Tf ok hy];exact k _ (S1.trans (sameNew sm hl3))
theorem Mg:FnScope ["table","turn","line","rooms"] ["table","turn","line"] (Zc T.f_lets):=scO
noncomputable def NU:Scope:=csx [(".0",.local),("spot",.local),("table",.free),("turn",.free)]
theorem UM:CompScope NU (Zc T.f_lets):=⟨rfl,by decide +kernel,by decide +kernel,by decide +kernel⟩
theorem UO:(["spot","table","turn"]:List Str).Nodup:=by decide +kernel
theorem UN:CompNames ["table","turn","line","rooms"] NU ["spot","table","turn"] [none,some 0,some 1]:=.mk' (by decide +kernel)
theorem Di(B:∀x∈Blts,mg x=none)(hany:mg "any"=none)(Z:TCl K C)(CT:Can P w K mg base 4 "refuse_no_turn" ["table","thing"] (Kr C))(CA:Can P w K mg base 6 "rooms_across" ["table","line"] (P9 K C))(CH:CanM P w K mg base CX0 3 C "is_home" ["self","thing"] (Up C))(CB:Can P w K mg base 4 "people_beyond" ["table","line"] (KC C))(D:Df K mg "lets" T.f_lets ["table","turn","line"]):Can P w K mg base 7 "lets" ["table","turn","line"] (Rh K C):=by
 refine D.cn Mg λf cdv A outer s H vs Q E hr h=>?_;obtain⟨t,i,v,T,rfl,tel,ok,i0,i1,h⟩:=h;refine' ⟨_,(@Za _ _ _ _ _ ?h3 (@Za _ _ _ _ _ ?h4 (@Za _ _ _ _ _ ?h5 (@Zd _ _ _ ?h6)))),?rd⟩;case' h6=>refine' (Zl (Zo ZI (pv 3) (cn CB hr (@pa2 _ _ _ _ _ (pv 0) (pv 2) (by rfl)))))
 case' h5=>refine' (@ZG _ _ _ _ _ _ _ _ (PW.pt (JT (@Zt _ _ _ _ _ _ _ _ X3 (pv 3) ZF (ZC _)) (Xh (ZT (Zv (UW rfl) rfl hany dZ (@pa1 _ _ _ (Z0 rfl UM UN (ZW ?h1) (λC s H ex pn=>(nmT 0 UO)) (λC s H ex pn=>Yp) (λC s H ex pn=>(Y3 (Yx CH Z.cl Yl hr.m (pv 1) (Ze (it K (pv 0) Zb) Zk)) (YJ (YE MU (it K (pv 0) Zb) (pv 2) (ZC _)))))) (by rfl))))))) (@Zd _ _ _ ?h2) Zp)
 case' h4=>refine' (@st _ _ _ _ 3 _ _ Mg.nd (cn CA hr (@pa2 _ _ _ _ _ (pv 0) (pv 2) (by rfl))) (by rfl) (by exact aO rfl) (by rfl) (by exact .inl rfl))
 case' h3=>refine' (Z7 (cn CT hr (@pa2 _ _ _ _ _ (pv 0) (pv 1) (by rfl))))
 case' h2=>refine' (Zl ZF)
 case' h1=>refine' (@it _ _ _ _ _ _ K (pv 2) Zb (by rfl) (by exact λ_ _=>rfl))
 case' rd=>
 have hw:K1.Zw (.int i) 0 T.n=true:=by show(decide (0<=i)&&decide (i<=T.n))=true;simp[i0,i1]
 refine tq λDz hkz=>?_;refine⟨_,rfl,_,rfl,t,.int i,T,"int",rfl,tel,.int i,hw,hkz _ _ ?_⟩;clear hkz;rcases h with⟨bad,k⟩|⟨gs,ss,good,k⟩
 ·refine⟨_,rfl,_,rfl,t,v,T,rfl,tel,ok,.inl ⟨bad,λH1 S1=>?_⟩⟩;dsimp only[Zq,ay];refine⟨_,rfl,rfl,_,rfl,?_⟩;refine iteT ?_;exact iteT (k _ S1)
 refine tqr λD0 hk0 hr0=>?_;refine⟨_,rfl,_,rfl,t,v,T,rfl,tel,ok,.inr ⟨gs,ss,good,λH1 S1=>hk0 _ _ ?_⟩⟩;dsimp only[Zq];rw[show(L2.start (["table","turn","line","rooms"]:List Str) [V.ref t,.int i,v]).set 3 (some (optV (acr T gs ss)))=[some (.ref t),some (.int i),some v,some (optV (acr T gs ss))]from rfl];clear hk0 hr0;unfold To at k;refine tqr λD1 hk1 hr1=>?_;refine⟨_,rfl,rfl,_,rfl,?_⟩;cases ea:acr T gs ss with
|none=>rw[ea]at k;refine iteT (iteT (hr1 _ _ ?_));have:=k _ S1;split at this<;>exact this
|some m=>
  rw[ea]at k;refine iteF ?_;have good1:=good.same S1;have tel1:=tel.same S1;obtain⟨dx,fs,dP,dG,kP,kG,ta⟩:=J5 tel1;obtain⟨p,a,b,ys,rfl,hp,ha,hb,ps,lk,nd1,nd2,l1,l2⟩:=good1;have ly:=aK ps;refine ixT 1 hp rfl ⟨b,rfl,⟨_,SqL.of hb⟩,?_⟩;refine Y7 (J:=Itl K b) ss (Zx (by omega)) (λz=>V.bl (hmB T z.1&&decide (z.2<=i))) (λτ=>∃v1,τ=[v1,some (.ref t),some (.int i)]) ⟨none,rfl⟩ (λj H' hj sm=>⟨_,ys[j]'(by omega),SqL.of (sm _ _ hb),gE _⟩) (λH' sm=>⟨_,SqL.of (sm _ _ hb),by omega⟩) (λj z τ u H2 H3 hx st sm yl N1 h1=>?_) ?_
  ·obtain⟨v1,rfl⟩:=st;obtain⟨rfl,hy⟩:=yl;have hu:=hy _ (SqL.of (sm _ _ hb));obtain⟨x',ex,q,rfl,hq⟩:=JF ps hx;rw[ex]at hu;cases hu;have ta2:=ta.same sm;have hq2:=sm _ _ hq;have hz:=(lk.s z (aA hx)).1;have gz:GS z.1:=by obtain⟨yy,hyy,en⟩:=ah.mp hz;rw[<-en];exact(YA ok (j:=1) (.inl rfl) hyy).2
   refine mthV ta2.ins (ta2.tab.only _ (by decide +kernel)) (ixT 0 hq2 rfl ⟨t,.str z.1,"str",fs,dP,kP,rfl,ta2.tab,ta2.p,ta2.pd,.str _ (Xx gz),_,rfl,?_⟩);rw[ta2.home ok hz];cases e:hmB T z.1 with
  |false=>have:=h1 ([some (.ref q),some (.ref t),some (.int i)]) _ ⟨_,rfl⟩ sm;rw[e]at this;exact iteF this
  |true=>refine iteT ?_;have:=h1 ([some (.ref q),some (.ref t),some (.int i)]) _ ⟨_,rfl⟩ sm;rw[e,Bool.true_and]at this;exact ixT 1 hq2 rfl ⟨_,rfl,_,_,rfl,rfl,this⟩
  ·intro H2 sm l3 hl3;have S2:Same H1 (upd H2 l3 (.lst (ss.map λz=>V.bl (hmB T z.1&&decide (z.2<=i))))):=sameNew sm hl3;have e3:upd H2 l3 (.lst (ss.map λz=>V.bl (hmB T z.1&&decide (z.2<=i)))) l3=some (.lst ((ss.map λz=>hmB T z.1&&decide (z.2<=i)).map V.bl)):=by rw[Zf,bI];rfl
   refine⟨l3,_,rfl,SqL.of e3,_,rfl,?_⟩;generalize upd H2 l3 (.lst (ss.map λz=>V.bl (hmB T z.1&&decide (z.2<=i))))=H3 at S2 e3 ⊢;have S13:=S1.trans S2;have eo:(ss.map λz=>hmB T z.1&&decide (z.2<=i)).any id=Xj T ss i:=by rw[ie];rfl
   rw[eo];cases e:Xj T ss i with
  |true=>rw[e,if_pos rfl]at k;exact iteT (hr1 _ _ (k _ S13))
  |false=>rw[e,if_neg Bool.false_ne_true]at k;refine iteF (hk1 _ _ ?_);refine⟨_,rfl,_,rfl,_,rfl,t,_,T,gs,ss,rfl,tel1.same S2,ok,good.same S13,λH4 S4=>?_⟩;exact⟨_,_,rfl,rfl,k _ (S13.trans S4)⟩
end
end SX
namespace L2
open PySem PySem.Spec PyProof.Rows
section
variable {X:Cx}
def KU(H0:Hp)(t:TS):TS:=λD σ H=>t {D with nx:=λσ' H'=>∃a o u,H' a=some (.frz o u)/\(∀o' u',H0 a≠some (.frz o' u'))/\D.nx σ' (upd H' a u),rt:=λv H'=>∃a o u,H' a=some (.frz o u)/\(∀o' u',H0 a≠some (.frz o' u'))/\D.rt v (upd H' a u)} σ H
theorem Lc{st:Stmt}{t:TS}(h:PS X st t):PS X st (KU X.H₀ t):=by
 intro pins s σ H D I q;refine cj (h pins s σ H _ I q) (λr s1 hq=>?_) λ_ _ e=>e;cases r with
|next=>obtain⟨σ',H',I',a,o,u,e1,e0,q'⟩:=hq;exact⟨σ',_,I'.thaw e1 e0,q'⟩
|ret x=>obtain⟨v,σ',H',I',r,a,o,u,e1,e0,q'⟩:=hq;exact⟨v,σ',_,I'.thaw e1 e0,r,q'⟩
|_=>exact hq
theorem Uz{H H':Hp}(ht:∀b ys,H b=some (.tup ys)->H' b=some (.tup ys)):∀{k:MK}{y:V},KyM H k y->KyM H' k y
|.inl k,y,x=>x
|.inr ks,y,⟨b,e,hb⟩=>⟨b,e,ht _ _ hb⟩
end
end L2
namespace SX
open PySem L2 PySem.Spec PyProof.Rows TB WD
theorem Ka:∀{kvs:List (List Key×V)},(kvs.map (·.1)).Nodup->∀{j:Nat}{kv:List Key×V},kvs[j]?=some kv->valV kvs kv.1=some kv.2
|[],_,j,kv,h=>by cases h
|p::r,nd,0,kv,h=>by cases h;exact Ys rfl
|p::r,nd,j+1,kv,h=>by rw[ar,bz]at nd;have hr:r[j]?=some kv:=h;rw[Yt (λz=>nd.1 (z▸ah.mpr ⟨kv,aA hr,rfl⟩))];exact Ka nd.2 hr
theorem Wa{H:Hp}{kvs:List (List Key×V)}{L:List Sx}(h:bj (λ(kv:List Key×V)(S:Sx)=>kv.1=S.key/\Is H kv.2 (JR S)) kvs L):kvs.map (·.1)=L.map (·.key):=by
 induction h with
|nil=>rfl
|cons r _ ih=>rw[ar,ar,r.1,ih]
theorem Ez{T:Tb}(o:OkTb T):((allS T).map (·.key)).Nodup:=by
 have:=Dx o;generalize allS T=L at this;induction this with
|nil=>simp
|cons h _ ih=>rw[ar,bz];refine⟨λz=>?_,ih⟩;obtain⟨S,hS,e⟩:=ah.mp z;exact h S hS e.symm
theorem Ah{H:Hp}{v:V}{S:Sx}(h:Is H v (JR S)):∃a v0 v1 v2 v3,v=.ref a/\H a=some (.tup [v0,v1,v2,v3])/\Is H v0 S.tail/\Is H v1 S.head/\Is H v2 (dF S.room)/\v3=.int S.price:=by
 unfold JR at h;cases h with
|@tup a xs _ e r=>
  cases r with
 |cons h1 r=>
  cases r with
 |cons h2 r=>
  cases r with
 |cons h3 r=>
  cases r with
 |cons h4 r=>
  cases r;cases h4;exact⟨a,_,_,_,_,rfl,e,h1,h2,h3,rfl⟩
theorem EC{T:Tb}(o:OkTb T)(p:Str):(T.t1.any λr=>YK r [.str p,.non])=hmB T p:=by
 unfold hmB;rw[Bool.eq_iff_iff,bJ,bJ];constructor
 ·rintro ⟨y,hy,e⟩;obtain⟨⟨nm,rm⟩,rfl,_⟩:=XQ o hy;refine⟨_,hy,?_⟩;cases rm with
 |none=>
   have:nm=p:=by simp[YK,plRow,Ur,eqV,bV]at e;exact e
   subst this;rw[Bool.and_eq_true];exact⟨decide_eq_true rfl,decide_eq_true rfl⟩
 |some i=>simp[YK,plRow,Ur,eqV,bV]at e
 ·rintro ⟨y,hy,e⟩;obtain⟨⟨nm,rm⟩,rfl,_⟩:=XQ o hy;rw[Bool.and_eq_true,decide_eq_true_iff,decide_eq_true_iff]at e;obtain⟨e1,e2⟩:=e;have e1':nm=p:=e1;subst e1';cases rm with
 |none=>exact⟨_,hy,by simp[YK,plRow,Ur,eqV,bV]⟩
 |some i=>cases e2
theorem So{T:Tb}(o:OkTb T){y:List V}(hy:y∈T.t1):y.all Yw=true:=by obtain⟨⟨nm,rm⟩,rfl,_⟩:=XQ o hy;cases rm<;>rfl
theorem PY{T:Tb}(o:OkTb T){S:Sx}(h:S∈allS T):(S.room=.non/\S∈T.t4.flatMap (ZK T))\/(S.room=.int (rmI S)/\S∈Y5 T):=by
 rw[<-GY]at h;rcases aD.mp h with h|h
 ·obtain⟨y,_,hy⟩:=bQ.mp h;obtain⟨i,rfl⟩:=JH hy;exact .inl ⟨rfl,h⟩
 ·exact .inr ⟨Td o h,h⟩
theorem P4(gs:List Str)(ss:List Spt)(L M:List Sx):sumR gs ss (L++M)=sumR gs ss L+sumR gs ss M:=by unfold sumR;rw[gZ,aL,List.sum_append]
theorem Ki(gs:List Str)(ss:List Spt)(S:Sx):sumR gs ss [S]=if crs gs ss S=true then rmI S else 0:=by unfold sumR;rw[List.filter_cons];split<;>simp
theorem DK{gs:List Str}{ss:List Spt}{L:List Sx}(h:L.any (crs gs ss)=false):sumR gs ss L=0:=by unfold sumR;rw[fW.mpr λS hS=>by rw[ik]at h;exact h S hS];rfl
theorem Lz{H:Hp}{gs:List Str}{ys:List V}{ss:List Spt}(ps:bj (SpAt H) ys ss)(i:Nat)(x:V)(hx:(gs.map V.str++ys)[i]?=some x):∃k,(YL gs ss)[i]?=some k/\∀H',(∀c zs,H c=some (.tup zs)->H' c=some (.tup zs))->KyM H' k x:=by
 unfold YL;rcases Nat.lt_or_ge i (gs.map V.str).length with hi|hi
 ·rw[a_ hi,aJ]at hx;obtain⟨g,hg',rfl⟩:=b_.mp hx;refine⟨nG g,?_,λ_ _=>rfl⟩;rw[a_ (by rw[lm]at hi ⊢;exact hi),aJ,hg'];rfl
 ·rw[a6 hi]at hx;obtain⟨z,hz,a',rfl,ha'⟩:=Yv ps hx;refine⟨nS z,?_,λH' hh=>⟨a',rfl,hh _ _ ha'⟩⟩;rw[lm]at hi hz;rw[a6 (by rw[lm];exact hi),bq,aJ,hz];rfl
end SX
namespace L2
open PySem PySem.Spec PyProof.Rows WD
section
variable {X:Cx}
theorem AQ{k:Nat}{A:a9}(hr:Room k A):A.units+200<cLine:=by have:=hr.un;omega
theorem R8(gd:X.A.guards=some [])(un:X.A.units+200<cLine):YI X (.builtin "repr") K7:=by
 intro pins s σ H xs us Q I r h;obtain⟨x,d,rfl,hd,hs,hdp,hz,q⟩:=h;cases hd with
|non=>obtain⟨u,rfl,rx⟩:=vals1 r;cases rx;refine PySem.P.repr_of_none ⟨.str (PyData.none).shown,H,I.tok _,⟨s.toks,?_⟩,q⟩;simp only[PyData.shown]
|bl b=>obtain⟨u,rfl,rx⟩:=vals1 r;cases rx;refine PySem.P.repr_of_bool ⟨.str (PyData.bool b).shown,H,I.tok _,⟨s.toks,?_⟩,q⟩;simp only[PyData.shown]
|int i=>obtain⟨u,rfl,t,rfl⟩:=vals1 r;refine PySem.P.repr_of_int (by simpa[PyData.showable]using hs) ⟨.str (PyData.int i).shown,H,I.tok _,⟨s.toks,?_⟩,q⟩;simp only[PyData.shown]
|str z=>obtain⟨u,rfl,t,rfl⟩:=vals1 r;refine PySem.P.repr_of_str ⟨.str (PyData.str z).shown,H,I.tok _,⟨s.toks,?_⟩,q⟩ (by simpa only[PyData.shown]using hz);simp only[PyData.shown]
|lst e ra=>have hd:=Is.lst e ra;obtain⟨u,rfl,rx⟩:=vals1 r;obtain⟨as,rd⟩:=hd.reads I.hok rx;cases rx;exact hV rd hs (PyData.noDict_hsm hd.nodict) gd (by omega) (λ_ _ e=>e) (λh' u tk hk=>⟨.str _,H,I.kept hk,⟨u,rfl⟩,q⟩) hz
|tup e ra=>have hd:=Is.tup e ra;obtain⟨u,rfl,rx⟩:=vals1 r;obtain⟨as,rd⟩:=hd.reads I.hok rx;cases rx;exact hV rd hs (PyData.noDict_hsm hd.nodict) gd (by omega) (λ_ _ e=>e) (λh' u tk hk=>⟨.str _,H,I.kept hk,⟨u,rfl⟩,q⟩) hz
end
end L2
namespace SX
open PySem L2 PySem.Spec PyProof.Rows TB WD
def Kp(C Cn:Addr):Sp:=λvs H _ E=>∃(t:Addr)(v:V)(T:Tb)(T':String),vs=[.ref t,v]/\Tel H C t T/\Th H v T'/\K1.Zw v 0 T.n=false/\∀H' d,Same H H'->H' d=some (XD d [("found",v)])->E (.ref Cn) (some d) H'
def SA(C Cn:Addr):Sp:=λvs H _ E=>∃(t:Addr)(v lv:V)(T:Tb)(T':String),vs=[.ref t,v,lv]/\Tel H C t T/\Th H v T'/\K1.Zw v 0 T.n=false/\∀H' d,Same H H'->H' d=some (XD d [("found",v)])->E (.ref Cn) (some d) H'
def P6(C:Addr):Sp:=λvs H Q _=>∃(t:Addr)(v lv:V)(T:Tb)(T':String)(d:PyData),vs=[.ref t,v,lv]/\Tel H C t T/\Th H v T'/\K1.Zw v 0 T.n=false/\Is H v d/\Shw d/\∀H',Same H H'->Q (.bl true) H'
section
variable {P:Program}{w:World}{K:aa}{mg:Str->Option Value}{base:Heap}{C Cn fI Qa:Addr}
theorem L9(B:Err P w K mg base "NoTurn" ["found"] Cn)(CT:Can P w K mg base 3 "is_turn" ["table","thing"] (MF C))(D:Df K mg "refuse_no_turn" T.f_refuse_no_turn ["table","thing"]):CanX P w K mg base 4 "refuse_no_turn" ["table","thing"] (Kp C Cn):=by refine D.cnX XH λf cdv A outer s H vs Q E hr h=>?_;obtain⟨t,v,T,T',rfl,tel,th,hw,k⟩:=h;refine⟨_,(Zd (ZG (ZY (ZT (cn CT hr (Ze (pv 0) (Ze (pv 1) Zk))))) (Zd (T7 (E:=E) B EZ rfl hr.m rfl (Ze (pv 1) Zk))) Zp)),?_⟩;refine⟨_,rfl,_,rfl,t,v,T,T',rfl,tel,th,_,rfl,?_⟩;rw[hw];refine iteT ?_;exact⟨_,rfl,rfl,λH2 d' hd e hb=>k H2 d' (λc o ec=>by rw[hb c (Zi ec hd)];exact ec) e⟩
theorem WU(B:∀x∈Blts,mg x=none)(hany:mg "any"=none)(Z:TCl K C)(CT:CanX P w K mg base 4 "refuse_no_turn" ["table","thing"] (Kp C Cn))(CA:Can P w K mg base 6 "rooms_across" ["table","line"] (P9 K C))(CH:CanM P w K mg base CX0 3 C "is_home" ["self","thing"] (Up C))(CB:Can P w K mg base 4 "people_beyond" ["table","line"] (KC C))(D:Df K mg "lets" T.f_lets ["table","turn","line"]):CanX P w K mg base 7 "lets" ["table","turn","line"] (SA C Cn):=by
 refine D.cnX Mg λf cdv A outer s H vs Q E hr h=>?_;obtain⟨t,v,lv,T,T',rfl,tel,th,hw,k⟩:=h;refine' ⟨_,(@Za _ _ _ _ _ ?h3 (@Za _ _ _ _ _ ?h4 (@Za _ _ _ _ _ ?h5 (@Zd _ _ _ ?h6)))),?rd⟩;case' h6=>refine' (Zl (Zo ZI (pv 3) (cn CB hr (@pa2 _ _ _ _ _ (pv 0) (pv 2) (by rfl)))))
 case' h5=>refine' (@ZG _ _ _ _ _ _ _ _ (PW.pt (JT (@Zt _ _ _ _ _ _ _ _ X3 (pv 3) ZF (ZC _)) (Xh (ZT (Zv (UW rfl) rfl hany dZ (@pa1 _ _ _ (Z0 rfl UM UN (ZW ?h1) (λC s H ex pn=>(nmT 0 UO)) (λC s H ex pn=>Yp) (λC s H ex pn=>(Y3 (Yx CH Z.cl Yl hr.m (pv 1) (Ze (it K (pv 0) Zb) Zk)) (YJ (YE MU (it K (pv 0) Zb) (pv 2) (ZC _)))))) (by rfl))))))) (@Zd _ _ _ ?h2) Zp)
 case' h4=>refine' (@st _ _ _ _ 3 _ _ Mg.nd (cn CA hr (@pa2 _ _ _ _ _ (pv 0) (pv 2) (by rfl))) (by rfl) (by exact aO rfl) (by rfl) (by exact .inl rfl))
 case' h3=>refine' (Z7 (Ef CT EZ hr.m rfl (@pa2 _ _ _ _ _ (pv 0) (pv 1) (by rfl))))
 case' h2=>refine' (Zl ZF)
 case' h1=>refine' (@it _ _ _ _ _ _ K (pv 2) Zb (by rfl) (by exact λ_ _=>rfl))
 case' rd=>
 refine tq λDz hkz=>?_;exact⟨_,rfl,_,rfl,t,v,T,T',rfl,tel,th,hw,k⟩
theorem YV:FnScope ["_law_table","_law_turn","_law_line_here","_law_caught","e"] ["_law_table","_law_turn","_law_line_here"] (Zc T.f__law_no_turn):=scO
theorem R3(B:∀x∈Blts,mg x=none)(X:XK1 K mg "NoTurn" Cn fI Qa)(nX:Xk K Cn "found")(CS:CanX P w K mg base 7 "lets" ["table","turn","line"] (SA C Cn))(D:Df K mg "_law_no_turn" T.f__law_no_turn ["_law_table","_law_turn","_law_line_here"]):Can P w K mg base 8 "_law_no_turn" ["_law_table","_law_turn","_law_line_here"] (P6 C):=by
 obtain⟨fm,fdm,FM,hm,hk,bM⟩:=CS;refine D.cn YV λf cdv A outer s H vs Q E hr h=>?_;obtain⟨t,v,lv,T,T',dd0,rfl,tel,th,hw,isk,shw,kq⟩:=h;have u200:=AQ hr;refine' ⟨_,(@Za _ _ _ _ _ ?h1 (@Za _ _ _ _ _ ?h2 (@Zd _ _ _ ?h3))),?rd⟩;case' h3=>refine' (Zl (@YE _ _ _ _ _ _ _ _ Xw (pv 3) (Zv (Uj hr) rfl (bm B) dS (@pa1 _ _ _ (pv 1) (by rfl))) (ZC _)))
 case' h2=>refine' (FK ⟨rfl,rfl⟩ (λE' pn' pp E hp=>Zd (Z7 (Rw FM hr rfl hm hk bM .nil hp (Ze (pv 0) (Ze (pv 1) (Ze (pv 2) Zk)))))) (AR (i:=4) X.xb rfl X.mg YV.nd rfl rfl (λx=>Zd (Yn (i:=3) YV.nd rfl (aO rfl) (Zv (R8 hr.gd u200) rfl (bm B) dS (Ze (Ec (pv 4)) Zk)))) HM))
 case' h1=>refine' (@st _ _ _ _ 3 _ _ YV.nd ZF (by rfl) (by exact aO rfl) (by rfl) (by exact .inl rfl))
 case' rd=>
 rw[show L2.start (["_law_table","_law_turn","_law_line_here","_law_caught","e"]:List Str) [V.ref t,v,lv]=[some (.ref t),some v,some lv,none,none]from rfl];refine tq λD0 hk0=>?_;refine hk0 _ _ (tq λD1 hk1=>?_);clear hk0;try dsimp only[Zq,ay]
 refine⟨λc dd H'=>c=.ref Cn/\∃d,dd=some d/\H' d=some (XD d [("found",v)])/\Same H H',⟨rfl,_,rfl,_,rfl,_,rfl,t,v,lv,T,T',rfl,tel,th,hw,λH' d s e=>⟨rfl,d,rfl,e,s⟩⟩,?_⟩;rintro c dd H' ⟨rfl,d,rfl,hd,sm⟩;refine⟨Cn,rfl,λy hy=>⟨fI,Qa,X.xc,.inl ⟨by rw[d5];simp,?_⟩⟩⟩;have hyd:d≠y:=Zi hd hy;have hd1:upd H' y (ErrC y Cn (some d)) d=some (XD d [("found",v)]):=by rw[Zg hyd];exact hd
 have hy1:TM (upd H' y (ErrC y Cn (some d))) y Cn d:=.inl Zf;have sm1:Same H (upd H' y (ErrC y Cn (some d))):=sameNew sm hy;generalize upd H' y (ErrC y Cn (some d))=H1 at hd1 hy1 sm1 ⊢;refine⟨_,rfl,y,Cn,d,_,_,rfl,hy1,hd1,X.xr,nX,rfl,v,dd0,rfl,isk.same sm1,shw.sh,shw.dp,shw.len,?_⟩;try dsimp only[tNil]
 refine hk1 _ _ ?_;clear hk1;try dsimp only[Zq,ay]
 refine⟨_,rfl,_,rfl,v,dd0,rfl,.of (isk.same sm1),shw.sh,shw.dp,shw.len,rfl,?_⟩;rw[decide_eq_true rfl];exact kq H1 sm1
end
theorem Ac{T:Tb}(o:OkTb T){gs:List Str}{ss:List Spt}(hn:(allS T).any (λS=>crs gs ss S&&decide (S.room=.non))=false):acr T gs ss=some (sumR gs ss (allS T)):=by
 have ho:(T.t4.flatMap (ZK T)).any (crs gs ss)=false:=by
  rw[ik]at hn ⊢;intro S hS hc;have hm:S∈allS T:=by rw[<-GY];exact bh _ hS
  obtain⟨y,_,hy⟩:=bQ.mp hS;obtain⟨j,rfl⟩:=JH hy;exact hn _ hm (by rw[hc];rfl)
 unfold acr;rw[ho,if_neg Bool.false_ne_true,<-GY,P4,DK ho,Int.zero_add]
theorem Ad{T:Tb}(o:OkTb T){gs:List Str}{ss:List Spt}{S:Sx}(hS:S∈allS T)(hc:crs gs ss S=true)(hr:S.room=.non):acr T gs ss=none:=by
 have ho:(T.t4.flatMap (ZK T)).any (crs gs ss)=true:=by
  rcases PY o hS with⟨_,h⟩|⟨e,_⟩
  ·exact bJ.mpr ⟨S,h,hc⟩
  ·rw[hr]at e;cases e
 unfold acr;rw[ho,if_pos rfl]
def KD:Sp:=λvs H Q _=>∃(d:Addr)(v:V)(T:Tb)(gs:List Str)(ss:List Spt),vs=[.ref d,v]/\OkTb T/\Dc H d (allS T)/\Yh H T v gs ss/\∀H',Same H H'->Q (optV (acr T gs ss)) H'
section
variable {P:Program}{w:World}{K:aa}{mg:Str->Option Value}{base:Heap}{C:Addr}
theorem Z3:FnScope ["_law_steps_here","_law_line_here","_law_near","_law_total","_law_key","_law_tail","_law_head","_law_room","_law_price"] ["_law_steps_here","_law_line_here"] (Zc T.f__law_across):=scO
noncomputable def JW:Scope:=csx [(".0",.local),("_law_node",.local)]
theorem Uc:CompScope JW (Zc T.f__law_across):=⟨rfl,by decide +kernel,by decide +kernel,by decide +kernel⟩
theorem Ue:(["_law_node"]:List Str).Nodup:=by decide +kernel
theorem Ud:CompNames ["_law_steps_here","_law_line_here","_law_near","_law_total","_law_key","_law_tail","_law_head","_law_room","_law_price"] JW ["_law_node"] [none]:=.mk' (by decide +kernel)
theorem Dk(B:∀x∈Blts,mg x=none)(hdict:mg "dict"=none)(D:Df K mg "_law_across" T.f__law_across ["_law_steps_here","_law_line_here"]):Can P w K mg base 1 "_law_across" ["_law_steps_here","_law_line_here"] KD:=by
 refine D.cn Z3 λf cdv A outer s H vs Q E hr h=>?_;obtain⟨d,v,T,gs,ss,rfl,ok,dc,good,k⟩:=h;refine' ⟨_,(@Za _ _ _ _ _ ?h8 (@Za _ _ _ _ _ ?h9 (@Za _ _ _ _ _ ?h10 (@Zd _ _ _ ?h11)))),?rd⟩;case' h11=>refine' (Zl (pv 3))
 case' h10=>refine' (Lc (Yc aT rfl (Le (pv 0)) (nmT 4 Z3.nd) (@Za _ _ _ _ _ ?h6 (@Zd _ _ _ ?h7))))
 case' h9=>refine' (@st _ _ _ _ 3 _ _ Z3.nd Zb (by rfl) (by exact aO rfl) (by rfl) (by exact .inl rfl))
 case' h8=>refine' (@st _ _ _ _ 2 _ _ Z3.nd (Yi (Se hr.units rfl) rfl hdict EK (@pa1 _ _ _ (Z0 rfl Uc Ud (ZW (Zo Z6 ?h1 ?h2)) (λC s H ex pn=>(nmT 0 Ue)) (λC s H ex pn=>Yp) (λC s H ex pn=>(Zu (Ze (pv 0) (Ze JU Zk))))) (by rfl))) (by rfl) (by exact aO rfl) (by rfl) (by exact .inl rfl))
 case' h7=>refine' (@ZG _ _ _ _ _ _ _ _ (PW.pt (U8 (Zt (SY (P:=P) (w:=w) rfl rfl (YS hr)) (pv 5) (pv 2) (by with_unfolding_all rfl)) (VA (Zt (JI (P:=P) (w:=w) rfl rfl (YS hr)) (pv 6) (pv 2) (by with_unfolding_all rfl))))) (@Za _ _ _ _ _ ?h4 (@Zd _ _ _ ?h5)) Zp)
 case' h6=>refine' (V9 (Px (YS hr) (pv 0) (pv 4) (λ_ _=>rfl)) (YN rfl (Zn (nmT 5 Z3.nd) (Zn (nmT 6 Z3.nd) (Zn (nmT 7 Z3.nd) (Zn (nmT 8 Z3.nd) Yd))))))
 case' h5=>refine' (@st _ _ _ _ 3 _ _ Z3.nd (Zo ZI (pv 3) (pv 7)) (by rfl) (by exact aO rfl) (by rfl) (by exact .inl rfl))
 case' h4=>refine' (@ZG _ _ _ _ _ _ _ _ (@Zt _ _ _ _ _ _ _ _ X3 (pv 7) ZF (ZC _)) (@Zd _ _ _ ?h3) Zp)
 case' h3=>refine' (Zl ZF)
 case' h2=>refine' (@it _ _ _ _ _ _ K (pv 1) Zb (by rfl) (by exact λ_ _=>rfl))
 case' h1=>refine' (@it _ _ _ _ _ _ K (pv 1) Zb (by rfl) (by exact λ_ _=>rfl))
 case' rd=>
 obtain⟨p,a,b,ys,rfl,hp,ha,hb,ps,lk,nd1,nd2,lg,lsp⟩:=good;obtain⟨kvs0,ed,pr⟩:=dc.ord (Dx ok);have lys:=aK ps;rw[show L2.start (["_law_steps_here","_law_line_here","_law_near","_law_total","_law_key","_law_tail","_law_head","_law_room","_law_price"]:List Str) [.ref d,.ref p]=[some (.ref d),some (.ref p),none,none,none,none,none,none,none]from rfl];refine tq λD1 hk1=>?_;refine ixT 0 hp rfl (ixT 1 hp rfl ⟨a,b,_,_,rfl,rfl,ha,hb,Zx (by rw[lm];omega),λl6 h6=>?_⟩);have S6:Same H (upd H l6 (.lst (gs.map V.str++ys))):=sameNew (Same.refl _) h6;have e6:upd H l6 (.lst (gs.map V.str++ys)) l6=some (.lst (gs.map V.str++ys)):=Zf;generalize upd H l6 (.lst (gs.map V.str++ys))=H6 at S6 e6 ⊢;have hkl:(gs.map V.str++ys).length=(YL gs ss).length:=by unfold YL;rw[aj,aj,lm,lm,lm,lys]
 have tot:(gs.map V.str++ys).length<=800:=by rw[aj,lm];omega
 refine⟨l6,rfl,⟨_,SqL.of e6⟩,?_⟩;refine YY (J:=Itl K l6) (gs.map V.str++ys).length (Zx (by omega)) (λj zs τ H'=>Same H6 H'/\bj (λv(q:MK×V)=>∃(a:Addr)(y:V),v=.ref a/\H' a=some (.tup [y,q.2])/\KyM H' q.1 y) zs (((YL gs ss).take j).map λk=>(k,V.bl true))/\∃v,τ=[v]) ⟨Same.refl _,.nil,none,rfl⟩ (λj zs τ H' q=>by rw[aK q.2.1,lm,aN];omega) (λj zs τ H' hj q=>⟨_,(gs.map V.str++ys)[j],SqL.of (q.1 _ _ e6),gE hj⟩) (λzs τ H' q=>⟨_,SqL.of (q.1 _ _ e6),Nat.le_refl _⟩) (λj zs τ H' x H7 hj q yl=>?_) (λzs τ H' q l7 h7=>?_)
 ·obtain⟨s1,pz,v1,rfl⟩:=q;obtain⟨rfl,hy⟩:=yl;have hx:=hy _ (SqL.of (s1 _ _ e6));obtain⟨k',hk',ky⟩:=Lz ps j x hx;refine⟨_,rfl,Zx (by show 2<=1000;decide),λq hq=>?_⟩;have S7:Same H7 (upd H7 q (.tup [x,.bl true])):=sameNew (Same.refl _) hq;refine⟨s1.trans S7,?_,_,rfl⟩;rw[bc,hk',aL];refine dq (Paired.mapP pz λv q'⟨a',y',e1,e2,e3⟩=>⟨a',y',e1,S7 _ _ e2,Uz (λc zs e=>S7 _ _ e) e3⟩) ⟨q,x,rfl,Zf,ky _ λc zs e=>S7 _ _ (s1 _ _ (S6 _ _ e))⟩
 obtain⟨s6,pz,v1,rfl⟩:=q;rw[hkl,aW]at pz;have S7:Same H' (upd H' l7 (.lst zs)):=sameNew (Same.refl _) h7;refine⟨l7,zs,_,rfl,SqL.of Zf,Paired.mapP pz λv q'⟨a',y',e1,e2,e3⟩=>⟨a',y',e1,S7 _ _ e2,Uz (λc zs e=>S7 _ _ e) e3⟩,by rw[aK pz,lm];omega,λdn od hdn dm=>?_⟩;have S8:Same H (upd (upd H' l7 (.lst zs)) dn od):=(S6.trans s6).trans (S7.trans (sameNew (Same.refl _) hdn));have nr:Nr P w (upd (upd H' l7 (.lst zs)) dn od) dn gs ss:=dm.rd;generalize upd (upd H' l7 (.lst zs)) dn od=H8 at S8 nr ⊢;clear pz s6 S7 h7 dm hdn tot e6 S6 h6;refine hk1 _ _ (tq λD2 hk2=>?_);clear hk1;try dsimp only[Zq,ay]
 refine hk2 _ _ ?_;clear hk2;try dsimp only[Zq,ay]
 have ed11:=S8 _ _ ed;have nr11:=nr;have S011:=S8;have lk0:=aK pr;clear nr;generalize H8=H11 at S8 ed11 nr11 S011 ⊢;have nd:dn≠d:=λe=>by
  obtain⟨xs,r,_⟩:=nr11;rw[e]at r;rcases r with r|⟨o',r⟩
  ·rw[ed11]at r;have:HO.dT kvs0=.ext _:=au r;cases this
  ·rw[ed11]at r;have:HO.dT kvs0=.frz _ _:=au r;cases this
 refine tqr λD4 hk4 hr4=>?_;dsimp only[KU];refine⟨_,rfl,d,kvs0,rfl,ed11,λob=>?_⟩;have ef:upd H11 d (.frz ob (.dT kvs0)) d=some (.frz ob (.dT kvs0)):=Zf;have tf:∀c xs,H11 c=some (.tup xs)->upd H11 d (.frz ob (.dT kvs0)) c=some (.tup xs):=λc xs e=>by rw[Zg (ne_of e ed11 (λz=>nomatch z))];exact e
 have nrf:Nr P w (upd H11 d (.frz ob (.dT kvs0))) dn gs ss:=by obtain⟨xs,r,km,z⟩:=nr11;refine⟨xs,?_,km.keeps tf,z⟩;unfold L2.Rd;rw[Zg nd];exact r
 have back:Same H (upd (upd H11 d (.frz ob (.dT kvs0))) d (.dT kvs0)):=λc u e=>by
  by_cases h:c=d
  ·subst h;rw[ed]at e;cases e;exact Zf
  ·rw[Zg h,Zg h];exact S011 c u e
 have tH:∀c xs,H c=some (.tup xs)->upd H11 d (.frz ob (.dT kvs0)) c=some (.tup xs):=λc xs e=>tf _ _ (S011 _ _ e);have h0:∀o' u',H d≠some (.frz o' u'):=λo' u' e=>by rw[ed]at e;cases e
 generalize upd H11 d (.frz ob (.dT kvs0))=Hf at ef tf nrf back tH ⊢;refine YC (J:=Itk d ob kvs0) kvs0.length (λj σ H'=>H'=Hf/\((allS T).take j).any (λS=>crs gs ss S&&decide (S.room=.non))=false/\∃o:Nat->Option V,σ=[some (.ref d),some (.ref p),some (.ref dn),some (.int (sumR gs ss ((allS T).take j))),o 4,o 5,o 6,o 7,o 8]) ?_ (λj σ H' hj q=>⟨hj,by rw[q.1];exact ef⟩) (λσ H' q=>⟨rfl,by rw[q.1];exact ef⟩) (λj σ H' x H13 hj q yl=>?_) (λσ H' q=>?_)
 ·refine⟨rfl,rfl,?_⟩;exact shp rfl
 ·obtain⟨rfl,hn,o,rfl⟩:=q;obtain⟨rfl,kb,kv,hkv,hkb,rfl⟩:=yl;have hj':j<(allS T).length:=by omega
  have e0:(allS T)[j]?=some (allS T)[j]:=gE hj';have hmem:(allS T)[j]∈allS T:=aE hj';obtain⟨ek,iv⟩:=JE pr hkv e0;have hany:((allS T).take (j+1)).any (λS=>crs gs ss S&&decide (S.room=.non))=(crs gs ss (allS T)[j]&&decide ((allS T)[j].room=.non)):=by rw[bc,e0,List.any_append,hn];simp
  have hsum:sumR gs ss ((allS T).take (j+1))=sumR gs ss ((allS T).take j)+(if crs gs ss (allS T)[j]=true then rmI (allS T)[j]else 0):=by rw[bc,e0,P4];show _+sumR gs ss [_]=_;rw[Ki]
  rw[hany,hsum];generalize (allS T)[j]=S at hmem iv ek;clear hany hsum;obtain⟨js,is⟩:=Dw ok hmem;obtain⟨nt,nh⟩:=Ta is;obtain⟨ta,v0,v1,v2,v3,ev,hta,i0,i1,i2,e3⟩:=Ah iv;have hvv:=Ka (by rw[Wa pr];exact Ez ok) hkv;have dg:DGet H13 d (.ref kb) (some kv.2):=.inr ⟨kvs0,kv.1,kb,.inr ⟨ob,ef⟩,rfl,hkb,hvv.symm⟩;rw[ev]at dg;have hrm:v2=S.room:=by
   rcases PY ok hmem with⟨e,_⟩|⟨e,_⟩
   ·rw[e]at i2 ⊢;cases i2;rfl
   ·rw[e]at i2 ⊢;cases i2;rfl
  subst hrm;dsimp only[Zq,ay];refine⟨_,rfl,_,rfl,d,_,rfl,dg,ta,_,rfl,SqT.of (tH _ _ hta),rfl,_,_,rfl,_,_,rfl,_,_,rfl,_,_,rfl,rfl,?_⟩;try dsimp only[Zq,ay]
  refine⟨_,rfl,_,rfl,dn,_,_,rfl,nrf,Uz tH (Mp nt i0),_,rfl,?_⟩;rw[VE];have hcr:crs gs ss S=(inN gs ss (G6 S.tail)&&!inN gs ss (G6 S.head)):=rfl;refine XS (λe1=>?_) (λe1=>?_)
  ·rw[e1,Bool.true_and]at hcr;refine⟨_,rfl,_,rfl,dn,_,_,rfl,nrf,Uz tH (Mp nh i1),_,rfl,?_⟩;rw[VE];refine XS (λe2=>?_) (λe2=>?_)
   ·have hc:crs gs ss S=true:=hcr.trans e2;rw[hc,Bool.true_and,if_pos rfl];refine⟨_,rfl,rfl,_,rfl,?_⟩;rcases PY ok hmem with⟨er,_⟩|⟨er,_⟩
    ·rw[er];refine iteT ⟨d,ob,_,ef,h0,hr4 _ _ ?_⟩;have:=k _ back;rw[Ad ok hmem hc er]at this;exact this
    ·rw[er];refine iteF ?_;refine⟨_,rfl,_,rfl,_,_,rfl,rfl,rfl,rfl,?_⟩;exact shp rfl
   ·have hc:crs gs ss S=false:=hcr.trans e2;rw[hc,Bool.false_and,if_neg Bool.false_ne_true];refine⟨rfl,rfl,?_⟩;first|rw[Int.add_zero]|rw[show(if(false:Bool)=true then rmI S else 0)=(0:Int)from rfl,Int.add_zero]
    exact shp rfl
  ·rw[e1,Bool.false_and]at hcr;rw[hcr,Bool.false_and,if_neg Bool.false_ne_true];refine⟨rfl,rfl,?_⟩;first|rw[Int.add_zero]|rw[show(if(false:Bool)=true then rmI S else 0)=(0:Int)from rfl,Int.add_zero]
   exact shp rfl
 ·obtain⟨rfl,hn,o,rfl⟩:=q;rw[lk0,aW]at hn ⊢;refine⟨d,ob,_,ef,h0,hk4 _ _ ⟨_,rfl,?_⟩⟩;have:=k _ back;rw[Ac ok hn]at this;exact this
noncomputable def QD(T:Tb)(i:Int)(gs:List Str)(ss:List Spt):Option Int->Option Int
|none=>none
|some m=>if Xj T ss i=true then none else some (m+byd T gs)
theorem Ew(T:Tb)(i:Int)(gs:List Str)(ss:List Spt):QD T i gs ss (acr T gs ss)=To T i gs ss:=by
 unfold To;cases acr T gs ss with
|none=>show none=_;split<;>rfl
|some m=>rfl
theorem HJ(g:Str)(gs:List Str):inV (.str g) (gs.map V.str)=decide (g∈gs):=by
 unfold inV;rw[Bool.eq_iff_iff,bJ,decide_eq_true_iff];constructor
 ·rintro ⟨y,hy,e⟩;obtain⟨z,hz,rfl⟩:=ah.mp hy;have:z=g:=by simpa[eqV]using e
  exact this▸hz
 ·intro h;exact⟨.str g,ah.mpr ⟨g,h,rfl⟩,by simp[eqV]⟩
def EV:Sp:=λvs H Q _=>∃(pw l1 l2 l3 l4:Addr)(i:Int)(v:V)(T:Tb)(gs:List Str)(ss:List Spt)(A:Option Int),vs=[.ref pw,optV A,.int i,v]/\WAt H pw T l1 l2 l3 l4/\OkTb T/\Yh H T v gs ss/\∀H',Same H H'->Q (optV (QD T i gs ss A)) H'
def Ko:Sp:=λvs H Q _=>∃A:Option Int,vs=[optV A,optV A]/\Q (.bl true) H
theorem Qc:FnScope ["_law_found","_law_due"] ["_law_found","_law_due"] (Zc T.f__law_same):=scO
theorem WN(B:∀x∈Blts,mg x=none)(D:Df K mg "_law_same" T.f__law_same ["_law_found","_law_due"]):Can P w K mg base 1 "_law_same" ["_law_found","_law_due"] Ko:=by
 refine D.cn Qc λf cdv A outer s H vs Q E hr h=>?_;obtain⟨A,rfl,k⟩:=h;refine⟨_,(Za (ZG (Zt X3 (pv 1) ZF (ZC _)) (Zd (Zl (YE X3 (pv 0) ZF (ZC _)))) Zp) (Zd (Zl (Y3 (Xu (c:="int") (pv 0) rfl (bm B) rfl (bm B) PU) (Y3 (Li (Xu (c:="bool") (pv 0) rfl (bm B) rfl (bm B) TH)) (YJ (YE Xw (pv 0) (pv 1) (ZC _)))))))),?_⟩;cases A with
|none=>refine⟨_,rfl,rfl,_,rfl,?_⟩;refine iteT ?_;exact⟨_,rfl,rfl,k⟩
|some i=>refine⟨_,rfl,rfl,_,rfl,?_⟩;refine iteF ?_;refine⟨_,rfl,.int i,"int",.type "int",true,rfl,.int _,LG _,true,rfl,?_⟩;refine iteT ?_;refine⟨_,rfl,.int i,"bool",.type "int",false,rfl,.int _,LH _,?_⟩;refine⟨false,rfl,true,rfl,?_⟩;refine iteT ?_;refine⟨_,rfl,_,rfl,rfl,?_⟩;rw[decide_eq_true rfl];exact k
theorem Xg:FnScope [q_w,"_law_across_here","_law_turn","_law_line_here","_law_place","_law_at"] [q_w,"_law_across_here","_law_turn","_law_line_here"] (Zc T.f__law_lets_due):=scO
noncomputable def XX:Scope:=csx [(".0",.local),("_law_row",.local),("_law_line_here",.free)]
theorem Vq:CompScope XX (Zc T.f__law_lets_due):=⟨rfl,by decide +kernel,by decide +kernel,by decide +kernel⟩
theorem Vs:(["_law_row","_law_line_here"]:List Str).Nodup:=by decide +kernel
theorem Vr:CompNames [q_w,"_law_across_here","_law_turn","_law_line_here","_law_place","_law_at"] XX ["_law_row","_law_line_here"] [none,some 3]:=.mk' (by decide +kernel)
theorem Dj(B:∀x∈Blts,mg x=none)(D:Df K mg "_law_lets_due" T.f__law_lets_due [q_w,"_law_across_here","_law_turn","_law_line_here"]):Can P w K mg base 1 "_law_lets_due" [q_w,"_law_across_here","_law_turn","_law_line_here"] EV:=by
 refine D.cn Xg λf cdv A outer s H vs Q E hr h=>?_;obtain⟨pw,l1,l2,l3,l4,i,v,T,gs,ss,A,rfl,wt,ok,good,k⟩:=h;refine' ⟨_,(@Za _ _ _ _ _ ?h8 (@Za _ _ _ _ _ ?h9 (@Zd _ _ _ ?h10))),?rd⟩;case' h10=>refine' (Zl (Zo ZI (pv 1) (Zv (VP rfl) rfl (bm B) dY (@pa1 _ _ _ (Z0 rfl Vq Vr (ZW ?h7) (λC s H ex pn=>(nmT 0 Vs)) (λC s H ex pn=>(Y9 (Zt (NF (K:=K) rfl) (it K (pv 0) Zb) (it K (pv 1) Zb) (by with_unfolding_all rfl)))) (λC s H ex pn=>(it K (pv 0) Zb))) (by rfl)))))
 case' h9=>refine' (Yc aT rfl (ZW ?h2) (YN rfl (Zn (nmT 4 Xg.nd) (Zn (nmT 5 Xg.nd) Yd))) (@Zd _ _ _ ?h6))
 case' h8=>refine' (@ZG _ _ _ _ _ _ _ _ (@Zt _ _ _ _ _ _ _ _ X3 (pv 1) ZF (ZC _)) (@Zd _ _ _ ?h1) Zp)
 case' h7=>refine' (@it _ _ _ _ _ _ K (pv 0) Zb (by rfl) (by exact λ_ _=>rfl))
 case' h6=>refine' (@ZG _ _ _ _ _ _ _ _ (PW.pt (U8 (@Zt _ _ _ _ _ _ _ _ MU (pv 5) (pv 2) (ZC _)) (VA (Zt (Rx hr.units) ?h3 ?h4 (by with_unfolding_all rfl))))) (@Zd _ _ _ ?h5) Zp)
 case' h5=>refine' (Zl ZF)
 case' h4=>refine' (@it _ _ _ _ _ _ K (pv 0) Zb (by rfl) (by exact λ_ _=>rfl))
 case' h3=>refine' (@Zu _ _ _ _ _ (@pa2 _ _ _ _ _ (pv 4) ZF (by rfl)))
 case' h2=>refine' (@it _ _ _ _ _ _ K (pv 3) Zb (by rfl) (by exact λ_ _=>rfl))
 case' h1=>refine' (Zl ZF)
 case' rd=>
 obtain⟨p,a,b,ys,rfl,hp,ha,hb,ps,lk,nd1,nd2,lg,lsp⟩:=good;have lys:=aK ps;rw[show L2.start ([q_w,"_law_across_here","_law_turn","_law_line_here","_law_place","_law_at"]:List Str) [V.ref pw,optV A,V.int i,.ref p]=[some (.ref pw),some (optV A),some (.int i),some (.ref p),none,none]from rfl];refine tqr λD0 hk0 hr0=>?_;refine⟨_,rfl,rfl,_,rfl,?_⟩;cases A with
|none=>refine iteT (hr0 _ _ ?_);exact k _ (Same.refl _)
|some m=>
 refine iteF (hk0 _ _ (tqr λD3 hk3 hr3=>?_));clear hk0 hr0;refine ixT 1 hp rfl ⟨b,rfl,⟨_,SqL.of hb⟩,?_⟩;refine YC (J:=Itl K b) ss.length (λj σ H'=>Same H H'/\Xj T (ss.take j) i=false/\∃o:Nat->Option V,σ=[some (.ref pw),some (.int m),some (.int i),some (.ref p),o 4,o 5]) ?_ (λj σ H' hj q=>⟨_,ys[j]'(by omega),SqL.of (q.1 _ _ hb),gE _⟩) (λσ H' q=>⟨_,SqL.of (q.1 _ _ hb),by omega⟩) (λj σ H11 x H12 hj q yl=>?_) (λσ H11 q=>?_)
 ·exact⟨Same.refl _,rfl,shp rfl⟩
 ·obtain⟨s1,hh,o,rfl⟩:=q;obtain⟨rfl,hy⟩:=yl;have hx:=hy _ (SqL.of (s1 _ _ hb));obtain⟨z,hz,q,rfl,hq⟩:=Yv ps hx;have hq':=s1 _ _ hq;try dsimp only[Zq,ay]
  refine⟨q,_,rfl,SqT.of hq',rfl,_,_,rfl,_,_,rfl,rfl,?_⟩;try dsimp only[Zq,ay]
  have hnext:Xj T (ss.take (j+1)) i=(hmB T z.1&&decide (z.2<=i)):=by
   have:Xj T (ss.take (j+1)) i=(Xj T (ss.take j) i||(hmB T z.1&&decide (z.2<=i))):=by unfold Xj;rw[bc,hz,List.any_append];simp
   rw[this,hh,Bool.false_or]
  refine⟨_,rfl,_,rfl,_,_,rfl,rfl,_,rfl,?_⟩;refine ite2 (λe=>?_) (λe=>?_)
  ·refine⟨_,rfl,Zx (by show 2<=1000;decide),λq2 hq2=>?_⟩;have S2:Same H12 (upd H12 q2 (.tup [.str z.1,.non])):=sameNew (Same.refl _) hq2;have w12:=(wt.same s1).same S2;obtain⟨as,e1,e2,e3⟩:=w12.r1;refine ixT 1 w12.at_ rfl ⟨q2,l1,_,as,T.t1,rfl,rfl,Zf,rfl,e1,e2,λm c r h1 h2=>⟨e3 m c r h1 h2,So ok (aA h2)⟩,_,rfl,?_⟩;rw[EC ok];refine XS (λe'=>?_) (λe'=>⟨s1.trans S2,?_,shp rfl⟩)
   ·refine hr3 _ _ ?_;have hl:QD T i gs ss (some m)=none:=by show(if Xj T ss i=true then none else some (m+byd T gs))=none;rw[if_pos];unfold Xj;exact bJ.mpr ⟨z,aA hz,by rw[e'];exact e⟩
    have:=k _ (s1.trans S2);rw[hl]at this;exact this
   ·rw[hnext,e'];rfl
  ·refine⟨s1,?_,shp rfl⟩;rw[hnext,decide_eq_false (λz=>e (decide_eq_true z)),Bool.and_false]
 ·obtain⟨s1,hh,o,rfl⟩:=q;rw[aW]at hh;refine hk3 _ _ ?_;clear hk3 hr3;have w1:=wt.same s1;refine⟨_,rfl,ixT 4 w1.at_ rfl ⟨l4,rfl,⟨_,SqL.of w1.r4.choose_spec.1⟩,?_⟩⟩;refine Ug (J:=Itl K l4) T.t4 (Nat.le_trans (Xv ok).2.2.2 (by decide)) (λy=>!inV (.str (nameOf y)) (gs.map V.str)) (λy=>V.int (Zz y)) (λτ=>∃v1,τ=[v1,some (.ref p)]) ⟨none,rfl⟩ (λj H' hj sm=>(w1.r4.same sm).go hj) (λH' sm=>(w1.r4.same sm).stop) (λj y τ u H9 H10 hx st sm yl N1 N2 h1 h2=>?_) ?_
  ·obtain⟨v1,rfl⟩:=st;obtain⟨rfl,a',rfl,ha'⟩:=(w1.r4.same sm).item hx yl;obtain⟨a1,b1,c1,d1,rfl,_⟩:=XJ ok (aA hx);refine ixT 0 ha' rfl (ixT 0 (sm _ _ (s1 _ _ hp)) rfl ⟨a,_,rfl,.inl (SqL.of (sm _ _ (s1 _ _ ha))),rfl,by simp[Yw],_,rfl,?_⟩);exact XS (λe=>ixT 3 ha' rfl (h1 e _ _ ⟨_,rfl⟩ sm)) (λe=>h2 e _ _ ⟨_,rfl⟩ sm)
  intro H9 sm l9 h9;refine⟨l9,(T.t4.filter λy=>!inV (.str (nameOf y)) (gs.map V.str)).map Zz,rfl,SqL.of (by rw[Zf,bI];rfl),_,_,rfl,rfl,?_⟩;have eb:((T.t4.filter λy=>!inV (.str (nameOf y)) (gs.map V.str)).map Zz).sum=byd T gs:=by unfold byd;rw[show(λy:List V=>!inV (.str (nameOf y)) (gs.map V.str))=λy=>!decide (nameOf y∈gs)from by funext y;rw[HJ]]
  rw[eb];have kk:∀H',Same H H'->Q (optV (some (m+byd T gs))) H':=λH' s'=>by have:=k H' s';rw[show QD T i gs ss (some m)=some (m+byd T gs)from by show(if Xj T ss i=true then none else some (m+byd T gs))=_;rw[hh,if_neg Bool.false_ne_true]]at this;exact this
  exact kk _ (s1.trans (sameNew sm h9))
end
end SX
namespace L2
open PySem PySem.Spec PyProof.Rows
def Rr:R2:=λx y H Q=>∃(a l:Addr)(xs:List V)(as:List Addr)(rows:List (List V)),x=.ref a/\y=.ref l/\H a=some (.tup xs)/\xs.all Yw=true/\H l=some (.lst (as.map V.ref))/\as.length=rows.length /\(∀(i:Nat)c r,as[i]?=some c->rows[i]?=some r->H c=some (.tup r)/\r.all Yw=true)/\Q (.bl (!(rows.any λr=>YK r xs))) H
section
variable {X:Cx}
theorem VT(hu:X.A.units+64<cLine):OpR X (br .NotIn) Rr:=by
 intro pins s σ H x y v u Q I rx ry h;obtain⟨a,l,xs,as,rows,rfl,rfl,ha,fx,hl,len,hr,q⟩:=h;cases rx;cases ry;obtain⟨its,rv,p,hz⟩:=I.list (SqL.of hl);have eu:=Pq rv;subst eu;obtain⟨ia,ra,pa,za⟩:=I.tuple (SqT.of ha);have key:∀c r,H c=some (.tup r)->r.all Yw=true->SeqAt.EqAt X.A.in1 s (.ref c) (.ref a) (YK r xs):=λc r hc fr=>by
  by_cases e:c=a
  ·subst e;rw[ha]at hc;cases hc;rw[MP fx];exact gW _
  ·obtain⟨ic,rc,pc,zc⟩:=I.tuple (SqT.of hc);have z:=SeqAt.RcAt.tuples (A:=X.A.in1) (s:=s) (e:=λj=>eqV (r.getD j .non) (xs.getD j .non)) pc pa (by show X.A.units+1<cLine;omega) (λj h1 h2=>by
    have h1':j<r.length:=by rw[rc.length];simpa using h1
    have h2':j<xs.length:=by rw[ra.length];simpa using h2
    obtain⟨u1,e1,r1⟩:=rc.get (gE h1');obtain⟨u2,e2,r2⟩:=ra.get (gE h2');have f1:Yw r[j]=true:=bg.mp fr _ (aE h1');have f2:Yw xs[j]=true:=bg.mp fx _ (aE h2');have g1:r.getD j .non=r[j]:=by rw[aw,gE h1'];rfl
    have g2:xs.getD j .non=xs[j]:=by rw[aw,gE h2'];rfl
    have w1:ic.toArray[j]=u1:=by have:ic[j]?=some u1:=e1;rw[ak]at this;simpa using this.2
    have w2:ia.toArray[j]=u2:=by have:ia[j]?=some u2:=e2;rw[ak]at this;simpa using this.2
    rw[g1,g2,w1,w2];exact RO r1 r2 f1 f2);rw[aq,aq,<-rc.length,<-ra.length]at z;exact SeqAt.EqAt.of_refs e z
 refine SeqAt.notIn_listAt (λu=>YK (rowAt H u) xs) p.isList (λw hw=>?_) ⟨.bl _,H,I,rfl,?_⟩
 ·have hw':w∈as.map Value.ref:=by simpa using hw
  obtain⟨c,hc,rfl⟩:=ah.mp hw';obtain⟨i,hi⟩:=aY.mp hc;have hi':i<rows.length:=by rw[<-len];exact(ak.mp hi).1
  obtain⟨h1,h2⟩:=hr i c _ hi (gE hi');have e:rowAt H (.ref c)=rows[i]:=by unfold rowAt;dsimp only;rw[h1]
  rw[e];exact key c _ h1 h2
 ·have:(as.map Value.ref).toArray.any (λu=>YK (rowAt H u) xs)=rows.any λr=>YK r xs:=by rw[<-MO len hr];simp
  rw[this];exact q
end
end L2
namespace SX
open PySem L2 PySem.Spec PyProof.Rows TB WD
noncomputable def sRow(s:Spt):List V:=[.str s.1,.int s.2]
theorem DO{H:Hp}{ys:List V}{ss:List Spt}(h:bj (SpAt H) ys ss):∃as:List Addr,ys=as.map V.ref/\as.length=(ss.map sRow).length/\∀(i:Nat)c r,as[i]?=some c->(ss.map sRow)[i]?=some r->H c=some (.tup r)/\r.all Yw=true:=by
 induction h with
|nil=>exact⟨[],rfl,rfl,λi c r h=>by cases h⟩
|cons h0 _ ih=>
  obtain⟨a,e,ha⟩:=h0;obtain⟨as,e1,e2,e3⟩:=ih;refine⟨a::as,by rw[e,e1];rfl,by simp[e2],λi c r h1 h2=>?_⟩;rcases i with _|i
  ·cases h1;cases h2;exact⟨ha,rfl⟩
  ·exact e3 i c r (by simpa using h1) (by simpa using h2)
theorem DN(ss:List Spt)(p:Str)(k:Int):((ss.map sRow).any λr=>YK r [.str p,.int k])=decide ((p,k)∈ss):=by
 rw[Bool.eq_iff_iff,bJ,decide_eq_true_iff];have he:∀s:Spt,YK (sRow s) [.str p,.int k]=true↔s=(p,k):=λs=>by obtain⟨a,b⟩:=s;simp[YK,sRow,eqV,bV]
 constructor
 ·rintro ⟨r,hr,e⟩;obtain⟨s,hs,rfl⟩:=ah.mp hr;rw[he]at e;exact e▸hs
 ·exact λh=>⟨_,ah.mpr ⟨_,h,rfl⟩,(he _).mpr rfl⟩
theorem Vb{α β:Type}{R:α->β->Prop}{a b:List α}{c d:List β}(h:bj R a c)(h2:bj R b d):bj R (a++b) (c++d):=by
 induction h with
|nil=>exact h2
|cons r _ ih=>exact .cons r ih
theorem QJ{T:Tb}(o:OkTb T){y:List V}(h:y∈T.t4):sA y 1∈T.t1.map nameOf:=by obtain⟨k1,hk⟩:=Mm o;have r:=V7 o (j:=4) (.inr (.inr (.inr rfl))) h;have hw:=r.why k1 (λ_=>hk.has);obtain⟨a,b,c,d,rfl⟩:=len4 r.len;obtain⟨h1,h2,i,rfl,i0,i1⟩:=Ve (hw (300-Zz [a,b,c,d]) (λ_=>by omega):Y6 k1 T.n _ b c d=.non);obtain⟨x,v,rfl,hv⟩:=Yu h1;show x∈_;refine iB λhn=>?_;rw[hk.no x hn]at hv;cases hv
section
variable {H H':Hp}{b:Addr}{T:Tb}{v:V}{gs:List Str}{ss:List Spt}
theorem Mv{a:Addr}(bx:ZA H b)(ha:H a=some (.lst (gs.map V.str))):a≠b:=λe=>by
 obtain⟨x,y,z,eb⟩:=bx;rw[e,eb]at ha;injection ha with ha;unfold boxV at ha;injection ha with ha;cases gs with
|nil=>cases ha
|cons g gs=>injection ha with h1 _;cases h1
theorem Xo{a:Addr}{ys:List V}(bx:ZA H b)(ha:H a=some (.lst ys))(ps:bj (SpAt H) ys ss):a≠b:=λe=>by
 obtain⟨x,y,z,eb⟩:=bx;rw[e,eb]at ha;injection ha with ha;unfold boxV at ha;injection ha with ha;subst ha;cases ps with
|cons h _=>obtain⟨a',e',_⟩:=h;cases e'
theorem Mu{a:Addr}{ys:List V}(bx:ZA H b)(ha:H a=some (.tup ys)):a≠b:=λe=>by obtain⟨x,y,z,eb⟩:=bx;rw[e,eb]at ha;cases ha
theorem SpAt.sameB(bx:ZA H b)(s:Zj b H H'){x:Spt}(h:SpAt H v x):SpAt H' v x:=by obtain⟨a,e,h⟩:=h;exact⟨a,e,s _ _ h (Mu bx h)⟩
theorem Yh.sameB(bx:ZA H b)(s:Zj b H H')(h:Yh H T v gs ss):Yh H' T v gs ss:=by obtain⟨p,a,c,ys,e,h1,h2,h3,h4,r⟩:=h;exact⟨p,a,c,ys,e,s _ _ h1 (Mu bx h1),s _ _ h2 (Mv bx h2),s _ _ h3 (Xo bx h3 h4),Paired.mapP h4 λ_ _ q=>q.sameB bx s,r⟩
end
structure Bx(H0 H:Hp)(b:Addr):Prop where
 fr:H0 b=none
 sm:Same H0 H
 bx:ZA H b
theorem Bx.to{H0 H H':Hp}{b:Addr}(h:Bx H0 H b)(s:Zj b H H')(bx:ZA H' b):Bx H0 H' b:=⟨h.fr,Yz h.fr h.sm s,bx⟩
theorem Fx{T:Tb}(o:OkTb T){gs:List Str}(h:gs.Sublist (T.t4.map nameOf)):(∀g∈gs,g∈T.t4.map nameOf)/\gs.Nodup/\gs.length<=T.t4.length:=⟨λg hg=>h.subset hg,(NI o (j:=4) (.inr (.inr (.inr rfl)))).sublist h,by have:=h.length_le;rwa [bq]at this⟩
def Kx:Sp:=λvs H Q _=>∃(b pw l1 l2 l3 l4:Addr)(T:Tb)(H0:Hp),vs=[.ref b,.ref pw]/\Bx H0 H b/\WAt H0 pw T l1 l2 l3 l4/\OkTb T/\Wd T /\∀H' v gs ss,ZA H' b->Zj b H H'->Yh H' T v gs ss->gs.length<=8->ss.length<=300->Q v H'
theorem Qq{α β:Type}{R:α->β->Prop}{a:List α}{c:List β}(h:bj R a c):bj R a.reverse c.reverse:=by
 induction h with
|nil=>exact .nil
|cons r _ ih=>rw[fG,fG];exact dq ih r
section
variable {P:Program}{w:World}{K:aa}{mg:Str->Option Value}{base:Heap}{C:Addr}
theorem ZM:FnScope [q_b,q_w,"_law_groups","_law_spots","_law_place","_law_room","_law_way_here","_law_name","_law_turn","_law_many"] [q_b,q_w] (Zc T.f__law_line):=scO
noncomputable def Jc:Scope:=csx [(".0",.local),("_law_row",.local),("_law_take",.globalImplicit),(q_b,.free)]
theorem GR:CompScope Jc (Zc T.f__law_line):=⟨rfl,by decide +kernel,by decide +kernel,by decide +kernel⟩
theorem GV:(["_law_row",q_b]:List Str).Nodup:=by decide +kernel
theorem GU:CompNames [q_b,q_w,"_law_groups","_law_spots","_law_place","_law_room","_law_way_here","_law_name","_law_turn","_law_many"] Jc ["_law_row",q_b] [none,some 0]:=.mk' (by decide +kernel)
noncomputable def V1:Scope:=csx [(".0",.local),("_law_at",.local),("_law_take",.globalImplicit),(q_b,.free),("_law_place",.free)]
theorem GO:CompScope V1 (Zc T.f__law_line):=⟨rfl,by decide +kernel,by decide +kernel,by decide +kernel⟩
theorem GQ:(["_law_at",q_b,"_law_place"]:List Str).Nodup:=by decide +kernel
theorem GP:CompNames [q_b,q_w,"_law_groups","_law_spots","_law_place","_law_room","_law_way_here","_law_name","_law_turn","_law_many"] V1 ["_law_at",q_b,"_law_place"] [none,some 0,some 4]:=.mk' (by decide +kernel)
noncomputable def V0:Scope:=csx [(".0",.local),("_law_at",.local),("_law_place",.free),("_law_spots",.free)]
theorem GK:CompScope V0 (Zc T.f__law_line):=⟨rfl,by decide +kernel,by decide +kernel,by decide +kernel⟩
theorem GN:(["_law_at","_law_place","_law_spots"]:List Str).Nodup:=by decide +kernel
theorem GL:CompNames [q_b,q_w,"_law_groups","_law_spots","_law_place","_law_room","_law_way_here","_law_name","_law_turn","_law_many"] V0 ["_law_at","_law_place","_law_spots"] [none,some 4,some 3]:=.mk' (by decide +kernel)
noncomputable def VZ:Scope:=csx [(".0",.local),("_law_place",.local),("_law_at",.local),(q_w,.free)]
theorem GI:CompScope VZ (Zc T.f__law_line):=⟨rfl,by decide +kernel,by decide +kernel,by decide +kernel⟩
theorem Jy:(["_law_place","_law_at",q_w]:List Str).Nodup:=by decide +kernel
theorem GJ:CompNames [q_b,q_w,"_law_groups","_law_spots","_law_place","_law_room","_law_way_here","_law_name","_law_turn","_law_many"] VZ ["_law_place","_law_at",q_w] [none,none,some 1]:=.mk' (by decide +kernel)
theorem WT(B:∀x∈Blts,mg x=none)(CT:Can P w K mg base 1 "_law_take" [q_b,"_law_many"] Y1)(D:Df K mg "_law_line" T.f__law_line [q_b,q_w]):Can P w K mg base 2 "_law_line" [q_b,q_w] Kx:=by
 refine D.cn ZM λf cdv A outer s H vs Q E hr h=>?_;obtain⟨b,pw,l1,l2,l3,l4,T,H0,rfl,bx0,wt,ok,wd,k⟩:=h;refine' ⟨_,(@Za _ _ _ _ _ ?h14 (@Za _ _ _ _ _ ?h15 (@Za _ _ _ _ _ ?h16 (@Za _ _ _ _ _ ?h17 (@Za _ _ _ _ _ ?h18 (@Za _ _ _ _ _ ?h19 (@Za _ _ _ _ _ ?h20 (@Zd _ _ _ ?h21)))))))),?rd⟩;case' h21=>refine' (Zl ?h13)
 case' h20=>refine' (@ZG _ _ _ _ _ _ _ _ (@Zt _ _ _ _ _ _ _ _ Xw (cn CT hr (@pa2 _ _ _ _ _ (pv 0) Zb (by rfl))) Zb (ZC _)) (@Za _ _ _ _ _ ?h11 (@Zd _ _ _ ?h12)) Zp)
 case' h19=>refine' (@ZG _ _ _ _ _ _ _ _ (@Zt _ _ _ _ _ _ _ _ Xw (pv 6) Zb (ZC _)) (@Zd _ _ _ ?h10) Zp)
 case' h18=>refine' (Yc aT rfl (ZW ?h6) (YN rfl (Zn (nmT 7 ZM.nd) (Zn (VC (i:=4) ZM.nd rfl (dC rfl)) (Zn (nmT 8 ZM.nd) (Zn (nmT 9 ZM.nd) Yd))))) (@Zd _ _ _ ?h9))
 case' h17=>refine' (@st _ _ _ _ 6 _ _ ZM.nd (cn CT hr (@pa2 _ _ _ _ _ (pv 0) Zb (by rfl))) (by rfl) (by exact aO rfl) (by rfl) (by exact .inl rfl))
 case' h16=>refine' (Yc aT rfl (ZW ?h3) (YN rfl (Zn (VC (i:=4) ZM.nd rfl (dC rfl)) (Zn (nmT 5 ZM.nd) Yd))) (@Zd _ _ _ ?h5))
 case' h15=>refine' (@Yn _ _ 3 _ _ _ _ ZM.nd (by rfl) (by exact dC rfl) ?h2 (by rfl) (by exact aO rfl))
 case' h14=>refine' (Mi (i:=2) ZM.nd rfl (aO rfl) (scope:=Jc) (N:=["_law_row",q_b]) (cp:=[none,some 0]) rfl GR GU (ZW ?h1) (λC s H ex pn=>(nmT 0 GV)) (λC s H ex pn=>(Y9 (Zt Xw (cn CT hr (Ze (pv 1) (Ze Zb Zk))) Zb (ZC _)))) (λC s H ex pn=>(it K (pv 0) Zb)))
 case' h13=>refine' (@Zu _ _ _ _ _ (@pa2 _ _ _ _ _ (pv 2) (pv 3) (by rfl)))
 case' h12=>refine' (@Yn _ _ 3 _ _ _ _ ZM.nd (by rfl) (by exact dC rfl) (Lh (pv 3) (Qm Mx Zb)) (by rfl) (by exact aO rfl))
 case' h11=>refine' (@st _ _ _ _ 2 _ _ ZM.nd (Lh (pv 2) (Qm Mx Zb)) (by rfl) (by exact aO rfl) (by rfl) (by exact .inl rfl))
 case' h10=>refine' (@Yn _ _ 3 _ _ _ _ ZM.nd (by rfl) (by exact dC rfl) (Z0 rfl GI GJ (ZW (pv 3)) (λC s H ex pn=>(Mj (K:=K) (n:=2) rfl rfl (Zn (nmT 0 Jy) (Zn (nmT 1 Jy) Yd)))) (λC s H ex pn=>(Y9 (PW.pt (JT (Zt (VT hr.units) (Zu (Ze (pv 0) (Ze ZF Zk))) (it K (pv 2) Zb) (by with_unfolding_all rfl)) (Xh (Zt NH (pv 1) (Zo PD (it K (pv 2) Zb) Zb) (ZC _))))))) (λC s H ex pn=>(Zu (Ze (pv 0) (Ze (pv 1) Zk))))) (by rfl) (by exact aO rfl))
 case' h9=>refine' (@ZG _ _ _ _ _ _ _ _ (PW.pt (U8 (@Zt _ _ _ _ _ _ _ _ NH (pv 6) Zb (ZC _)) (VA (Zt (FW (K:=K) rfl) (pv 7) (pv 2) (by with_unfolding_all rfl))))) (@Zd _ _ _ ?h8) Zp)
 case' h8=>refine' (@Yn _ _ 3 _ _ _ _ ZM.nd (by rfl) (by exact dC rfl) (Zo Z6 (pv 3) (Z0 rfl GK GL (Xp rfl (bm B) (@pa2 _ _ _ _ _ (pv 8) (Zo ZI ?h7 Zb) (by rfl))) (λC s H ex pn=>(nmT 0 GN)) (λC s H ex pn=>(Y9 (Zt (VT hr.units) (Zu (Ze (pv 1) (Ze (pv 0) Zk))) (pv 2) (by with_unfolding_all rfl)))) (λC s H ex pn=>(Zu (Ze (pv 1) (Ze (pv 0) Zk)))))) (by rfl) (by exact aO rfl))
 case' h7=>refine' (@it _ _ _ _ _ _ K (pv 1) Zb (by rfl) (by exact λ_ _=>rfl))
 case' h6=>refine' (@it _ _ _ _ _ _ K (pv 1) Zb (by rfl) (by exact λ_ _=>rfl))
 case' h5=>refine' (@Yn _ _ 3 _ _ _ _ ZM.nd (by rfl) (by exact dC rfl) (Zo Z6 (pv 3) (Z0 rfl GO GP (YD rfl (bm B) (@pa1 _ _ _ (Zo ZI ?h4 Zb) (by rfl))) (λC s H ex pn=>(nmT 0 GQ)) (λC s H ex pn=>(Y9 (Zt Xw (cn CT hr (Ze (pv 1) (Ze Zb Zk))) Zb (ZC _)))) (λC s H ex pn=>(Zu (Ze (pv 2) (Ze (pv 0) Zk)))))) (by rfl) (by exact aO rfl))
 case' h4=>refine' (@it _ _ _ _ _ _ K (pv 1) Zb (by rfl) (by exact λ_ _=>rfl))
 case' h3=>refine' (@it _ _ _ _ _ _ K (pv 1) Zb (by rfl) (by exact λ_ _=>rfl))
 case' h2=>refine' (@Zy _ _ _ _ Zk)
 case' h1=>refine' (@it _ _ _ _ _ _ K (pv 1) Zb (by rfl) (by exact λ_ _=>rfl))
 case' rd=>
 have n0:=ok.n0;have n12:=wd.n12;have hbb:=bx0.bx;have tw:∀{H':Hp},Zj b H H'->WAt H' pw T l1 l2 l3 l4:=λs=>wt.same (Yz bx0.fr bx0.sm s);have l4len:T.t4.length<=sizeLine:=Nat.le_trans (Xv ok).2.2.2 (by decide);rw[show L2.start ([q_b,q_w,"_law_groups","_law_spots","_law_place","_law_room","_law_way_here","_law_name","_law_turn","_law_many"]:List Str) [V.ref b,V.ref pw]=[some (.ref b),some (.ref pw),none,none,none,none,none,none,none,none]from rfl];have w0:=tw (Zj.refl b H);refine tq λD1 hk1=>?_;refine ixT 4 w0.at_ rfl ⟨l4,rfl,⟨_,SqL.of w0.r4.choose_spec.1⟩,?_⟩;refine JP (J:=Itl K l4) T.t4.length l4len (λj zs τ H'=>ZA H' b/\Zj b H H'/\(∃gs:List Str,zs=gs.map V.str/\gs.Sublist ((T.t4.take j).map nameOf))/\∃v,τ=[v,some (.ref b)]) ⟨hbb,Zj.refl b H,⟨[],rfl,.slnil⟩,none,rfl⟩ (λj zs τ H' q=>?_) (λj zs τ H' hj q=>(tw q.2.1).r4.go hj) (λzs τ H' q=>(tw q.2.1).r4.stop) (λj zs τ H' x H2 hj q yl=>?_) (λzs τ H' q lG hG=>?_)
 ·obtain⟨_,_,⟨gs,rfl,sub⟩,_⟩:=q;have:=sub.length_le;rw[lm,aN]at this;rw[lm];omega
 ·obtain⟨bx,sm,⟨gs,rfl,sub⟩,v1,rfl⟩:=q;have e0:T.t4[j]?=some T.t4[j]:=gE hj;obtain⟨rfl,a',rfl,ha'⟩:=(tw sm).r4.item e0 yl;rw[bc,e0,aL];have hm:=aE hj;generalize T.t4[j]=y at ha' hm;obtain⟨a1,b1,c1,d1,rfl,_⟩:=XJ ok hm;refine tkC bx (λr H3 r0 r1 B3 S3=>?_);refine⟨rfl,_,rfl,?_⟩;refine ite2 (λ_=>?_) (λ_=>?_)
  ·exact ixT 0 (S3 _ _ ha' (Mu bx ha')) rfl ⟨B3,sm.trans S3,⟨gs++[a1],by rw[aL];rfl,sub.append (gf _)⟩,_,rfl⟩
  ·exact⟨B3,sm.trans S3,⟨gs,rfl,sub.trans (fK _ _)⟩,_,rfl⟩
 obtain⟨bx,sm,⟨gs,rfl,sub⟩,v1,rfl⟩:=q;rw[aW]at sub;refine al2 bx hG λH1 B1 S1 eG nG'=>?_;have S01:=sm.trans S1;refine hk1 _ _ (tq λD3 hk3=>?_);clear hk1 sm S1 bx hG;try dsimp only[Zq,ay]
 refine⟨Nat.zero_le _,λlS hS=>?_⟩;try dsimp only[Zq,ay]
 refine al B1 hS λH3 B3 S3 eS nS'=>?_;have S03:=S01.trans S3;have eG3:=S3 _ _ eG nG';refine hk3 _ _ (tq λD4 hk4=>?_);clear hk3 eG S01 S3 B1 hS;refine ixT 1 ((tw S03).at_) rfl ⟨l1,rfl,⟨_,SqL.of (tw S03).r1.choose_spec.1⟩,?_⟩;refine YC (J:=Itl K l1) T.t1.length (λj σ H'=>ZA H' b/\Zj b H H'/\H' lG=some (.lst (gs.map V.str))/\∃c ys ss,H' c=some (.lst ys)/\bj (SpAt H') ys ss/\(∀s∈ss,Xl T s)/\ss.Nodup/\(∀s∈ss,s.1∈(T.t1.take j).map nameOf)/\ss.length<=13*j/\∃o:Nat->Option V,σ=[some (.ref b),some (.ref pw),some (.ref lG),some (.ref c),o 4,o 5,o 6,o 7,o 8,o 9]) ?_ (λj σ H' hj q=>(tw q.2.1).r1.go hj) (λσ H' q=>(tw q.2.1).r1.stop) (λj σ H' x H4 hj q yl=>?_) (λσ H' q=>?_)
 ·exact⟨B3,S03,eG3,lS,[],[],eS,.nil,by simp,dA,by simp,Nat.zero_le _,shp rfl⟩
 ·obtain⟨bx,sm,eg,c,ys,ss,ec,ps,hs,nd,hpl,hln,o,rfl⟩:=q;have e0:T.t1[j]?=some T.t1[j]:=gE hj;obtain⟨rfl,a',rfl,ha'⟩:=(tw sm).r1.item e0 yl;have hm:=aE hj;have hnew:nameOf T.t1[j]∉(T.t1.take j).map nameOf:=λhz=>by
   obtain⟨z,hz1,hz2⟩:=ah.mp hz;obtain⟨m,hm'⟩:=aY.mp hz1;have hmj:m<j:=by have:=(ak.mp hm').1;rw[aN]at this;omega
   rw[fM hmj]at hm';obtain⟨hm1,hm2⟩:=ak.mp hm';have:=fC.mp (NI ok (j:=1) (.inl rfl)) m j (by rw[lm];exact hm1) (by rw[lm];exact hj) hmj;rw[fQ,fQ]at this;exact this (by show nameOf (T.t1[m])=nameOf T.t1[j];rw[hm2,hz2])
  have etk:(T.t1.take (j+1)).map nameOf=(T.t1.take j).map nameOf++[nameOf T.t1[j]]:=by rw[bc,e0,aL];rfl
  have hin:nameOf T.t1[j]∈T.t1.map nameOf:=ah.mpr ⟨_,hm,rfl⟩;rw[etk];clear etk;generalize T.t1[j]=y at ha' hm hnew hin e0;obtain⟨⟨nm,rm⟩,rfl,gnm',_⟩:=XQ ok hm;refine⟨a',_,rfl,SqT.of ha',rfl,_,_,rfl,_,_,rfl,rfl,?_⟩;try dsimp only[Zq,ay]
  refine td λD' hdd=>?_;refine⟨_,rfl,ixT 0 ((tw sm).at_) rfl ⟨_,_,rfl,rfl,_,rfl,by omega,by omega,?_⟩⟩;refine JP (J:=Itr 0 (T.n+1).toNat) (T.n+1).toNat (Zx (by omega)) (λm zs τ H'=>ZA H' b/\Zj b H4 H'/\(∃ks:List Nat,bj (SpAt H') zs (ks.map λ(k:Nat)=>((nm,0+(k:Int)):Spt))/\ks.Sublist (aV m))/\∃v,τ=[v,some (.ref b),some (.str nm)]) ⟨bx,Zj.refl b H4,⟨[],.nil,.slnil⟩,none,rfl⟩ (λm zs τ H' q=>?_) (λm zs τ H' hm' q=>hm') (λzs τ H' q=>Nat.le_refl _) (λm zs τ H' x H6 hm' q yl=>?_) (λzs τ H6 q lZ hZ=>?_)
  ·obtain⟨_,_,⟨ks,pz,sub'⟩,_⟩:=q;have:=sub'.length_le;rw[bf]at this;rw[aK pz,lm];exact this
  ·obtain⟨bx',sm',⟨ks,pz,sub'⟩,v1,rfl⟩:=q;obtain⟨rfl,rfl⟩:=yl;refine tkC bx' (λr H7 r0 r1 B7 S7=>?_);refine⟨rfl,_,rfl,?_⟩;have pz7:=Paired.mapP pz λ_ _ q=>q.sameB bx' S7;rw[bV];refine ite2 (λ_=>?_) (λ_=>?_)
   ·refine⟨_,rfl,_,rfl,Zx (by show 2<=1000;decide),λq hq=>?_⟩;refine⟨B7.new hq,(sm'.trans S7).new' hq,⟨ks++[m],?_,sub'.append (gf _)⟩,_,rfl⟩;rw[aL];exact dq (Paired.mapP pz7 λ_ _ q'=>q'.same (sameNew (Same.refl _) hq)) ⟨q,rfl,Zf⟩
   ·exact⟨B7,sm'.trans S7,⟨ks,pz7,sub'.trans (fK _ _)⟩,_,rfl⟩
  ·obtain⟨bx',sm',⟨ks,pz,sub'⟩,v1,rfl⟩:=q;refine al2 bx' hZ λH7 B7 S7 eZ nZ=>?_;have S57:=sm'.trans S7;have ec7:=S57 _ _ ec (Xo bx ec ps);have ps7:=Paired.mapP ps λ_ _ q=>q.sameB bx S57;have pz7:=Paired.mapP pz λ_ _ q=>q.sameB bx' S7;have lks:ks.length<=13:=by have:=sub'.length_le;rw[bf]at this;omega
   have ly:=aK ps;have lz:=aK pz;rw[lm]at lz;have hj9:j<9:=by have:=wd.p9;omega
   refine⟨c,lZ,ys,zs,rfl,rfl,ec7,eZ,Zx (by omega),λl8 h8=>?_⟩;refine hdd _ _ ⟨B7.new h8,(sm.trans S57).new' h8,?_,l8,ys++zs,ss++ks.map (λ(k:Nat)=>((nm,0+(k:Int)):Spt)),Zf,?_,?_,?_,?_,?_,shp rfl⟩
   ·rw[Zg (Zi (S57 _ _ eg nG') h8)];exact S57 _ _ eg nG'
   ·exact Paired.mapP (Vb ps7 pz7) λ_ _ q'=>q'.same (sameNew (Same.refl _) h8)
   ·intro s' hs';rcases aD.mp hs' with hs'|hs'
    ·exact hs s' hs'
    ·obtain⟨k',hk',rfl⟩:=ah.mp hs';have:=bp.mp (sub'.subset hk');exact⟨hin,by show 0<=0+(k':Int);omega,by show 0+(k':Int)<=T.n;omega⟩
   ·rw[di];refine⟨nd,nodup_map_on (fP.sublist sub') λx _ y _ e=>?_,λu hu u' hu' e=>?_⟩
    ·injection e with _ e;omega
    ·obtain⟨k',hk',rfl⟩:=ah.mp hu';subst e;exact hnew (hpl _ hu)
   ·intro s' hs';rcases aD.mp hs' with hs'|hs'
    ·exact bh _ (hpl s' hs')
    ·obtain⟨k',hk',rfl⟩:=ah.mp hs';exact aU _ (aB.mpr rfl)
   ·rw[aj,lm];omega
 obtain⟨bx,sm,eg,c,ys,ss,ec,ps,hs,nd,hdrop,hln,o,rfl⟩:=q;have hln':ss.length<=117:=by have:=wd.p9;omega
 refine hk4 _ _ (tq λD5 hk5=>?_);clear hk4;refine tkC bx (λway H6 r0 r1 B6 S6=>?_);have sm6:=sm.trans S6;have eg6:=S6 _ _ eg nG';have ec6:=S6 _ _ ec (Xo bx ec ps);have ps6:=Paired.mapP ps λ_ _ q=>q.sameB bx S6;refine hk5 _ _ (tq λD6 hk6=>?_);clear hk5 eg ec ps S6 bx sm hln hdrop;try dsimp only[Zq,ay]
 refine ixT 4 ((tw sm6).at_) rfl ⟨l4,rfl,⟨_,SqL.of (tw sm6).r4.choose_spec.1⟩,?_⟩;refine YC (J:=Itl K l4) T.t4.length (λj σ H'=>Same H6 H'/\∃c ys ss,H' c=some (.lst ys)/\bj (SpAt H') ys ss/\(∀s∈ss,Xl T s)/\ss.Nodup/\ss.length<=117+13*j/\∃o:Nat->Option V,σ=[some (.ref b),some (.ref pw),some (.ref lG),some (.ref c),o 4,o 5,some (.int way),o 7,o 8,o 9]) ?_ (λj σ H' hj q=>((tw sm6).r4.same q.1).go hj) (λσ H' q=>((tw sm6).r4.same q.1).stop) (λj σ H' x H8 hj q yl=>?_) (λσ H' q=>?_)
 ·exact⟨Same.refl _,c,ys,ss,ec6,ps6,hs,nd,by omega,shp rfl⟩
 ·clear ec6 ps6 hs nd hln' c ys ss;obtain⟨s8,c,ys,ss,ec,ps,hs,nd,hln,o,rfl⟩:=q;have e0:T.t4[j]?=some T.t4[j]:=gE hj;obtain⟨rfl,a',rfl,ha'⟩:=((tw sm6).r4.same s8).item e0 yl;have hm:=aE hj;generalize T.t4[j]=y at ha' hm;have hpl:sA y 1∈T.t1.map nameOf:=QJ ok hm;obtain⟨a1,b1,c1,d1,rfl,_,_,c0,c2,_⟩:=XJ ok hm;replace hpl:b1∈T.t1.map nameOf:=hpl;have hj8:j<8:=by have:=wd.g8;omega
  refine⟨a',_,rfl,SqT.of ha',rfl,_,_,rfl,_,_,rfl,_,_,rfl,_,_,rfl,rfl,?_⟩;try dsimp only[Zq,ay]
  refine td λD' hdd=>?_;refine⟨_,rfl,_,_,rfl,rfl,_,rfl,?_⟩;refine ite2 (λ_=>?_) (λ_=>hdd _ _ ⟨s8,c,ys,ss,ec,ps,hs,nd,by omega,shp rfl⟩);refine⟨_,rfl,_,rfl,lG,_,rfl,.inl (SqL.of (s8 _ _ eg6)),rfl,by simp[Yw],_,rfl,?_⟩;refine XS (λ_=>?_) (λ_=>hdd _ _ ⟨s8,c,ys,ss,ec,ps,hs,nd,by omega,shp rfl⟩);have w8:=(tw sm6).same s8;refine⟨_,rfl,_,rfl,ixT 0 w8.at_ rfl ⟨_,_,rfl,rfl,c1,T.n+1,rfl,⟨by omega,by omega,by omega,by omega⟩,?_⟩⟩;refine JP (J:=Itr c1 (T.n+1-c1).toNat) (T.n+1-c1).toNat (Zx (by omega)) (λm zs τ H'=>Same H8 H'/\bj (SpAt H') zs (((aV m).filter λ(k:Nat)=>!decide (((b1,c1+(k:Int)):Spt)∈ss)).map λ(k:Nat)=>((b1,c1+(k:Int)):Spt))/\∃v,τ=[v,some (.str b1),some (.ref c)]) ⟨Same.refl _,.nil,none,rfl⟩ (λm zs τ H' q=>?_) (λm zs τ H' hm' q=>hm') (λzs τ H' q=>Nat.le_refl _) (λm zs τ H' x H9 hm' q yl=>?_) (λzs τ H9 q lZ hZ=>?_)
  ·rw[aK q.2.1,lm];exact Nat.le_trans (bO _ _) (by rw[bf];exact Nat.le_refl _)
  ·obtain⟨s9,pz,v1,rfl⟩:=q;obtain⟨rfl,rfl⟩:=yl;refine⟨_,rfl,_,rfl,Zx (by show 2<=1000;decide),λq hq=>?_⟩;have S9:Same H9 (upd H9 q (.tup [.str b1,.int (c1+m)])):=sameNew (Same.refl _) hq;have s10:=s9.trans S9;obtain⟨as,ey,elen,erow⟩:=DO (Paired.mapP ps λ_ _ q=>q.same s10);refine⟨_,rfl,q,c,_,as,ss.map sRow,rfl,rfl,Zf,rfl,by rw[<-ey];exact s10 _ _ ec,elen,erow,_,rfl,?_⟩;rw[DN];have pz9:=Paired.mapP pz λ_ _ q'=>q'.same S9;rw[bV,gZ];refine XS (λe=>?_) (λe=>?_)
   ·refine⟨_,rfl,_,rfl,Zx (by show 2<=1000;decide),λq2 hq2=>?_⟩;have S10:Same (upd H9 q (.tup [.str b1,.int (c1+m)])) (upd (upd H9 q (.tup [.str b1,.int (c1+m)])) q2 (.tup [.str b1,.int (c1+m)])):=sameNew (Same.refl _) hq2;refine⟨s10.trans S10,?_,_,rfl⟩;rw[cY (p:=λ(k:Nat)=>!decide (((b1,c1+(k:Int)):Spt)∈ss)) e,List.filter_nil,aL];exact dq (Paired.mapP pz9 λ_ _ q'=>q'.same S10) ⟨q2,rfl,Zf⟩
   ·refine⟨s10,?_,_,rfl⟩;rw[cZ (p:=λ(k:Nat)=>!decide (((b1,c1+(k:Int)):Spt)∈ss)) (by show ¬_=true;rw[e];exact Bool.false_ne_true),List.filter_nil,bB];exact pz9
  ·obtain⟨s9,pz,v1,rfl⟩:=q;have S9:Same H8 (upd H9 lZ (.lst zs)):=sameNew s9 hZ;have eZ:upd H9 lZ (.lst zs) lZ=some (.lst zs):=Zf;have pz9:=Paired.mapP pz λ_ _ q'=>q'.same (sameNew (o:=.lst zs) (Same.refl H9) hZ);generalize upd H9 lZ (.lst zs)=H10 at S9 eZ pz9 ⊢;have lz:=aK pz;rw[lm]at lz;have lf:((aV (T.n+1-c1).toNat).filter λ(k:Nat)=>!decide (((b1,c1+(k:Int)):Spt)∈ss)).length<=13:=Nat.le_trans (bO _ _) (by rw[bf];omega);have ly:=aK ps;refine⟨c,lZ,ys,zs,rfl,rfl,S9 _ _ ec,eZ,Zx (by omega),λl11 h11=>?_⟩;have S11:Same H10 (upd H10 l11 (.lst (ys++zs))):=sameNew (Same.refl _) h11;refine hdd _ _ ⟨s8.trans (S9.trans S11),l11,ys++zs,_,Zf,Paired.mapP (Vb (Paired.mapP ps λ_ _ q=>q.same S9) pz9) λ_ _ q'=>q'.same S11,λs' hs'=>?_,?_,?_,shp rfl⟩
   ·rcases aD.mp hs' with hs'|hs'
    ·exact hs s' hs'
    ·obtain⟨k',hk',rfl⟩:=ah.mp hs';have:=bp.mp (bA.mp hk').1;exact⟨hpl,by show 0<=c1+(k':Int);omega,by show c1+(k':Int)<=T.n;omega⟩
   ·rw[di];refine⟨nd,nodup_map_on (fP.sublist List.filter_sublist) λx _ y _ e=>?_,λu hu u' hu' e=>?_⟩
    ·injection e with _ e;omega
    ·obtain⟨k',hk',rfl⟩:=ah.mp hu';subst e;have:=(bA.mp hk').2;rw[decide_eq_true hu]at this;cases this
   ·rw[aj,lm];omega
 clear ec6 ps6 hs nd hln' c ys ss;obtain⟨s8,c,ys,ss,ec,ps,hs,nd,hln,o,rfl⟩:=q;have g8:=wd.g8;have sm8:=sm6.trans (Zj.of s8 (b:=b));have B8:=B6.same s8;have eg8:=s8 _ _ eg6;have ln8:ss.length<=300:=by omega
 refine hk6 _ _ (tq λD7 hk7=>?_);clear hk6 s8 hln eg6 sm6 B6;suffices s7:∀(H':Hp)(c:Addr)(ys:List V)(ss:List Spt)(o:Nat->Option V),ZA H' b->Zj b H H'->H' lG=some (.lst (gs.map V.str))->H' c=some (.lst ys)->bj (SpAt H') ys ss->(∀s∈ss,Xl T s)->ss.Nodup->ss.length<=300->D7.nx [some (.ref b),some (.ref pw),some (.ref lG),some (.ref c),o 4,o 5,some (.int way),o 7,o 8,o 9] H' by
  refine⟨_,rfl,rfl,_,rfl,?_⟩;refine ite2 (λ_=>?_) (λ_=>s7 _ _ _ _ o B8 sm8 eg8 ec ps hs nd ln8);have w8:=tw sm8;have lys:=aK ps;refine⟨_,rfl,c,rfl,⟨_,SqL.of ec⟩,?_⟩;refine JP (J:=Itl K c) ys.length (Zx (by omega)) (λj zs τ H2=>Same H' H2/\(∃ss2:List Spt,bj (SpAt H2) zs ss2/\ss2.Sublist (ss.take j))/\∃v1 v2,τ=[v1,v2,some (.ref pw)]) ⟨Same.refl _,⟨[],.nil,.slnil⟩,none,none,rfl⟩ (λj zs τ H2 q=>?_) (λj zs τ H2 hj q=>⟨_,ys[j],SqL.of (q.1 _ _ ec),gE hj⟩) (λzs τ H2 q=>⟨_,SqL.of (q.1 _ _ ec),Nat.le_refl _⟩) (λj zs τ H2 x H3 hj q yl=>?_) (λzs τ H2 q lZ hZ=>?_)
  ·obtain⟨_,⟨ss2,pz,sb⟩,_⟩:=q;have:=sb.length_le;rw[aN]at this;rw[aK pz];omega
  ·obtain⟨s2,⟨ss2,pz,sb⟩,v1,v2,rfl⟩:=q;obtain⟨rfl,hy⟩:=yl;have hx:=hy _ (SqL.of (s2 _ _ ec));obtain⟨z,hz,q,rfl,hq⟩:=Yv ps hx;rw[bc,hz];have sb0:ss2.Sublist (ss.take j++(some z).toList):=sb.trans (fK _ _);have sb1:(ss2++[z]).Sublist (ss.take j++(some z).toList):=sb.append (gf _);refine⟨q,_,rfl,SqT.of (s2 _ _ hq),rfl,_,_,rfl,_,_,rfl,rfl,?_⟩;try dsimp only[Zq,ay]
   refine⟨_,rfl,Zx (by show 2<=1000;decide),λq2 hq2=>?_⟩;have S2:Same H3 (upd H3 q2 (.tup [.str z.1,.non])):=sameNew (Same.refl _) hq2;have e2':upd H3 q2 (.tup [.str z.1,.non]) q2=some (.tup [.str z.1,.non]):=Zf;generalize upd H3 q2 (.tup [.str z.1,.non])=H4 at S2 e2' ⊢;have w12:=(w8.same s2).same S2;obtain⟨as,e1,e2,e3⟩:=w12.r1;refine ixT 1 w12.at_ rfl ⟨q2,l1,_,as,T.t1,rfl,rfl,e2',rfl,e1,e2,λm c r h1 h2=>⟨e3 m c r h1 h2,So ok (aA h2)⟩,_,rfl,?_⟩;have yes:∀(p:Addr),H4 p=none->Same H' (upd H4 p (.tup [.str z.1,.int z.2]))/\(∃ss2:List Spt,bj (SpAt (upd H4 p (.tup [.str z.1,.int z.2]))) (zs++[.ref p]) ss2/\ss2.Sublist (ss.take j++(some z).toList)):=λp hp=>by have S5:Same H4 (upd H4 p (.tup [.str z.1,.int z.2])):=sameNew (Same.refl _) hp;exact⟨(s2.trans S2).trans S5,ss2++[z],dq (Paired.mapP pz λ_ _ q'=>q'.same (S2.trans S5)) ⟨p,rfl,Zf⟩,sb1⟩
   have no:Same H' H4/\∃ss2:List Spt,bj (SpAt H4) zs ss2/\ss2.Sublist (ss.take j++(some z).toList):=⟨s2.trans S2,ss2,Paired.mapP pz λ_ _ q'=>q'.same S2,sb0⟩;refine XS (λ_=>?_) (λ_=>?_)
   ·refine iteT ⟨_,rfl,_,rfl,Zx (by show 2<=1000;decide),λp hp=>?_⟩;exact⟨(yes p hp).1,(yes p hp).2,_,_,rfl⟩
   ·refine⟨_,rfl,ixT 0 w12.at_ rfl ⟨_,_,rfl,rfl,(by constructor<;>decide),_,_,rfl,rfl,_,rfl,?_⟩⟩;refine ite2 (λ_=>?_) (λ_=>⟨no.1,no.2,_,_,rfl⟩);refine⟨_,rfl,_,rfl,Zx (by show 2<=1000;decide),λp hp=>?_⟩;exact⟨(yes p hp).1,(yes p hp).2,_,_,rfl⟩
  obtain⟨s2,⟨ss2,pz,sb⟩,v1,v2,rfl⟩:=q;rw[lys,aW]at sb;try dsimp only[Zq,ay]
  have S3:Same H' (upd H2 lZ (.lst zs)):=sameNew s2 hZ;have S2Z:Same H2 (upd H2 lZ (.lst zs)):=sameNew (Same.refl _) hZ;have lsb:=sb.length_le;exact s7 _ lZ zs ss2 o (B8.same S3) (sm8.trans (Zj.of S3)) (S3 _ _ eg8) Zf (Paired.mapP pz λ_ _ q'=>q'.same S2Z) (λs hs'=>hs s (sb.subset hs')) (nd.sublist sb) (by omega)
 clear ec ps hs nd ln8 c ys ss B8 sm8 eg8 o;intro H7 c ys ss o B7 sm7 eg7 ec ps hs nd ln7;refine hk7 _ _ (tq λD8 hk8=>?_);clear hk7;suffices s8:∀(H':Hp)(a c:Addr)(gs:List Str)(ys:List V)(ss:List Spt),ZA H' b->Zj b H H'->H' a=some (.lst (gs.map V.str))->H' c=some (.lst ys)->bj (SpAt H') ys ss->(∀g∈gs,g∈T.t4.map nameOf)->gs.Nodup->gs.length<=8->(∀s∈ss,Xl T s)->ss.Nodup->ss.length<=300->D8.nx [some (.ref b),some (.ref pw),some (.ref a),some (.ref c),o 4,o 5,some (.int way),o 7,o 8,o 9] H' by
  obtain⟨sg1,sg2,sg3⟩:=Fx ok sub;have g8':=wd.g8;refine tkC B7 (λr H9 r0 r1 B9 S9=>?_);have eg9:=S9 _ _ eg7 nG';have ec9:=S9 _ _ ec (Xo B7 ec ps);have ps9:=Paired.mapP ps λ_ _ q=>q.sameB B7 S9;have sm9:=sm7.trans S9;refine⟨rfl,_,rfl,?_⟩;refine ite2 (λ_=>?_) (λ_=>s8 _ _ _ _ _ _ B9 sm9 eg9 ec9 ps9 sg1 sg2 (by omega) hs nd ln7);refine tq λD9 hk9=>?_;refine⟨_,rfl,1,rfl,rfl,lG,_,rfl,SqL.of eg9,λx1 h1=>?_⟩;try dsimp only[Zq,ay]
  refine al B9 h1 λHa Ba Sa ea na=>?_;refine hk9 _ _ ?_;clear hk9;have eca:=Sa _ _ ec9 (Xo B9 ec9 ps9);have psa:=Paired.mapP ps9 λ_ _ q=>q.sameB B9 Sa;refine⟨_,rfl,1,rfl,rfl,c,_,rfl,SqL.of eca,λx2 h2=>?_⟩;try dsimp only[Zq,ay]
  refine al Ba h2 λHb Bb Sb eb nb=>?_;refine s8 Hb x1 x2 gs.reverse ys.reverse ss.reverse Bb ((sm9.trans Sa).trans Sb) (by rw[List.map_reverse];exact Sb _ _ ea na) eb ?_ (λg hg=>sg1 g (List.mem_reverse.mp hg)) ((List.reverse_perm gs).nodup_iff.mpr sg2) (by rw[gK];omega) (λs hs'=>hs s (List.mem_reverse.mp hs')) ((List.reverse_perm ss).nodup_iff.mpr nd) (by rw[gK];exact ln7);exact Qq (Paired.mapP psa λ_ _ q=>q.sameB Ba Sb)
 intro H' a c gs ys ss B' S' ea ec ps hg ndg lg hs nd ln;refine hk8 _ _ ⟨_,rfl,_,rfl,Zx (by show 2<=1000;decide),λp hp=>?_⟩;have S9:Zj b H' (upd H' p (.tup [.ref a,.ref c])):=(Zj.refl b H').new' hp;exact k _ _ gs ss (B'.new hp) (S'.trans S9) ⟨p,a,c,ys,rfl,Zf,S9 _ _ ea (Mv B' ea),S9 _ _ ec (Xo B' ec ps),Paired.mapP ps λ_ _ q=>q.sameB B' S9,⟨hg,hs⟩,ndg,nd,by omega,by omega⟩ lg ln
end
noncomputable def sD(s:Spt):PyData:=.tuple [.str s.1,.int s.2]
theorem Ar{H:Hp}{v:V}{s:Spt}(h:SpAt H v s):Is H v (sD s):=by obtain⟨a,rfl,ha⟩:=h;exact .tup ha (.cons (.str _) (.cons (.int _) .nil))
theorem Kl{T:Tb}(o:OkTb T){s:Spt}(h:Xl T s):GS s.1:=by obtain⟨y,hy,e⟩:=ah.mp h.1;rw[<-e];exact(YA o (j:=1) (.inl rfl) hy).2
theorem W2{α β:Type}{R:α->β->Prop}(p:β->Bool){ys:List α}{ss:List β}(h:bj R ys ss):bj R (((ys.zip ss).filter λq=>p q.2).map (·.1)) (ss.filter p):=by
 induction h with
|nil=>exact .nil
|@cons y s ys ss r _ ih=>
  rw[gX];cases e:p s
  ·rw[cZ (by simp[e]),cZ (by simp[e])];exact ih
  ·rw[cY (by simp[e]),cY (by simp[e]),ar];exact .cons r ih
theorem Qp{α β:Type}{R:α->β->Prop}{a:List α}{c:List β}(h:bj R a c):∀n,bj R (a.take n) (c.take n):=by
 induction h with
|nil=>intro n;rw[List.take_nil,List.take_nil];exact .nil
|cons r _ ih=>
  intro n;cases n with
 |zero=>exact .nil
 |succ n=>exact .cons r (ih n)
theorem SmAll.lst{ds:List PyData}{k m n:Nat}(h:SmAll ds k m)(hl:ds.length<=n):Sm (.list ds) (k+1) (n*(m+1)):=by
 refine⟨?_,?_,?_,?_⟩
 ·simp only[PyData.showable,h.sh]
 ·simp only[PyData.leavesShort,h.lv]
 ·simp only[PyData.depth];have:=h.dp;omega
 ·simp only[PyData.weight];exact Nat.le_trans h.wt (Nat.mul_le_mul_right _ hl)
theorem EW(b:Bool):Sm (.bool b) 0 12:=by cases b<;>exact⟨rfl,by decide +kernel,Nat.zero_le _,by decide +kernel⟩
theorem Gd{H:Hp}{xs ys:List V}{ds es:List PyData}(h:IsAll H xs ds)(h2:IsAll H ys es):IsAll H (xs++ys) (ds++es):=by
 induction xs generalizing ds with
|nil=>cases h;exact h2
|cons x xs ih=>cases h with
 |cons a t=>exact .cons a (ih t)
theorem Xq{H:Hp}:∀gs:List Str,IsAll H (gs.map V.str) (gs.map PyData.str)
|[]=>.nil
|g::gs=>.cons (.str g) (Xq gs)
theorem Jq{H:Hp}{ys:List V}{ss:List Spt}(h:bj (SpAt H) ys ss):IsAll H ys (ss.map sD):=by
 induction h with
|nil=>exact .nil
|cons h _ ih=>exact .cons (Ar h) ih
theorem VG{H:Hp}{xs:List V}{ds:List PyData}(h:IsAll H xs ds):xs.length=ds.length:=by
 induction xs generalizing ds with
|nil=>cases h;rfl
|cons x xs ih=>cases h with
 |cons a t=>rw[aR,aR,ih t]
def Prt2(H:Hp)(x:V):Prop:=∃d,Is H x d/\Sm d 2 33180
def Sh(H:Hp)(v:V):Prop:=∃d,IsX H v d/\Shw d
theorem Prt2.lst{H:Hp}{a:Addr}{xs:List V}{ds:List PyData}(h:H a=some (.lst xs))(i:IsAll H xs ds)(s:∀d∈ds,Sm d 1 78)(l:xs.length<=420):Prt2 H (.ref a):=⟨_,.lst h i,(SmAll.lst (SmAll.of s) (n:=420) (by rw[<-VG i];exact l)).mono (Nat.le_refl _) (by decide)⟩
theorem Prt2.tup{H:Hp}{a:Addr}{xs:List V}{ds:List PyData}(h:H a=some (.tup xs))(i:IsAll H xs ds)(s:∀d∈ds,Sm d 1 78)(l:xs.length<=420):Prt2 H (.ref a):=⟨_,.tup h i,(SmAll.tup (SmAll.of s) (n:=420) (by rw[<-VG i];exact l)).mono (Nat.le_refl _) (by decide)⟩
theorem Pt{H:Hp}:∀{xs:List V},(∀x∈xs,Prt2 H x)->∃ds,IsAll H xs ds/\∀d∈ds,Sm d 2 33180
|[],_=>⟨[],.nil,by simp⟩
|x::xs,h=>by obtain⟨d,i,s⟩:=h x aG;obtain⟨ds,is,ss⟩:=Pt λy hy=>h y (av _ hy);exact⟨d::ds,.cons i is,λe he=>by rcases ao.mp he with rfl|he;exact s;exact ss e he⟩
theorem Sh.tup{H:Hp}{a:Addr}{xs:List V}(h:H a=some (.tup xs))(hx:∀x∈xs,Prt2 H x)(l:xs.length<=4):Sh H (.ref a):=by obtain⟨ds,i,s⟩:=Pt hx;exact⟨_,.of (.tup h i),(SmAll.tup (SmAll.of s) (n:=4) (by rw[<-VG i];exact l)).shw (by decide) (by decide)⟩
theorem Sh.lst{H:Hp}{a:Addr}{xs:List V}(h:H a=some (.lst xs))(hx:∀x∈xs,Prt2 H x)(l:xs.length<=4):Sh H (.ref a):=by obtain⟨ds,i,s⟩:=Pt hx;exact⟨_,.of (.lst h i),(SmAll.lst (SmAll.of s) (n:=4) (by rw[<-VG i];exact l)).shw (by decide) (by decide)⟩
theorem Pa{g:Str}(h:GS g):Sm (.str g) 1 78:=(Atm.sm (.str h)).mono (by decide) (by decide)
theorem RK{i:Int}(h:i.natAbs<=1000):Sm (.int i) 1 78:=(Atm.sm (.int h)).mono (by decide) (by decide)
theorem Ax{s:Spt}(h:GS s.1)(h2:s.2.natAbs<=1000):Sm (sD s) 1 78:=(SmAll.tup (SmAll.of (ds:=[.str s.1,.int s.2]) (k:=0) (m:=12) λd hd=>by
 simp only[ao,aF,or_false]at hd;rcases hd with rfl|rfl
 ·exact Atm.sm (.str h)
 ·exact Atm.sm (.int h2)) (n:=2) (by show 2<=2;decide)).mono (by decide) (by decide)
section
variable {K:aa}{H H':Hp}{T:Tb}{v:V}{gs:List Str}{ss:List Spt}{a c:Addr}{ys:List V}
theorem g_gs(o:OkTb T)(hg:∀g∈gs,g∈T.t4.map nameOf):∀g∈gs,GS g:=λg h=>by obtain⟨y,hy,e⟩:=ah.mp (hg g h);rw[<-e];exact(YA o (j:=4) (.inr (.inr (.inr rfl))) hy).2
theorem QH(o:OkTb T)(hg:∀g∈gs,g∈T.t4.map nameOf):∀d∈gs.map PyData.str,Sm d 1 78:=λd hd=>by obtain⟨g,h,rfl⟩:=ah.mp hd;exact Pa (g_gs o hg g h)
theorem NB(o:OkTb T)(n:T.n<=12)(hs:∀s∈ss,Xl T s):∀d∈ss.map sD,Sm d 1 78:=λd hd=>by obtain⟨s,h,rfl⟩:=ah.mp hd;obtain⟨h1,h2,h3⟩:=hs s h;exact Ax (Kl o (hs s h)) (by omega)
theorem Yh.sh(o:OkTb T)(n:T.n<=12)(h:Yh H T v gs ss):Sh H v:=by
 obtain⟨p,a,c,ys,rfl,hp,ha,hc,ps,lk,_,_,l1,l2⟩:=h;refine Sh.tup hp (λx hx=>?_) (by show 2<=4;decide);simp only[ao,aF,or_false]at hx;rcases hx with rfl|rfl
 ·exact Prt2.lst ha (Xq gs) (QH o lk.g) (by rw[lm];omega)
 ·exact Prt2.lst hc (Jq ps) (NB o n lk.s) (by rw[aK ps];omega)
end
theorem Fz{H:Hp}:Sh H .non:=⟨.none,.of .non,(Sm.mono (k:=0) (m:=12) (Atm.sm .non) (Nat.le_refl _) (Nat.le_refl _)).shw (by decide) (by decide)⟩
theorem DP{H:Hp}{a:Addr}(h:H a=some (.dK [])):Sh H (.ref a):=⟨.dict [],.dk h,(⟨rfl,by decide +kernel,by decide +kernel,by decide +kernel⟩:Sm (.dict []) 64 200000).shw (by decide) (by decide)⟩
section
variable {K:aa}{H:Hp}{T:Tb}{q x z:Addr}{xs zs:List V}{gs:List Str}{ss:List Spt}
theorem My(hq:H q=some (.tup [.ref x,.ref z]))(P1:Prt2 H (.ref x))(P2:Prt2 H (.ref z)):Sh H (.ref q):=Sh.tup hq (λy hy=>by
 simp only[ao,aF,or_false]at hy;rcases hy with rfl|rfl
 ·exact P1
 ·exact P2) (by show 2<=4;decide)
theorem E7(hq:H q=some (.tup [.ref x,.ref z]))(hx:H x=some (.lst xs))(hz:H z=some (.lst zs))(lx:xs.length<=400)(lz:zs.length<=400)(th:∀e∈xs,∃T,Th H e T)(bad:∃e∈xs,isG T e=false)(P1:Prt2 H (.ref x))(P2:Prt2 H (.ref z)):YM K H T (.ref q)/\Sh H (.ref q):=⟨.inr ⟨q,x,z,xs,zs,rfl,hq,hx,hz,by omega,by omega,.inl ⟨th,bad⟩⟩,My hq P1 P2⟩
theorem AE(hq:H q=some (.tup [.ref x,.ref z]))(hx:H x=some (.lst (gs.map V.str)))(hz:H z=some (.lst zs))(lx:gs.length<=400)(lz:zs.length<=400)(hg:∀g∈gs,g∈T.t4.map nameOf)(it:∀y∈zs,SpIt K H T y)(bad:∃y∈zs,¬IsSp H T y)(P1:Prt2 H (.ref x))(P2:Prt2 H (.ref z)):YM K H T (.ref q)/\Sh H (.ref q):=⟨.inr ⟨q,x,z,_,zs,rfl,hq,hx,hz,by rw[lm];omega,by omega,.inr ⟨gs,rfl,hg,.inl ⟨it,bad⟩⟩⟩,My hq P1 P2⟩
theorem AF(hq:H q=some (.tup [.ref x,.ref z]))(hx:H x=some (.lst (gs.map V.str)))(hz:H z=some (.lst zs))(lx:gs.length<=400)(lz:zs.length<=400)(hg:∀g∈gs,g∈T.t4.map nameOf)(ps:bj (SpAt H) zs ss)(hs:∀s∈ss,Xl T s)(bad:¬(gs.Nodup/\ss.Nodup))(P1:Prt2 H (.ref x))(P2:Prt2 H (.ref z)):YM K H T (.ref q)/\Sh H (.ref q):=⟨.inr ⟨q,x,z,_,zs,rfl,hq,hx,hz,by rw[lm];omega,by omega,.inr ⟨gs,rfl,hg,.inr ⟨ss,ps,hs,λh=>bad (Tc.mp h)⟩⟩⟩,My hq P1 P2⟩
theorem Fy(o:OkTb T){v:V}{s:Spt}(h:SpAt H v s)(g:s.1.length<=1000):SpIt K H T v:=by
 obtain⟨a,rfl,ha⟩:=h;refine .inr ⟨a,_,rfl,ha,by show 2<=1000;decide,λv hv=>?_⟩;simp only[ao,aF,or_false]at hv;rcases hv with rfl|rfl
 ·exact⟨_,.str _ g⟩
 ·exact⟨_,.int _⟩
end
theorem L4(xs:List V)(h:xs≠[]):cutV xs (some (-1)) none=xs.drop (xs.length-1):=by
 have hl:0<xs.length:=gL.mpr h;show(xs.drop (HT.sIx xs.length 0 (some (-1)))).take (xs.length-HT.sIx xs.length 0 (some (-1)))=_;have e:HT.sIx xs.length 0 (some (-1))=xs.length-1:=by unfold HT.sIx;simp;omega
 rw[e,aX (by rw[bD];exact Nat.le_refl _)]
def Odd(K:aa)(b:Addr)(T:Tb)(H:Hp)(v:V):Prop:=∀H',Zj b H H'->YM K H' T v/\Sh H' v
theorem Odd.later{K:aa}{b:Addr}{T:Tb}{H H2:Hp}{v:V}(s:Zj b H H2)(h:Odd K b T H v):Odd K b T H2 v:=λH' s'=>h H' (s.trans s')
structure NX(T:Tb)(H:Hp)(a c:Addr)(gs:List Str)(ys:List V)(ss:List Spt):Prop where
 fa:H a=some (.lst (gs.map V.str))
 fc:H c=some (.lst ys)
 fp:bj (SpAt H) ys ss
 ok:OkTb T
 n12:T.n<=12
 lg:∀g∈gs,g∈T.t4.map nameOf
 ls:∀s∈ss,Xl T s
 gl:gs.length<=8
 sl:ss.length<=330
section
variable {K:aa}{b:Addr}{T:Tb}{H H':Hp}{a c:Addr}{gs:List Str}{ys:List V}{ss:List Spt}{σ:L2.St}{te:TE}{R:VK}
theorem NX.to(X:NX T H a c gs ys ss)(B:ZA H b)(s:Zj b H H'):NX T H' a c gs ys ss:=⟨s _ _ X.fa (Mv B X.fa),s _ _ X.fc (Xo B X.fc X.fp),Paired.mapP X.fp λ_ _ q=>q.sameB B s,X.ok,X.n12,X.lg,X.ls,X.gl,X.sl⟩
theorem NX.pa(X:NX T H a c gs ys ss):Prt2 H (.ref a):=Prt2.lst X.fa (Xq gs) (QH X.ok X.lg) (by rw[lm];have:=X.gl;omega)
theorem NX.pc(X:NX T H a c gs ys ss):Prt2 H (.ref c):=Prt2.lst X.fc (Jq X.fp) (NB X.ok X.n12 X.ls) (by rw[aK X.fp];have:=X.sl;omega)
theorem NX.thG(X:NX T H a c gs ys ss):∀e∈gs.map V.str,∃T',Th H e T':=λe he=>by obtain⟨g,hg,rfl⟩:=ah.mp he;exact⟨_,.str _ (Xx (g_gs X.ok X.lg g hg))⟩
def Dy(b:Addr)(H:Hp)(p:Hp->Prop):Prop:=∀H',Zj b H H'->p H'
def EG(T:Tb)(e:V)(H:Hp):Prop:=(∃T',Th H e T')/\isG T e=false/\∃d,Is H e d/\Sm d 1 78
def ES(K:aa)(T:Tb)(e:V)(H:Hp):Prop:=SpIt K H T e/\¬IsSp H T e/\∃d,Is H e d/\Sm d 1 78
theorem NX.oddG(X:NX T H a c gs ys ss){z q:Addr}{e:V}(ez:H z=some (.lst (gs.map V.str++[e])))(eq:H q=some (.tup [.ref z,.ref c]))(h:EG T e H):YM K H T (.ref q)/\Sh H (.ref q):=by
 obtain⟨⟨T',t1⟩,hb,d,t2,t3⟩:=h;have gl:=X.gl;have sl:=X.sl;have ly:=aK X.fp;refine E7 eq ez X.fc (by rw[aj,lm];show _+1<=400;omega) (by omega) (λy hy=>?_) ⟨e,aU _ (aB.mpr rfl),hb⟩ ?_ X.pc
 ·rcases aD.mp hy with hy|hy
  ·exact X.thG y hy
  ·rw[aB]at hy;subst hy;exact⟨_,t1⟩
 ·refine Prt2.lst ez (Gd (Xq gs) (.cons t2 .nil)) (λd' hd'=>?_) (by rw[aj,lm];show _+1<=420;omega);rcases aD.mp hd' with hd'|hd'
  ·exact QH X.ok X.lg d' hd'
  ·rw[aB]at hd';subst hd';exact t3
theorem NX.oddS(X:NX T H a c gs ys ss){z q:Addr}{e:V}{zs:List V}{sf:List Spt}(pz:bj (SpAt H) zs sf)(hz:∀s∈sf,Xl T s)(lz:sf.length<=330)(ez:H z=some (.lst (zs++[e])))(eq:H q=some (.tup [.ref a,.ref z]))(h:ES K T e H):YM K H T (.ref q)/\Sh H (.ref q):=by
 obtain⟨g1,g2,d,g3,g4⟩:=h;have gl:=X.gl;have lz':=aK pz;refine AE eq X.fa ez (by omega) (by rw[aj];show _+1<=400;omega) X.lg (λy hy=>?_) ⟨e,aU _ (aB.mpr rfl),g2⟩ X.pa ?_
 ·rcases aD.mp hy with hy|hy
  ·obtain⟨j,hj⟩:=aY.mp hy;obtain⟨u,hu,sp⟩:=Yv pz hj;exact Fy X.ok sp (Xx (Kl X.ok (hz u (aA hu))))
  ·rw[aB]at hy;subst hy;exact g1
 ·refine Prt2.lst ez (Gd (Jq pz) (.cons g3 .nil)) (λd' hd'=>?_) (by rw[aj];show _+1<=420;omega);rcases aD.mp hd' with hd'|hd'
  ·exact NB X.ok X.n12 hz d' hd'
  ·rw[aB]at hd';subst hd';exact g4
theorem NX.itemG(X:NX T H a c gs ys ss)(B:ZA H b){i j:Nat}(h3:σ[i]?=some (some (.ref a)))(h4:σ[j]?=some (some (.ref c)))(hte:∀Q':VK,(∀H' e,ZA H' b->Zj b H H'->Dy b H' (EG T e)->Q' e H')->te σ H Q')(k:∀H' q,ZA H' b->Zj b H H'->Odd K b T H' (.ref q)->R (.ref q) H'):tTup (Yo (tOp rCat (tVar i) (tLst (Yo te tNil))) (Yo (tVar j) tNil)) σ H R:=by
 have gl:=X.gl;refine⟨_,h3,hte _ λH1 e B1 S1 he=>?_⟩;refine⟨Zx (by show 1<=1000;decide),λu1 hu1=>?_⟩;try dsimp only
 refine al2 B1 hu1 λH2 B2 S2 e2 m2=>?_;refine⟨a,u1,_,_,rfl,rfl,(X.to B (S1.trans S2)).fa,e2,Zx (by rw[lm];show _+1<=1000;omega),λu2 hu2=>?_⟩;try dsimp only
 refine al2 B2 hu2 λH4 B4 S4 e4 m4=>?_;refine⟨_,h4,Zx (by show 2<=1000;decide),λq hq=>?_⟩;try dsimp only
 have S5:Zj b H4 (upd H4 q (.tup [.ref u2,.ref c])):=(Zj.refl b H4).new' hq;have S15:=(S2.trans S4).trans S5;have eq0:upd H4 q (.tup [.ref u2,.ref c]) q=some (.tup [.ref u2,.ref c]):=Zf;refine k _ q (B4.new hq) (S1.trans S15) λH' s=>?_;exact(X.to B ((S1.trans S15).trans s)).oddG (s _ _ (S5 _ _ e4 m4) m4) (s _ _ eq0 (B4.ne hq)) (he H' (S15.trans s))
theorem NX.itemS(X:NX T H a c gs ys ss)(B:ZA H b){i j:Nat}{z:Addr}{zs:List V}{sf:List Spt}(pz:bj (SpAt H) zs sf)(hz:∀s∈sf,Xl T s)(lz:sf.length<=330)(ez:H z=some (.lst zs))(h3:σ[i]?=some (some (.ref a)))(h4:σ[j]?=some (some (.ref z)))(hte:∀Q':VK,(∀H' e,ZA H' b->Zj b H H'->Dy b H' (ES K T e)->Q' e H')->te σ H Q')(k:∀H' q,ZA H' b->Zj b H H'->Odd K b T H' (.ref q)->R (.ref q) H'):tTup (Yo (tVar i) (Yo (tOp rCat (tVar j) (tLst (Yo te tNil))) tNil)) σ H R:=by
 have ly:=aK pz;refine⟨_,h3,_,h4,hte _ λH1 e B1 S1 he=>?_⟩;refine⟨Zx (by show 1<=1000;decide),λu1 hu1=>?_⟩;try dsimp only
 refine al2 B1 hu1 λH2 B2 S2 e2 m2=>?_;refine⟨z,u1,_,_,rfl,rfl,(S1.trans S2) _ _ ez (Xo B ez pz),e2,Zx (by show _+1<=1000;omega),λu2 hu2=>?_⟩;try dsimp only
 refine al2 B2 hu2 λH4 B4 S4 e4 m4=>?_;refine⟨Zx (by show 2<=1000;decide),λq hq=>?_⟩;try dsimp only
 have S5:Zj b H4 (upd H4 q (.tup [.ref a,.ref u2])):=(Zj.refl b H4).new' hq;have S15:=(S2.trans S4).trans S5;have eq0:upd H4 q (.tup [.ref a,.ref u2]) q=some (.tup [.ref a,.ref u2]):=Zf;refine k _ q (B4.new hq) (S1.trans S15) λH' s=>?_;have SH:=(S1.trans S15).trans s;exact(X.to B SH).oddS (Paired.mapP pz λ_ _ q=>q.sameB B SH) hz lz (s _ _ (S5 _ _ e4 m4) m4) (s _ _ eq0 (B4.ne hq)) (he H' (S15.trans s))
theorem Mo{lS:Addr}{vs us:List V}(B:ZA H b)(eL:H lS=some (.lst vs))(nL:lS≠b)(lv:vs.length<=40)(lu:us.length<=3)(o1:∀v∈vs,Odd K b T H v)(o2:∀u∈us,Odd K b T H u)(k:∀H' l',ZA H' b->Zj b H H'->H' l'=some (.lst (vs++us))->l'≠b->H l'=none->(∀v∈vs++us,Odd K b T H' v)->R (.ref l') H'):us.length<=sizeLine/\∀q,H q=none->rCat (.ref lS) (.ref q) (upd H q (.lst us)) R:=by
 refine⟨Zx (by omega),λq hq=>?_⟩;have S1:Zj b H (upd H q (.lst us)):=(Zj.refl b H).new' hq;have B1:ZA (upd H q (.lst us)) b:=B.new hq;refine⟨lS,q,vs,us,rfl,rfl,S1 _ _ eL nL,Zf,Zx (by omega),λl' hl'=>?_⟩;have S2:=S1.new' (o:=.lst (vs++us)) hl';have h0:H l'=none:=by
  cases e:H l' with
 |none=>rfl
 |some o=>
   by_cases hb:l'=b
   ·obtain⟨x,y,z,eb⟩:=B1;rw[hb,eb]at hl';cases hl'
   ·rw[S1 _ _ e hb]at hl';cases hl'
 refine k _ l' (B1.new hl') S2 Zf (B1.ne hl') h0 λv hv=>?_;rcases aD.mp hv with hv|hv
 ·exact(o1 v hv).later S2
 ·exact(o2 v hv).later S2
theorem QR{e:V}{d:PyData}(h1:∀H,∃T',Th H e T')(h2:isG T e=false)(h3:∀H,Is H e d)(h4:Sm d 1 78):Dy b H (EG T e):=λH' _=>⟨h1 H',h2,d,h3 H',h4⟩
theorem KG{v:V}{d:PyData}(h:Is H v d)(s:Sm d 1 78):Sh H v:=⟨d,.of h,s.shw (by decide) (by decide)⟩
end
theorem es2{K:aa}{H:Hp}{T:Tb}{u:Addr}{z:Str}{w:V}{dw:PyData}(gz:GS z)(hw:∃T',Th H w T')(iw:Is H w dw)(sw:Sm dw 0 12)(h':H u=some (.tup [.str z,w]))(no:z∈T.t1.map nameOf->∀i:Int,w=.int i->0<=i->i<=T.n->False):ES K T (.ref u) H:=by
 refine⟨.inr ⟨u,_,rfl,h',by show 2<=1000;decide,λv hv=>?_⟩,?_,.tuple [.str z,dw],.tup h' (.cons (.str _) (.cons iw .nil)),?_⟩
 ·simp only[ao,aF,or_false]at hv;rcases hv with rfl|rfl
  ·exact⟨_,.str _ (Xx gz)⟩
  ·exact hw
 ·rintro ⟨a2,x2,e,h2,y,hy,i2,ex,i0,i1⟩;cases e;rw[h']at h2;cases h2;injection ex with e1 ex;injection ex with ex _;injection e1 with e1;exact no (by rw[e1];exact ah.mpr ⟨y,hy,rfl⟩) i2 ex i0 i1
 ·refine(SmAll.tup (SmAll.of (ds:=[.str z,dw]) (k:=0) (m:=12) λd hd=>?_) (n:=2) (by show 2<=2;decide)).mono (by decide) (by decide);simp only[ao,aF,or_false]at hd;rcases hd with rfl|rfl
  ·exact Atm.sm (.str gz)
  ·exact sw
theorem lst1{t:TE}{r:L2.TA}{σ:L2.St}{H:Hp}{Q:VK}(h:t σ H λx H1=>r σ H1 λxs H2=>(x::xs).length<=sizeLine/\∀p,H2 p=none->Q (.ref p) (upd H2 p (.lst (x::xs)))):tLst (Yo t r) σ H Q:=h
theorem G9{t:TE}{r:L2.TA}{σ:L2.St}{H:Hp}{Q:List V->Hp->Prop}(h:t σ H λx H1=>r σ H1 λxs H2=>Q (x::xs) H2):Yo t r σ H Q:=h
def Kt(K:aa):Sp:=λvs H Q _=>∃(b pw l1 l2 l3 l4:Addr)(v:V)(T:Tb)(H0:Hp)(gs:List Str)(ss:List Spt),vs=[.ref b,v,.ref pw]/\Bx H0 H b/\WAt H0 pw T l1 l2 l3 l4/\OkTb T/\Wd T/\Yh H T v gs ss/\gs.length<=8/\ss.length<=320 /\∀H' v',ZA H' b->Zj b H H'->YM K H' T v'->Sh H' v'->Q v' H'
section
variable {P:Program}{w:World}{K:aa}{mg:Str->Option Value}{base:Heap}{C:Addr}
theorem Z5:FnScope [q_b,"_law_line_here",q_w,"_law_groups","_law_spots","_law_place","_law_some","_law_others"] [q_b,"_law_line_here",q_w] (Zc T.f__law_none):=scO
noncomputable def Jb:Scope:=csx [(".0",.local),("_law_spot",.local)]
theorem GF:CompScope Jb (Zc T.f__law_none):=⟨rfl,by decide +kernel,by decide +kernel,by decide +kernel⟩
theorem GH:(["_law_spot"]:List Str).Nodup:=by decide +kernel
theorem GG:CompNames [q_b,"_law_line_here",q_w,"_law_groups","_law_spots","_law_place","_law_some","_law_others"] Jb ["_law_spot"] [none]:=.mk' (by decide +kernel)
theorem WR(B:∀x∈Blts,mg x=none)(CT:Can P w K mg base 1 "_law_take" [q_b,"_law_many"] Y1)(D:Df K mg "_law_none" T.f__law_none [q_b,"_law_line_here",q_w]):Can P w K mg base 2 "_law_none" [q_b,"_law_line_here",q_w] (Kt K):=by
 refine D.cn Z5 λf cdv A outer s H vs Q E hr h=>?_;obtain⟨b,pw,l1,l2,l3,l4,v,T,H0,gs,ss,rfl,bx0,wt,ok,wd,good,lg8,ls,k⟩:=h;refine' ⟨_,(@Za _ _ _ _ _ ?h53 (@Za _ _ _ _ _ ?h54 (@Za _ _ _ _ _ ?h55 (@Za _ _ _ _ _ ?h56 (@Za _ _ _ _ _ ?h57 (@Za _ _ _ _ _ ?h58 (@Za _ _ _ _ _ ?h59 (@Za _ _ _ _ _ ?h60 (@Za _ _ _ _ _ ?h61 (@Za _ _ _ _ _ ?h62 (@Zd _ _ _ ?h63))))))))))),?rd⟩;case' h63=>refine' (Zl ?h52)
 case' h62=>refine' (@ZG _ _ _ _ _ _ _ _ (@Zt _ _ _ _ _ _ _ _ (MT hr.units) (pv 4) ?h48 (ZC _)) (@Zd _ _ _ ?h51) Zp)
 case' h61=>refine' (@ZG _ _ _ _ _ _ _ _ (@Zt _ _ _ _ _ _ _ _ (MT hr.units) (pv 3) ?h45 (ZC _)) (@Zd _ _ _ ?h47) Zp)
 case' h60=>refine' (@st _ _ _ _ 6 _ _ Z5.nd (Zo Z6 (pv 6) ?h44) (by rfl) (by exact aO rfl) (by rfl) (by exact .inl rfl))
 case' h59=>refine' (@st _ _ _ _ 6 _ _ Z5.nd (Zo Z6 (pv 6) ?h35) (by rfl) (by exact aO rfl) (by rfl) (by exact .inl rfl))
 case' h58=>refine' (@st _ _ _ _ 6 _ _ Z5.nd (Zo Z6 (pv 6) ?h27) (by rfl) (by exact aO rfl) (by rfl) (by exact .inl rfl))
 case' h57=>refine' (Mi (i:=7) Z5.nd rfl (aO rfl) (scope:=Jb) (N:=["_law_spot"]) (cp:=[none]) rfl GF GG (ZW (pv 4)) (λC s H ex pn=>(nmT 0 GH)) (λC s H ex pn=>(Y9 (Zt NG (it K (pv 0) Zb) Zb (ZC _)))) (λC s H ex pn=>(pv 0)))
 case' h56=>refine' (@st _ _ _ _ 6 _ _ Z5.nd (Zo Z6 (pv 6) ?h19) (by rfl) (by exact aO rfl) (by rfl) (by exact .inl rfl))
 case' h55=>refine' (@st _ _ _ _ 6 _ _ Z5.nd ?h9 (by rfl) (by exact aO rfl) (by rfl) (by exact .inl rfl))
 case' h54=>refine' (@st _ _ _ _ 5 _ _ Z5.nd ?h3 (by rfl) (by exact aO rfl) (by rfl) (by exact .inl rfl))
 case' h53=>refine' (V9 (pv 1) (YN rfl (Zn (nmT 3 Z5.nd) (Zn (nmT 4 Z5.nd) Yd))))
 case' h52=>refine' (@il _ _ _ _ _ _ K (pv 6) (cn CT hr (@pa2 _ _ _ _ _ (pv 0) (Zv (r:=rLen K) Z1 rfl (bm B) ba (@pa1 _ _ _ (pv 6) (by rfl))) (by rfl))) (by rfl) (by exact λ_ _=>rfl))
 case' h51=>refine' (@st _ _ _ _ 6 _ _ Z5.nd (Zo Z6 (pv 6) (Zo FR ?h50 Zb)) (by rfl) (by exact aO rfl) (by rfl) (by exact .inl rfl))
 case' h50=>refine' (@Zy _ _ _ _ (@pa1 _ _ _ ?h49 (by rfl)))
 case' h49=>refine' (@Zu _ _ _ _ _ (@pa2 _ _ _ _ _ (pv 3) (Zo Z6 (Xd (r:=rSlL K) Uq (pv 4) XO (XN Zb)) (pv 4)) (by rfl)))
 case' h48=>refine' (@Zy _ _ _ _ Zk)
 case' h47=>refine' (Z7 (MS b6 dN dM VF (pv 6) (@pa1 _ _ _ ?h46 (by rfl))))
 case' h46=>refine' (@Zu _ _ _ _ _ (@pa2 _ _ _ _ _ (Zo Z6 (pv 3) (Xd (r:=rSlL K) Uq (pv 3) (XN (Qm Mx Zb)) XO)) (pv 4) (by rfl)))
 case' h45=>refine' (@Zy _ _ _ _ Zk)
 case' h44=>refine' (@Zy _ _ _ _ (@pa3 _ _ _ _ _ _ _ ?h43 ?h40 ?h37 (by rfl)))
 case' h43=>refine' (@Zu _ _ _ _ _ (@pa2 _ _ _ _ _ (Zo Z6 (pv 3) ?h42) (pv 4) (by rfl)))
 case' h42=>refine' (@Zy _ _ _ _ (@pa1 _ _ _ ?h41 (by rfl)))
 case' h41=>refine' (@Zy _ _ _ _ (@pa1 _ _ _ ZE (by rfl)))
 case' h40=>refine' (@Zu _ _ _ _ _ (@pa2 _ _ _ _ _ (pv 3) (Zo Z6 (pv 4) ?h39) (by rfl)))
 case' h39=>refine' (@Zy _ _ _ _ (@pa1 _ _ _ ?h38 (by rfl)))
 case' h38=>refine' (@Zu _ _ _ _ _ (@pa1 _ _ _ (pv 5) (by rfl)))
 case' h37=>refine' (@Zu _ _ _ _ _ (@pa2 _ _ _ _ _ (Zo Z6 (pv 4) ?h36) (pv 3) (by rfl)))
 case' h36=>refine' (@Zy _ _ _ _ (@pa1 _ _ _ ZF (by rfl)))
 case' h35=>refine' (@Zy _ _ _ _ (@pa3 _ _ _ _ _ _ _ ?h34 ?h31 ?h29 (by rfl)))
 case' h34=>refine' (@Zu _ _ _ _ _ (@pa2 _ _ _ _ _ (pv 3) (Zo Z6 (pv 4) ?h33) (by rfl)))
 case' h33=>refine' (@Zy _ _ _ _ (@pa1 _ _ _ ?h32 (by rfl)))
 case' h32=>refine' (@Zy _ _ _ _ (@pa2 _ _ _ _ _ (pv 5) Zb (by rfl)))
 case' h31=>refine' (@Zu _ _ _ _ _ (@pa2 _ _ _ _ _ (Zo Z6 (pv 3) ?h30) (pv 4) (by rfl)))
 case' h30=>refine' (@Zy _ _ _ _ (@pa1 _ _ _ Zb (by rfl)))
 case' h29=>refine' (@Zu _ _ _ _ _ (@pa2 _ _ _ _ _ (pv 3) (Zo Z6 (pv 4) ?h28) (by rfl)))
 case' h28=>refine' (@Zy _ _ _ _ (@pa1 _ _ _ ZF (by rfl)))
 case' h27=>refine' (@Zy _ _ _ _ (@pa3 _ _ _ _ _ _ _ ?h26 ?h23 ?h20 (by rfl)))
 case' h26=>refine' (@Zu _ _ _ _ _ (@pa2 _ _ _ _ _ (pv 3) (Zo Z6 (pv 4) ?h25) (by rfl)))
 case' h25=>refine' (@Zy _ _ _ _ (@pa1 _ _ _ ?h24 (by rfl)))
 case' h24=>refine' (@Zu _ _ _ _ _ (@pa2 _ _ _ _ _ (pv 5) (Qm Mx Zb) (by rfl)))
 case' h23=>refine' (@Zu _ _ _ _ _ (@pa2 _ _ _ _ _ (pv 3) (Zo Z6 (pv 7) ?h22) (by rfl)))
 case' h22=>refine' (@Zy _ _ _ _ (@pa1 _ _ _ ?h21 (by rfl)))
 case' h21=>refine' (@Zu _ _ _ _ _ (@pa2 _ _ _ _ _ (pv 5) JU (by rfl)))
 case' h20=>refine' (@Zu _ _ _ _ _ (@pa2 _ _ _ _ _ (pv 3) (Yi Jd rfl (bm B) XE (@pa1 _ _ _ (pv 4) (by rfl))) (by rfl)))
 case' h19=>refine' (@Zy _ _ _ _ (@pa3 _ _ _ _ _ _ _ ?h18 ?h16 ?h13 (by rfl)))
 case' h18=>refine' (@Zu _ _ _ _ _ (@pa2 _ _ _ _ _ (Zo Z6 (pv 3) ?h17) (pv 4) (by rfl)))
 case' h17=>refine' (@Zy _ _ _ _ (@pa1 _ _ _ ZE (by rfl)))
 case' h16=>refine' (@Zu _ _ _ _ _ (@pa2 _ _ _ _ _ (pv 3) (Zo Z6 (pv 4) ?h15) (by rfl)))
 case' h15=>refine' (@Zy _ _ _ _ (@pa1 _ _ _ ?h14 (by rfl)))
 case' h14=>refine' (@Zu _ _ _ _ _ (@pa2 _ _ _ _ _ ZE Zb (by rfl)))
 case' h13=>refine' (@Zu _ _ _ _ _ (@pa2 _ _ _ _ _ (pv 3) (Zo Z6 (pv 4) ?h12) (by rfl)))
 case' h12=>refine' (@Zy _ _ _ _ (@pa1 _ _ _ ?h11 (by rfl)))
 case' h11=>refine' (@Zu _ _ _ _ _ (@pa2 _ _ _ _ _ (pv 5) (Zo ZI ?h10 Zb) (by rfl)))
 case' h10=>refine' (@it _ _ _ _ _ _ K (pv 2) Zb (by rfl) (by exact λ_ _=>rfl))
 case' h9=>refine' (@Zy _ _ _ _ (@Ze _ _ _ _ _ ZF (@Ze _ _ _ _ _ Zb (@Ze _ _ _ _ _ ZE (@Ze _ _ _ _ _ ?h8 (@Ze _ _ _ _ _ ?h7 (@pa3 _ _ _ _ _ _ _ ?h6 ?h4 Va (by rfl)) (by rfl)) (by rfl)) (by rfl)) (by rfl)) (by rfl)))
 case' h8=>refine' (@Zy _ _ _ _ (@pa2 _ _ _ _ _ (pv 3) (pv 4) (by rfl)))
 case' h7=>refine' (@Zu _ _ _ _ _ (@pa1 _ _ _ (pv 3) (by rfl)))
 case' h6=>refine' (@Zu _ _ _ _ _ (@pa3 _ _ _ _ _ _ _ (pv 3) (pv 4) ?h5 (by rfl)))
 case' h5=>refine' (@Zy _ _ _ _ Zk)
 case' h4=>refine' (@Zu _ _ _ _ _ (@pa2 _ _ _ _ _ (Yi Jd rfl (bm B) XE (@pa1 _ _ _ (pv 3) (by rfl))) (pv 4) (by rfl)))
 case' h3=>refine' (@it _ _ _ _ _ _ K ?h2 Zb (by rfl) (by exact λ_ _=>rfl))
 case' h2=>refine' (@il _ _ _ _ _ _ K ?h1 Zb (by rfl) (by exact λ_ _=>rfl))
 case' h1=>refine' (@it _ _ _ _ _ _ K (pv 2) Zb (by rfl) (by exact λ_ _=>rfl))
 case' rd=>
 have n0:=ok.n0;have n12:=wd.n12;have p2:=wd.p2;have hbb:=bx0.bx;have tw:∀{H':Hp},Zj b H H'->WAt H' pw T l1 l2 l3 l4:=λs=>wt.same (Yz bx0.fr bx0.sm s);obtain⟨p,a,c,ys,rfl,hp,ha,hc,ps,lk,nd1,nd2,lg,lsp⟩:=good;have ly:=aK ps;have X:NX T H a c gs ys ss:=⟨ha,hc,ps,ok,n12,lk.g,lk.s,lg8,by omega⟩;have XT:∀{H':Hp},Zj b H H'->NX T H' a c gs ys ss:=λs=>X.to hbb s;rw[show L2.start ([q_b,"_law_line_here",q_w,"_law_groups","_law_spots","_law_place","_law_some","_law_others"]:List Str) [V.ref b,V.ref p,V.ref pw]=[some (.ref b),some (.ref p),some (.ref pw),none,none,none,none,none]from rfl];refine tq λD0 hk0=>?_;refine⟨_,rfl,p,_,rfl,SqT.of hp,rfl,_,_,rfl,_,_,rfl,rfl,?_⟩;refine hk0 _ _ (tq λD1 hk1=>?_);clear hk0;try dsimp only[Zq,ay]
 have w0:=tw (Zj.refl b H);have hm:0<T.t1.length:=by omega
 obtain⟨xs1,a',ex1,lx1,eat,hrow⟩:=w0.r1.at_ (gE hm);have hmem:=aE hm;generalize T.t1[0]=yrow at hrow hmem;obtain⟨⟨pl,rm⟩,rfl,gpl,_⟩:=XQ ok hmem;have hpl:pl∈T.t1.map nameOf:=ah.mpr ⟨_,hmem,rfl⟩;refine ixT 1 w0.at_ rfl ⟨l1,_,0,_,rfl,rfl,SqL.of ex1,ZD (j:=0) eat,a',_,0,_,rfl,rfl,SqT.of hrow,ZD (j:=0) rfl,?_⟩;refine hk1 _ _ (tq λD2 hk2=>?_);clear hk1 ex1 eat hrow lx1 hp w0;try dsimp only[Zq,ay]
 have gq:GS ("q.q":Str):=⟨by decide +kernel,by decide +kernel⟩;have gq1:GS ("q":Str):=⟨by decide +kernel,by decide +kernel⟩;refine⟨_,rfl,_,rfl,Zx (by show 2<=1000;decide),λq1 h1=>?_⟩;try dsimp only
 refine al2 hbb h1 λH1 B1 S1 e1 m1=>?_;have o1:Odd K b T H1 (.ref q1):=λH' s=>⟨.inl (.inl ⟨_,.lst (s _ _ e1 m1),by decide⟩),Sh.lst (s _ _ e1 m1) (λy hy=>by
  simp only[ao,aF,or_false]at hy;rcases hy with rfl|rfl
  ·exact(XT (S1.trans s)).pa
  ·exact(XT (S1.trans s)).pc) (by show 2<=4;decide)⟩
 refine⟨_,rfl,Zx (by show 1<=1000;decide),λq2 h2=>?_⟩;try dsimp only
 refine al2 B1 h2 λH2 B2 S12 e2 m2=>?_;have S2:=S1.trans S12;have o2:Odd K b T H2 (.ref q2):=λH' s=>⟨.inl (.inr ⟨q2,_,rfl,s _ _ e2 m2,by show 1<=1000;decide,.inl (by show 1≠2;decide)⟩),Sh.tup (s _ _ e2 m2) (λy hy=>by rw[aB]at hy;subst hy;exact(XT (S2.trans s)).pa) (by show 1<=4;decide)⟩;refine⟨_,rfl,_,rfl,Nat.zero_le _,λu0 hu0=>?_⟩;try dsimp only
 refine al2 B2 hu0 λH3 B3 S23 e3 m3=>?_;refine⟨Zx (by show 3<=1000;decide),λq3 h3=>?_⟩;try dsimp only
 refine al2 B3 h3 λH4 B4 S34 e4 m4=>?_;have S4:=(S2.trans S23).trans S34;have e3':=S34 _ _ e3 m3;have o3:Odd K b T H4 (.ref q3):=λH' s=>⟨.inl (.inr ⟨q3,_,rfl,s _ _ e4 m4,by show 3<=1000;decide,.inl (by show 3≠2;decide)⟩),Sh.tup (s _ _ e4 m4) (λy hy=>by
  simp only[ao,aF,or_false]at hy;rcases hy with rfl|rfl|rfl
  ·exact(XT (S4.trans s)).pa
  ·exact(XT (S4.trans s)).pc
  ·exact Prt2.lst (s _ _ e3' m3) .nil (λd hd=>nomatch hd) (Nat.zero_le _)) (by show 3<=4;decide)⟩
 refine⟨_,rfl,a,_,rfl,.inl ⟨SqL.of (XT S4).fa,λt4 ht4=>?_⟩⟩;try dsimp only
 refine al2 B4 ht4 λH5 B5 S45 et4 mt4=>?_;refine⟨_,rfl,Zx (by show 2<=1000;decide),λq4 h4=>?_⟩;try dsimp only
 refine al2 B5 h4 λH6 B6 S56 e6 m6=>?_;have S6:=(S4.trans S45).trans S56;have et4':=S56 _ _ et4 mt4;have o4:Odd K b T H6 (.ref q4):=λH' s=>⟨.inl (.inr ⟨q4,_,rfl,s _ _ e6 m6,by show 2<=1000;decide,.inr ⟨_,_,rfl,.inl ⟨_,.tup (s _ _ et4' mt4),by decide⟩⟩⟩),My (s _ _ e6 m6) (Prt2.tup (s _ _ et4' mt4) (Xq gs) (QH ok lk.g) (by rw[lm];omega)) (XT (S6.trans s)).pc⟩;refine λd7 h7=>?_;try dsimp only
 refine al2 B6 h7 λH7 B7 S67 e7 m7=>?_;have S7:=S6.trans S67;have o5:Odd K b T H7 (.ref d7):=λH' s=>⟨.inl (.inl ⟨_,.dK (s _ _ e7 m7),by decide⟩),DP (s _ _ e7 m7)⟩;have oN:Odd K b T H7 .non:=λH' s=>⟨.inl (.inl ⟨_,.non,by decide⟩),Fz⟩;have oI:Odd K b T H7 (.int 5):=λH' s=>⟨.inl (.inl ⟨_,.int _,by decide⟩),KG (.int _) (RK (by decide))⟩;have oQ:Odd K b T H7 (.str "q"):=λH' s=>⟨.inl (.inl ⟨_,.str _ (Xx gq1),by decide⟩),KG (.str _) (Pa gq1)⟩;refine⟨Zx (by show 8<=1000;decide),λlS hS=>?_⟩;have od:∀v∈[V.non,.int 5,.str "q",.ref q1,.ref q2,.ref q3,.ref q4,.ref d7],Odd K b T H7 v:=λv hv=>by
  have S27:=(((S23.trans S34).trans S45).trans S56).trans S67;simp only[ao,aF,or_false]at hv;rcases hv with rfl|rfl|rfl|rfl|rfl|rfl|rfl|rfl
  ·exact oN
  ·exact oI
  ·exact oQ
  ·exact o1.later (S12.trans S27)
  ·exact o2.later S27
  ·exact o3.later ((S45.trans S56).trans S67)
  ·exact o4.later S67
  ·exact o5
 obtain⟨vs,evs,lvs⟩:∃vs,vs=[V.non,.int 5,.str "q",.ref q1,.ref q2,.ref q3,.ref q4,.ref d7]/\vs.length=8:=⟨_,rfl,rfl⟩;rw[<-evs]at od;rw[show(HO.lst [V.non,.int 5,.str "q",.ref q1,.ref q2,.ref q3,.ref q4,.ref d7])=.lst vs from by rw[evs]];clear evs o1 o2 o3 o4 o5 oN oI oQ S12 S23 S34 S45 S56 S67 S1 S2 S4 S6 B1 B2 B3 B4 B5 B6 e1 e2 e3 e3' e4 e6 e7 et4 et4' h1 h2 h3 h4 h7 hu0 ht4;try dsimp only[Zq,ay]
 refine al B7 hS λH8 B8 S78 eS mS=>?_;have S8:=S7.trans S78;replace od:∀v∈vs,Odd K b T H8 v:=λv hv=>(od v hv).later S78;refine hk2 _ _ (tq λD3 hk3=>?_);clear hk2 S78 S7 B7 hS H1 H2 H3 H4 H5 H6 H7;refine⟨_,rfl,?_⟩;refine lst1 ?_;refine(XT S8).itemG (K:=K) (i:=3) (j:=4) B8 ?g1 ?g2 (λQ' kq=>?_) λH1 q1 B1 S81 o1=>?_;case g1=>rfl
 case g2=>rfl
 ·exact kq _ _ B8 (Zj.refl b H8) (QR (d:=.str "q.q") (λ_=>⟨_,.str _ (Xx gq)⟩) (decide_eq_false λh=>by obtain⟨y,hy,e⟩:=ah.mp h;exact wd.qq y hy e) (λ_=>.str _) (Pa gq))
 have S1:=S8.trans S81;have X1:=XT S1;refine G9 ?_;refine X1.itemS (K:=K) (i:=3) (j:=4) B1 X1.fp X1.ls X1.sl X1.fc ?g1 ?g2 (λQ' kq=>?_) λH2 q2 B2 S12 o2=>?_;case g1=>rfl
 case g2=>rfl
 ·refine⟨Zx (by show 2<=1000;decide),λu hu=>?_⟩;try dsimp only
  refine al (G:=λHz=>Q' (V.ref u) Hz) B1 hu λHu Bu Su eu mu=>?_;exact kq _ _ Bu Su λH' s=>es2 (dw:=.int 0) gq ⟨_,.int _⟩ (.int _) (Atm.sm (.int (by decide))) (s _ _ eu mu) λhz _ _ _ _=>by obtain⟨y,hy,e⟩:=ah.mp hz;have hn:=(V7 ok (j:=1) (.inl rfl) hy).nm;rw[(YA ok (j:=1) (.inl rfl) hy).1,e]at hn;exact absurd hn (by decide +kernel)
 have S2:=S1.trans S12;have X2:=XT S2;refine G9 ?_;refine X2.itemS (K:=K) (i:=3) (j:=4) B2 X2.fp X2.ls X2.sl X2.fc ?g1 ?g2 (λQ' kq=>?_) λH3 q3 B3 S23 o3=>?_;case g1=>rfl
 case g2=>rfl
 ·refine⟨_,rfl,ixT 0 ((tw S2).at_) rfl ⟨_,_,rfl,rfl,Zx (by show 2<=1000;decide),λu hu=>?_⟩⟩;try dsimp only
  refine al (G:=λHz=>Q' (V.ref u) Hz) B2 hu λHu Bu Su eu mu=>?_;exact kq _ _ Bu Su λH' s=>es2 (dw:=.int (T.n+1)) gpl ⟨_,.int _⟩ (.int _) (Atm.sm (.int (by omega))) (s _ _ eu mu) λ_ i e _ h=>by injection e with e;omega
 have S83:=(S81.trans S12).trans S23;refine Mo (K:=K) (T:=T) B3 (S83 _ _ eS mS) mS (by omega) (by show 3<=3;decide) (λv hv=>(od v hv).later S83) (λv hv=>?_) λH4 lA B4 S34 eA mA _ od2=>?_
 ·simp only[ao,aF,or_false]at hv;rcases hv with rfl|rfl|rfl
  ·exact o1.later (S12.trans S23)
  ·exact o2.later S23
  ·exact o3
 have lA9:(vs++[V.ref q1,.ref q2,.ref q3]).length=11:=by rw[aj,lvs];rfl
 generalize vs++[V.ref q1,.ref q2,.ref q3]=vA at eA od2 lA9;have S4:=(S8.trans S83).trans S34;refine hk3 _ _ (tq λD4 hk4=>?_);clear hk3 o1 o2 o3 od S34 S83 S23 S12 S81 S8 S1 S2 B1 B2 B3 B8 eS X1 X2;try dsimp only[Zq,ay]
 have X4:=XT S4;refine⟨_,rfl,c,rfl,⟨_,SqL.of X4.fc⟩,?_⟩;have lzip:(ys.zip ss).length=ys.length:=by rw[List.length_zip];omega
 refine Ug (J:=Itl K c) (ys.zip ss) (Zx (by omega)) (λq=>!decide (V.int q.2.2=.int 1)) (λq=>q.1) (λτ=>∃v1,τ=[v1]) ⟨none,rfl⟩ (λj H' hj sm=>⟨_,ys[j]'(by omega),SqL.of (sm _ _ X4.fc),gE _⟩) (λH' sm=>⟨_,SqL.of (sm _ _ X4.fc),by omega⟩) (λj x τ u H' H'' hx st sm yl N1 N2 h1 h2=>?_) ?_
 ·obtain⟨v1,rfl⟩:=st;obtain⟨rfl,hy⟩:=yl;have hu:=hy _ (SqL.of (sm _ _ X4.fc));obtain⟨e1,e2⟩:=List.getElem?_zip_eq_some.mp hx;rw[e1]at hu;cases hu;obtain⟨a3,e3,h3⟩:=(JE X4.fp e1 e2).same sm;rw[e3]at h1 ⊢;refine ixT 1 h3 rfl ⟨rfl,_,rfl,?_⟩;exact XS (λe=>⟨_,rfl,h1 e _ _ ⟨_,rfl⟩ sm⟩) (λe=>h2 e _ _ ⟨_,rfl⟩ sm)
 intro H5 sm lZ hZ;have S45:=Zj.of sm (b:=b);have B5:=B4.same sm;have pz:=W2 (λz:Spt=>!decide (V.int z.2=.int 1)) (XT (S4.trans S45)).fp;obtain⟨zs,ezs⟩:∃zs,zs=((ys.zip ss).filter λq=>!decide (V.int q.2.2=.int 1)).map (·.1):=⟨_,rfl⟩;obtain⟨sf,esf⟩:∃sf,sf=ss.filter λz=>!decide (V.int z.2=.int 1):=⟨_,rfl⟩;have lsf:sf.length<=ss.length:=by rw[esf];exact bO _ _
 have hsf:∀z∈sf,Xl T z:=λz hz=>by rw[esf]at hz;exact lk.s z (bA.mp hz).1
 replace pz:bj (SpAt H5) zs sf:=by rw[ezs,esf];exact pz
 rw[show(((ys.zip ss).filter λq=>!decide (V.int q.2.2=.int 1)).map λq=>q.1)=zs from ezs.symm];clear ezs esf lzip;try dsimp only
 refine al2 B5 hZ λH6 B6 S56 eZ mZ=>?_;replace pz:=Paired.mapP pz λ_ _ q=>q.sameB B5 S56;have S46:=S45.trans S56;have S6:=S4.trans S46;have eA6:=S46 _ _ eA mA;replace od2:∀v∈vA,Odd K b T H6 v:=λv hv=>(od2 v hv).later S46;refine hk4 _ _ (tq λD5 hk5=>?_);clear hk4 S45 S56 S46 S4 eA hZ sm B5 B4 X4;try dsimp only[Zq,ay]
 have X6:=XT S6;refine⟨_,rfl,?_⟩;refine lst1 ?_;refine X6.itemS (K:=K) (i:=3) (j:=4) B6 X6.fp X6.ls X6.sl X6.fc ?g1 ?g2 (λQ' kq=>?_) λH1 q1 B1 S61 o1=>?_;case g1=>rfl
 case g2=>rfl
 ·refine⟨_,rfl,_,rfl,Zx (by show 2<=1000;decide),λu hu=>?_⟩;try dsimp only
  refine al (G:=λHz=>Q' (V.ref u) Hz) B6 hu λHu Bu Su eu mu=>?_;exact kq _ _ Bu Su λH' s=>es2 (dw:=.int (-1)) gpl ⟨_,.int _⟩ (.int _) (Atm.sm (.int (by decide))) (s _ _ eu mu) λ_ i e h _=>by injection e with e;omega
 have S1:=S6.trans S61;have X1:=XT S1;refine G9 ?_;have pz1:=Paired.mapP pz λ_ _ q=>q.sameB B6 S61;refine X1.itemS (K:=K) (i:=3) (j:=7) B1 pz1 hsf (by omega) (S61 _ _ eZ mZ) ?g1 ?g2 (λQ' kq=>?_) λH2 q2 B2 S12 o2=>?_;case g1=>rfl
 case g2=>rfl
 ·refine⟨_,rfl,Zx (by show 2<=1000;decide),λu hu=>?_⟩;try dsimp only
  refine al (G:=λHz=>Q' (V.ref u) Hz) B1 hu λHu Bu Su eu mu=>?_;exact kq _ _ Bu Su λH' s=>es2 (dw:=.bool true) gpl ⟨_,.bl _⟩ (.bl _) (EW true) (s _ _ eu mu) λ_ i e _ _=>by cases e
 have S2:=S1.trans S12;have X2:=XT S2;refine G9 ?_;refine⟨_,rfl,_,rfl,c,_,rfl,.inl ⟨SqL.of X2.fc,λt5 ht5=>?_⟩⟩;try dsimp only
 refine al2 B2 ht5 λH3 B3 S23 et5 mt5=>?_;refine⟨Zx (by show 2<=1000;decide),λq3 h3=>?_⟩;try dsimp only
 refine al2 B3 h3 λH4 B4 S34 e3 m3=>?_;have S4:=(S2.trans S23).trans S34;have et5':=S34 _ _ et5 mt5;have o3:Odd K b T H4 (.ref q3):=λH' s=>⟨.inl (.inr ⟨q3,_,rfl,s _ _ e3 m3,by show 2<=1000;decide,.inr ⟨_,_,rfl,.inr ⟨⟨a,_,rfl,(XT (S4.trans s)).fa⟩,_,.tup (s _ _ et5' mt5),by decide⟩⟩⟩),My (s _ _ e3 m3) (XT (S4.trans s)).pa (Prt2.tup (s _ _ et5' mt5) (Jq (XT (S4.trans s)).fp) (NB ok n12 lk.s) (by omega))⟩;have S64:=((S61.trans S12).trans S23).trans S34;refine Mo (K:=K) (T:=T) B4 (S64 _ _ eA6 mA) mA (by omega) (by show 3<=3;decide) (λv hv=>(od2 v hv).later S64) (λv hv=>?_) λH5 lB B5 S45 eB mB _ od3=>?_
 ·simp only[ao,aF,or_false]at hv;rcases hv with rfl|rfl|rfl
  ·exact o1.later ((S12.trans S23).trans S34)
  ·exact o2.later (S23.trans S34)
  ·exact o3
 have lB9:(vA++[V.ref q1,.ref q2,.ref q3]).length=14:=by rw[aj,lA9];rfl
 generalize vA++[V.ref q1,.ref q2,.ref q3]=vB at eB od3 lB9;have S5:=S4.trans S45;refine hk5 _ _ (tq λD6 hk6=>?_);clear hk5 o1 o2 o3 od2 S64 S45 S34 S23 S12 S61 S6 S1 S2 S4 B1 B2 B3 B4 B6 eA6 X1 X2 X6 pz1 pz eZ et5 et5' e3 ht5 h3;try dsimp only[Zq,ay]
 have X5:=XT S5;refine⟨_,rfl,?_⟩;refine lst1 ?_;refine X5.itemS (K:=K) (i:=3) (j:=4) B5 X5.fp X5.ls X5.sl X5.fc ?g1 ?g2 (λQ' kq=>?_) λH1 q1 B1 S51 o1=>?_;case g1=>rfl
 case g2=>rfl
 ·refine⟨_,rfl,Zx (by show 2<=1000;decide),λu hu=>?_⟩;try dsimp only
  refine al (G:=λHz=>Q' (V.ref u) Hz) B5 hu λHu Bu Su eu mu=>?_;refine kq _ _ Bu Su λH' s=>?_;have h':=s _ _ eu mu;refine⟨.inl ⟨_,.lst h',by decide⟩,Kc (.lst h') (by decide),.list [.str pl,.int 0],.lst h' (.cons (.str _) (.cons (.int _) .nil)),?_⟩;refine(SmAll.lst (SmAll.of (ds:=[.str pl,.int 0]) (k:=0) (m:=12) λd hd=>?_) (n:=2) (by show 2<=2;decide)).mono (by decide) (by decide);simp only[ao,aF,or_false]at hd;rcases hd with rfl|rfl
  ·exact Atm.sm (.str gpl)
  ·exact Atm.sm (.int (by decide))
 have S1:=S5.trans S51;have X1:=XT S1;refine G9 ?_;refine X1.itemG (K:=K) (i:=3) (j:=4) B1 ?g1 ?g2 (λQ' kq=>?_) λH2 q2 B2 S12 o2=>?_;case g1=>rfl
 case g2=>rfl
 ·exact kq _ _ B1 (Zj.refl b H1) (QR (d:=.int 7) (λ_=>⟨_,.int _⟩) rfl (λ_=>.int _) (RK (by decide)))
 have S2:=S1.trans S12;have X2:=XT S2;refine G9 ?_;refine X2.itemS (K:=K) (i:=3) (j:=4) B2 X2.fp X2.ls X2.sl X2.fc ?g1 ?g2 (λQ' kq=>?_) λH3 q3 B3 S23 o3=>?_;case g1=>rfl
 case g2=>rfl
 ·exact kq _ _ B2 (Zj.refl b H2) λH' s=>⟨.inl ⟨_,.non,by decide⟩,(λ hZ=>by obtain⟨a2,_,e,_⟩:=hZ;cases e),.none,.non,(Atm.sm .non).mono (by decide) (by decide)⟩
 have S53:=(S51.trans S12).trans S23;refine Mo (K:=K) (T:=T) B3 (S53 _ _ eB mB) mB (by omega) (by show 3<=3;decide) (λv hv=>(od3 v hv).later S53) (λv hv=>?_) λH4 lC B4 S34 eC mC _ od4=>?_
 ·simp only[ao,aF,or_false]at hv;rcases hv with rfl|rfl|rfl
  ·exact o1.later (S12.trans S23)
  ·exact o2.later S23
  ·exact o3
 have lC9:(vB++[V.ref q1,.ref q2,.ref q3]).length=17:=by rw[aj,lB9];rfl
 generalize vB++[V.ref q1,.ref q2,.ref q3]=vC at eC od4 lC9;have S4:=(S5.trans S53).trans S34;refine hk6 _ _ (tq λD7 hk7=>?_);clear hk6 o1 o2 o3 od3 S53 S34 S23 S12 S51 S5 S1 S2 B1 B2 B3 B5 eB X1 X2 X5;try dsimp only[Zq,ay]
 have X4:=XT S4;refine⟨_,rfl,?_⟩;refine lst1 ?_;refine X4.itemG (K:=K) (i:=3) (j:=4) B4 ?g1 ?g2 (λQ' kq=>?_) λH1 q1 B1 S41 o1=>?_;case g1=>rfl
 case g2=>rfl
 ·refine⟨Zx (by show 1<=1000;decide),λu hu=>?_⟩;try dsimp only
  refine al (G:=λHz=>Q' (V.ref u) Hz) B4 hu λHu Bu Su eu mu=>?_;refine kq _ _ Bu Su λH' s=>?_;have h':=s _ _ eu mu;refine⟨⟨_,.lst h'⟩,rfl,.list [.str "q"],.lst h' (.cons (.str _) .nil),?_⟩;refine(SmAll.lst (SmAll.of (ds:=[.str "q"]) (k:=0) (m:=12) λd hd=>?_) (n:=2) (by show 1<=2;decide)).mono (by decide) (by decide);rw[aB]at hd;subst hd;exact Atm.sm (.str gq1)
 have S1:=S4.trans S41;have X1:=XT S1;refine G9 ?_;refine X1.itemS (K:=K) (i:=3) (j:=4) B1 X1.fp X1.ls X1.sl X1.fc ?g1 ?g2 (λQ' kq=>?_) λH2 q2 B2 S12 o2=>?_;case g1=>rfl
 case g2=>rfl
 ·refine⟨_,rfl,Zx (by show 1<=1000;decide),λu hu=>?_⟩;try dsimp only
  refine al (G:=λHz=>Q' (V.ref u) Hz) B1 hu λHu Bu Su eu mu=>?_;refine kq _ _ Bu Su λH' s=>?_;have h':=s _ _ eu mu;refine⟨.inr ⟨u,_,rfl,h',by show 1<=1000;decide,λv hv=>?_⟩,?_,.tuple [.str pl],.tup h' (.cons (.str _) .nil),?_⟩
  ·rw[aB]at hv;subst hv;exact⟨_,.str _ (Xx gpl)⟩
  ·rintro ⟨a2,x2,e,h2,y,hy,i2,ex,_⟩;cases e;rw[h']at h2;cases h2;injection ex with _ ex;cases ex
  ·refine(SmAll.tup (SmAll.of (ds:=[.str pl]) (k:=0) (m:=12) λd hd=>?_) (n:=2) (by show 1<=2;decide)).mono (by decide) (by decide);rw[aB]at hd;subst hd;exact Atm.sm (.str gpl)
 have S2:=S1.trans S12;have X2:=XT S2;refine G9 ?_;refine⟨_,rfl,Zx (by show 1<=1000;decide),λu9 hu9=>?_⟩;try dsimp only
 refine al2 B2 hu9 λH3 B3 S23 e9 m9=>?_;refine⟨c,u9,_,_,rfl,rfl,(XT (S2.trans S23)).fc,e9,Zx (by show _+1<=1000;omega),λu10 hu10=>?_⟩;try dsimp only
 refine al2 B3 hu10 λH5 B5 S35 e10 m10=>?_;refine⟨_,rfl,Zx (by show 2<=1000;decide),λq3 h3=>?_⟩;try dsimp only
 refine al2 B5 h3 λH6 B6 S56 e3 m3=>?_;have S26:=(S23.trans S35).trans S56;have S6:=S2.trans S26;have o3:Odd K b T H6 (.ref q3):=λH' s=>by
  have hu:=s _ _ (S56 _ _ e10 m10) m10;have X':=XT (S6.trans s);refine E7 (s _ _ e3 m3) hu X'.fa (by rw[aj];show _+1<=400;omega) (by rw[lm];omega) (λe he=>?_) ⟨.non,aU _ (aB.mpr rfl),rfl⟩ ?_ X'.pa
  ·rcases aD.mp he with he|he
   ·obtain⟨j,hj⟩:=aY.mp he;obtain⟨z,hz,a2,rfl,ha2⟩:=Yv X'.fp hj;exact⟨_,.tup ha2⟩
   ·rw[aB]at he;subst he;exact⟨_,.non⟩
  ·refine Prt2.lst hu (Gd (Jq X'.fp) (.cons .non .nil)) (λd hd=>?_) (by rw[aj];show _+1<=420;omega);rcases aD.mp hd with hd|hd
   ·exact NB ok n12 lk.s d hd
   ·rw[aB]at hd;subst hd;exact(Atm.sm .non).mono (by decide) (by decide)
 have S46:=(S41.trans S12).trans S26;have od5':∀v∈vC++[V.ref q1,.ref q2,.ref q3],Odd K b T H6 v:=λv hv=>by
  rcases aD.mp hv with hv|hv
  ·exact(od4 v hv).later S46
  ·simp only[ao,aF,or_false]at hv;rcases hv with rfl|rfl|rfl
   ·exact o1.later (S12.trans S26)
   ·exact o2.later S26
   ·exact o3
 refine Mo (K:=K) (T:=T) B6 (S46 _ _ eC mC) mC (by omega) (by show 3<=3;decide) (λv hv=>(od4 v hv).later S46) (λv hv=>od5' v (aU _ hv)) λH50 lE B50 Sx50 eE mE hxl _=>?_;have lE9:(vC++[V.ref q1,.ref q2,.ref q3]).length=20:=by rw[aj,lC9];rfl
 generalize vC++[V.ref q1,.ref q2,.ref q3]=vE at eE od5' lE9;have S0x:Zj b H H6:=S6;refine hk7 _ _ (tq λD8 hk8=>?_);clear hk7 o1 o2 o3 od4 S46 S26 S56 S35 S23 S12 S41 S4 S1 S2 S6 B1 B2 B3 B4 B5 B6 eC X1 X2 X4 e9 e10 e3 hu9 hu10 h3;try dsimp only[Zq,ay]
 have X0:∀{H':Hp},Zj b H6 H'->NX T H' a c gs ys ss:=λs=>XT (S0x.trans s);have X00:=X0 (Zj.refl b H6);have na:a≠lE:=Zi X00.fa hxl;have nc:c≠lE:=Zi X00.fc hxl;have nab:a≠b:=Mv hbb ha;have ncb:c≠b:=Xo hbb hc ps;clear X00;have nil1:∀{xs:List V},(!decide (xs=[]))=true->xs≠[]:=λh e=>by rw[e]at h;cases h
 have sbl:∀{H' H'':Hp},Zj b H' H''->∀c o,H' c=some o->c≠b->c≠lE->H'' c=some o:=λs c o e hc _=>s c o e hc;have ob5:∀v∈vE,∀H',Zj b H6 H'->∀H'',(∀c o,H' c=some o->c≠b->c≠lE->H'' c=some o)->YM K H'' T v/\Sh H'' v:=λv hv H' s H'' s2=>od5' v hv H'' λc o e hc=>s2 c o (s c o e hc) hc (Zi e hxl);have fin:∀(H':Hp)(l:Addr)(vX:List V),ZA H' b->Zj b H6 H'->H' l=some (.lst vX)->l≠b->0<vX.length->vX.length<=30->(∀v∈vX,∀H'',(∀c o,H' c=some o->c≠b->c≠lE->H'' c=some o)->YM K H'' T v/\Sh H'' v)->tRet (tOp (rIxL K) (tVar 6) (G0 Y1 [] E0 (Yo (tVar 0) (Yo (tCB (rLen K) (Yo (tVar 6) tNil)) tNil)))) {nx:=λx H'=>Q V.non H',rt:=Q} [some (V.ref b),some (V.ref p),some (V.ref pw),some (V.ref a),some (V.ref c),some (V.str pl),some (V.ref l),some (V.ref lZ)] H':=λH' l vX B' S' e' ml l0 l30 o'=>by refine⟨_,rfl,_,rfl,_,rfl,l,_,rfl,.inl (SqL.of e'),b,_,rfl,B',by omega,Yj (by omega) (by omega),λr H'' r0 r1 B'' S''=>?_⟩;obtain⟨v',at',m'⟩:=at_of (xs:=vX) r0 r1;refine⟨l,_,_,_,rfl,rfl,SqL.of (S'' _ _ e' ml),at',?_⟩;obtain⟨o1,o2⟩:=o' v' m' H'' (sbl S'');exact k H'' v' B'' ((S0x.trans S').trans S'') o1 o2
 have upE:∀{H':Hp}{o:HO},Zj b H6 H'->Zj b H6 (upd H' lE o):=λs c o' e hc=>by rw[Zg (Zi e hxl)];exact s c o' e hc
 have lastq:∀(H5:Hp)(q z x:Addr)(zs vX:List V)(ss':List Spt)(gs':List Str),H5 lE=some (.lst vX)->H5 q=some (.tup [.ref x,.ref z])->q≠b->H5 x=some (.lst (gs'.map V.str))->x≠b->x≠lE->H5 z=some (.lst zs)->z≠b->z≠lE->ZA H5 b->bj (SpAt H5) zs ss'->(∀g∈gs',g∈T.t4.map nameOf)->(∀s∈ss',Xl T s)->gs'.length<=400->ss'.length<=400->¬(gs'.Nodup/\ss'.Nodup)->∀H'',(∀c o,H5 c=some o->c≠b->c≠lE->H'' c=some o)->YM K H'' T (.ref q)/\Sh H'' (.ref q):=λH5 q z x zs vX ss' gs' hl eq nq ex nx nx' ez nz nz' Bi pz hg hs lg' ls' nd H'' s=>by have tl:∀{c':Addr}{xs:List V},H5 c'=some (.tup xs)->H'' c'=some (.tup xs):=λh=>s _ _ h (Mu Bi h) (ne_of h hl (λz=>nomatch z));have pz':bj (SpAt H'') zs ss':=Paired.mapP pz λ_ _⟨a2,e2,h2⟩=>⟨a2,e2,tl h2⟩;have lz:=aK pz;have ex':=s _ _ ex nx nx';have ez':=s _ _ ez nz nz';exact AF (tl eq) ex' ez' lg' (by omega) hg pz' hs nd (Prt2.lst ex' (Xq gs') (QH ok hg) (by rw[lm];omega)) (Prt2.lst ez' (Jq pz') (NB ok n12 hs) (by omega))
 have sec:∀(H':Hp)(vX:List V),ZA H' b->Zj b H6 H'->H' lE=some (.lst vX)->0<vX.length->vX.length<=25->(∀v∈vX,∀H'',(∀c o,H' c=some o->c≠b->c≠lE->H'' c=some o)->YM K H'' T v/\Sh H'' v)->D8.nx [some (V.ref b),some (V.ref p),some (V.ref pw),some (V.ref a),some (V.ref c),some (V.str pl),some (V.ref lE),some (V.ref lZ)] H':=λH' vX B' S' e' l0 l20 o'=>by
  refine hk8 _ _ (tq λD9 hk9=>?_);refine⟨_,rfl,Nat.zero_le _,λle he=>?_⟩;have hc':=(X0 S').fc;refine⟨_,_,_,rfl,rfl,SqL.of ((Zg (Zi hc' he)).trans hc'),Zf,_,rfl,?_⟩;have S1:Zj b H' (upd H' le (.lst [])):=(Zj.refl b H').new' he;have B1:ZA (upd H' le (.lst [])) b:=B'.new he;try dsimp only
  generalize upd H' le (.lst [])=H1 at S1 B1 ⊢;have Sx:=S'.trans S1;have ex:=S1 _ _ e' mE;have ox:∀v∈vX,∀H'',(∀c o,H1 c=some o->c≠b->c≠lE->H'' c=some o)->YM K H'' T v/\Sh H'' v:=λv hv H'' s=>o' v hv H'' λc o e hc hl=>s c o (S1 c o e hc) hc hl;refine ite2 (λen=>?_) (λ_=>hk9 _ _ (fin H1 lE vX B1 Sx ex mE l0 (by omega) ox));have hne:=nil1 en;have lss:0<ss.length:=by rw[<-ly];exact gL.mpr hne
  refine⟨_,rfl,_,rfl,_,rfl,_,rfl,c,_,rfl,SqL.of (X0 Sx).fc,λu1 hu1=>?_⟩;try dsimp only
  refine al2E (congrArg HO.lst (LZ ys (i:=1) (by decide))) B1 hu1 λH2 B2 S2 e2 m2=>?_;refine⟨_,rfl,u1,c,_,_,rfl,rfl,e2,(X0 (Sx.trans S2)).fc,Zx (by rw[aN];omega),λu2 hu2=>?_⟩;have nu2:u2≠lE:=λz=>by rw[z,S2 _ _ ex mE]at hu2;cases hu2
  try dsimp only
  refine al2 B2 hu2 λH4 B4 S4 e4 m4=>?_;refine⟨Zx (by show 2<=1000;decide),λq hq=>?_⟩;try dsimp only
  refine al2 B4 hq λH5 B5 S5 e5 m5=>?_;have S15:=(S2.trans S4).trans S5;have Sx5:=Sx.trans S15;have ex5:=S15 _ _ ex mE;have fp5:=(X0 Sx5).fp;have pz:=Vb (Qp fp5 1) fp5;have oq:=lastq H5 q u2 a (ys.take 1++ys) vX (ss.take 1++ss) gs ex5 e5 m5 (X0 Sx5).fa nab na (S5 _ _ e4 m4) m4 nu2 B5 pz lk.g (λz hz=>by
   rcases aD.mp hz with hz|hz
   ·exact lk.s z (cL hz)
   ·exact lk.s z hz) (by omega) (by rw[aj,aN];omega) (λh=>by
   have h2:=h.2;cases ss with
  |nil=>cases lss
  |cons s0 sr=>rw[show(s0::sr).take 1=[s0]from rfl,di]at h2;exact h2.2.2 _ (aB.mpr rfl) _ aG rfl)
  refine⟨Zx (by show 1<=1000;decide),λr hr'=>?_⟩;try dsimp only
  refine al2 B5 hr' λH7 B7 S57 e7 m7=>?_;refine⟨r,2,_,rfl,rfl,e7,by decide,by decide,Zx (by show 1*2<=1000;decide),λr2 hr2=>?_⟩;try dsimp only
  refine al2E (o':=.lst [.ref q,.ref q]) rfl B7 hr2 λH8 B8 S78 e8 m8=>?_;have S58:=S57.trans S78;refine⟨lE,r2,_,_,rfl,rfl,S58 _ _ ex5 mE,e8,Zx (by show _+2<=1000;omega),λl' hl'=>?_⟩;have nl':l'≠lE:=λz=>by rw[z,S58 _ _ ex5 mE]at hl';cases hl'
  try dsimp only[Zq,ay]
  refine al B8 hl' λH9 B9 S89 e9 m9=>?_;have S59:=S58.trans S89;refine hk9 _ _ (fin H9 l' (vX++[.ref q,.ref q]) B9 (Sx5.trans S59) e9 m9 (by rw[aj];omega) (by rw[aj];show _+2<=30;omega) λv hv H'' s=>?_);rcases aD.mp hv with hv|hv
  ·exact ox v hv H'' λc o e hc hl=>s c o ((S15.trans S59) c o e hc) hc hl
  ·have hq':v=.ref q:=by simp only[ao,aF,or_false]at hv;rcases hv with rfl|rfl<;>rfl
   subst hq';exact oq H'' λc o e hc hl=>s c o (S59 c o e hc) hc hl
 refine⟨_,rfl,Nat.zero_le _,λle he=>?_⟩;have ha':=(X0 Sx50).fa;refine⟨_,_,_,rfl,rfl,SqL.of ((Zg (Zi ha' he)).trans ha'),Zf,_,rfl,?_⟩;have S1:Zj b H50 (upd H50 le (.lst [])):=(Zj.refl b H50).new' he;have B1:ZA (upd H50 le (.lst [])) b:=B50.new he;try dsimp only
 generalize upd H50 le (.lst [])=H1 at S1 B1 ⊢;have Sx:=Sx50.trans S1;have ex:=S1 _ _ eE mE;refine ite2 (λen=>?_) (λ_=>sec H1 vE B1 Sx ex (by omega) (by omega) λv hv=>ob5 v hv H1 Sx);have hne:=nil1 en;have lgs:0<gs.length:=by rw[<-lm (f:=V.str)];exact gL.mpr hne
 refine⟨_,rfl,.inl ⟨rfl,_,SqL.of ex⟩,_,rfl,_,rfl,_,rfl,_,rfl,a,_,rfl,SqL.of (X0 Sx).fa,λu1 hu1=>?_⟩;try dsimp only
 refine al2E (congrArg HO.lst (L4 (gs.map V.str) hne)) B1 hu1 λH2 B2 S2 e2 m2=>?_;refine⟨a,u1,_,_,rfl,rfl,(X0 (Sx.trans S2)).fa,e2,Zx (by rw[bD,lm];omega),λu2 hu2=>?_⟩;have nu2:u2≠lE:=λz=>by rw[z,S2 _ _ ex mE]at hu2;cases hu2
 try dsimp only
 refine al2 B2 hu2 λH4 B4 S4 e4 m4=>?_;refine⟨_,rfl,Zx (by show 2<=1000;decide),λq hq=>?_⟩;try dsimp only
 refine al2 B4 hq λH5 B5 S5 e5 m5=>?_;have S15:=(S2.trans S4).trans S5;have Sx5:=Sx.trans S15;have ex5:=S15 _ _ ex mE;have e4':H5 u2=some (.lst ((gs++gs.drop (gs.length-1)).map V.str)):=by have:=S5 _ _ e4 m4;rw[aL,gP];rw[lm]at this;exact this
 have hdl:gs.drop (gs.length-1)=[gs[gs.length-1]]:=by rw[fD (by omega),d9 (by omega)]
 have oq:=lastq H5 q c u2 ys vE ss (gs++gs.drop (gs.length-1)) ex5 e5 m5 e4' m4 nu2 (X0 Sx5).fc ncb nc B5 (X0 Sx5).fp (λg hg=>by
  rcases aD.mp hg with hg|hg
  ·exact lk.g g hg
  ·exact lk.g g (gv hg)) lk.s (by rw[aj,bD];omega) (by omega) (λh=>by
  have h1:=h.1;rw[hdl,di]at h1;exact h1.2.2 _ (aE _) _ (aB.mpr rfl) rfl)
 refine⟨lE,vE,_,rfl,rfl,ex5,Nat.lt_of_le_of_lt (by omega:vE.length<=20) (by decide),?_⟩;refine sec _ (vE++[.ref q]) (ZA.same_ne B5 mE) (upE Sx5) Zf (by simp) (by rw[aj];show _+1<=25;omega) λv hv H'' s=>?_;have s':∀c o,H5 c=some o->c≠b->c≠lE->H'' c=some o:=λc o e hc hl'=>s c o (by rw[Zg hl'];exact e) hc hl';rcases aD.mp hv with hv|hv
 ·exact ob5 v hv H5 Sx5 H'' s'
 ·rw[aB]at hv;subst hv;exact oq H'' s'
end
theorem Vd{H H':Hp}{v:V}{d:PyData}(s:Same H H')(h:IsX H v d):IsX H' v d:=by
 cases h with
|of h=>exact .of (h.same s)
|dk e=>exact .dk (s _ _ e)
theorem QL{H:Hp}{T:Tb}{p a c:Addr}(hp:H p=some (.tup [.ref a,.ref c]))(ha:H a=some (.lst []))(hc:H c=some (.lst [])):Yh H T (.ref p) [] []:=⟨p,a,c,[],rfl,hp,ha,hc,.nil,⟨(λ_ h=>nomatch h),(λ_ h=>nomatch h)⟩,dA,dA,Nat.zero_le _,Nat.zero_le _⟩
def Hnd(K:aa)(H:Hp)(T:Tb)(x:V)(gs:List Str)(ss:List Spt)(A:Option Int):Prop:=(Yh H T x gs ss/\A=acr T gs ss)\/(YM K H T x/\A=none)
section
variable {K:aa}{H H':Hp}{T:Tb}{x:V}{gs:List Str}{ss:List Spt}{A:Option Int}{C t:Addr}{i:Int}{Q:VK}{E:XK}
theorem Hnd.same(s:Same H H')(h:Hnd K H T x gs ss A):Hnd K H' T x gs ss A:=by
 rcases h with⟨g,e⟩|⟨b,e⟩
 ·exact .inl ⟨g.same s,e⟩
 ·exact .inr ⟨b.same s,e⟩
theorem Hnd.acr(h:Hnd K H T x gs ss A)(tel:Tel H C t T)(ok:OkTb T)(k:∀H',Same H H'->Q (optV A) H'):P9 K C [.ref t,x] H Q E:=by
 refine⟨t,x,T,rfl,tel,ok,?_⟩;rcases h with⟨g,rfl⟩|⟨b,rfl⟩
 ·exact .inr ⟨gs,ss,g,k⟩
 ·exact .inl ⟨b,k⟩
theorem Hnd.lets(h:Hnd K H T x gs ss A)(tel:Tel H C t T)(ok:OkTb T)(i0:0<=i)(i1:i<=T.n)(k:∀H',Same H H'->Q (optV (QD T i gs ss A)) H'):Rh K C [.ref t,.int i,x] H Q E:=by
 refine⟨t,i,x,T,rfl,tel,ok,i0,i1,?_⟩;rcases h with⟨g,rfl⟩|⟨b,rfl⟩
 ·refine .inr ⟨gs,ss,g,λH' s=>?_⟩;rw[<-Ew];exact k H' s
 ·exact .inl ⟨b,k⟩
end
def OddT(H:Hp)(T:Tb)(v:V):Prop:=∃(T':String)(d:PyData),Th H v T'/\K1.Zw v 0 T.n=false/\Is H v d/\Shw d
def Sz(K:aa)(C:Addr):Sp:=λvs H Q _=>∃(t pw d l1 l2 l3 l4:Addr)(v sv:V)(T:Tb)(gs:List Str)(ss:List Spt),vs=[.ref t,.ref pw,.ref d,v,sv]/\Tel H C t T/\WAt H pw T l1 l2 l3 l4/\Dc H d (allS T)/\OkTb T/\Wd T/\Yh H T v gs ss /\(sv=.non\/∃l x,sv=.ref l/\H l=some (.lst [x])/\YM K H T x/\Sh H x)/\∀H',Same H H'->Q (.bl true) H'
section
variable {P:Program}{w:World}{K:aa}{mg:Str->Option Value}{base:Heap}{C:Addr}
theorem Yb:FnScope ["_law_table",q_w,"_law_steps_here","_law_line_here","_law_some","_law_across_here","_law_handed","_law_turn"] ["_law_table",q_w,"_law_steps_here","_law_line_here","_law_some"] (Zc T.f__law_right):=scO
theorem R6(B:∀x∈Blts,mg x=none)(Z:TCl K C)(CA:Can P w K mg base 1 "_law_across" ["_law_steps_here","_law_line_here"] KD)(CR:Can P w K mg base 6 "rooms_across" ["table","line"] (P9 K C))(CL:Can P w K mg base 7 "lets" ["table","turn","line"] (Rh K C))(CS:Can P w K mg base 1 "_law_same" ["_law_found","_law_due"] Ko)(CD:Can P w K mg base 1 "_law_lets_due" [q_w,"_law_across_here","_law_turn","_law_line_here"] EV)(CN:Can P w K mg base 8 "_law_no_turn" ["_law_table","_law_turn","_law_line_here"] (P6 C))(D:Df K mg "_law_right" T.f__law_right ["_law_table",q_w,"_law_steps_here","_law_line_here","_law_some"]):Can P w K mg base 9 "_law_right" ["_law_table",q_w,"_law_steps_here","_law_line_here","_law_some"] (Sz K C):=by
 refine D.cn Yb λf cdv A outer s H vs Q E hr h=>?_;obtain⟨t,pw,d,l1,l2,l3,l4,v,sv,T,gs,ss,rfl,tel,wt,dc,ok,wd,good,hsv,k⟩:=h;refine' ⟨_,(@Za _ _ _ _ _ ?h21 (@Za _ _ _ _ _ ?h22 (@Za _ _ _ _ _ ?h23 (@Za _ _ _ _ _ ?h24 (@Za _ _ _ _ _ ?h25 (@Za _ _ _ _ _ ?h26 (@Zd _ _ _ ?h27))))))),?rd⟩;case' h27=>refine' (Zl (Y3 (@YE _ _ _ _ _ _ _ _ Xw (Zv (Uj hr) rfl (bm B) dS (@pa1 _ _ _ (pv 4) (by rfl))) (pv 6) (ZC _)) (YJ (cn CS hr (@pa2 _ _ _ _ _ (cn CR hr (@pa2 _ _ _ _ _ (pv 0) (pv 4) (by rfl))) (pv 5) (by rfl))))))
 case' h26=>refine' (Yc aT rfl (ZW ?h18) (nmT 7 Yb.nd) (@Zd _ _ _ ?h20))
 case' h25=>refine' (Yc aT rfl (YD rfl (bm B) (@pa1 _ _ _ (Zo ZI ?h13 Zb) (by rfl))) (nmT 7 Yb.nd) (@Zd _ _ _ ?h15))
 case' h24=>refine' (@ZG _ _ _ _ _ _ _ _ (ZY (ZT (cn CS hr (@pa2 _ _ _ _ _ (cn CR hr (@pa2 _ _ _ _ _ (pv 0) (pv 4) (by rfl))) (pv 5) (by rfl))))) (@Zd _ _ _ ?h12) Zp)
 case' h23=>refine' (@st _ _ _ _ 6 _ _ Yb.nd (Zv (Uj hr) rfl (bm B) dS (@pa1 _ _ _ (pv 4) (by rfl))) (by rfl) (by exact aO rfl) (by rfl) (by exact .inl rfl))
 case' h22=>refine' (@ZG _ _ _ _ _ _ _ _ (@Zt _ _ _ _ _ _ _ _ X3 (pv 4) ZF (ZC _)) (@Za _ _ _ _ _ ?h4 (@Zd _ _ _ ?h5)) (@Za _ _ _ _ _ ?h10 (@Zd _ _ _ ?h11)))
 case' h21=>refine' (@st _ _ _ _ 5 _ _ Yb.nd ZF (by rfl) (by exact aO rfl) (by rfl) (by exact .inl rfl))
 case' h20=>refine' (@ZG _ _ _ _ _ _ _ _ (ZY (ZT (cn CN hr (@pa3 _ _ _ _ _ _ _ (pv 0) (pv 7) (pv 4) (by rfl))))) (@Zd _ _ _ ?h19) Zp)
 case' h19=>refine' (Zl JU)
 case' h18=>refine' (@Zy _ _ _ _ (@Ze _ _ _ _ _ (Qm Mx Zb) (@Ze _ _ _ _ _ (Zo ZI ?h17 Zb) (@Ze _ _ _ _ _ JU (@pa3 _ _ _ _ _ _ _ ZF ZE ?h16 (by rfl)) (by rfl)) (by rfl)) (by rfl)))
 case' h17=>refine' (@it _ _ _ _ _ _ K (pv 1) Zb (by rfl) (by exact λ_ _=>rfl))
 case' h16=>refine' (@Zy _ _ _ _ (@pa1 _ _ _ Zb (by rfl)))
 case' h15=>refine' (@ZG _ _ _ _ _ _ _ _ (ZY (ZT (cn CS hr (@pa2 _ _ _ _ _ (cn CL hr (@pa3 _ _ _ _ _ _ _ (pv 0) (pv 7) (pv 4) (by rfl))) (cn CD hr (@Ze _ _ _ _ _ (pv 1) (@pa3 _ _ _ _ _ _ _ (pv 5) (pv 7) (pv 3) (by rfl)) (by rfl))) (by rfl))))) (@Zd _ _ _ ?h14) Zp)
 case' h14=>refine' (Zl JU)
 case' h13=>refine' (@it _ _ _ _ _ _ K (pv 1) Zb (by rfl) (by exact λ_ _=>rfl))
 case' h12=>refine' (Zl JU)
 case' h11=>refine' (@st _ _ _ _ 3 _ _ Yb.nd ?h9 (by rfl) (by exact aO rfl) (by rfl) (by exact .inl rfl))
 case' h10=>refine' (@st _ _ _ _ 4 _ _ Yb.nd ?h6 (by rfl) (by exact aO rfl) (by rfl) (by exact .inl rfl))
 case' h9=>refine' (@Zu _ _ _ _ _ (@pa2 _ _ _ _ _ ?h8 ?h7 (by rfl)))
 case' h8=>refine' (@Zy _ _ _ _ Zk)
 case' h7=>refine' (@Zy _ _ _ _ Zk)
 case' h6=>refine' (@il _ _ _ _ _ _ K (pv 4) Zb (by rfl) (by exact λ_ _=>rfl))
 case' h5=>refine' (@st _ _ _ _ 4 _ _ Yb.nd ?h3 (by rfl) (by exact aO rfl) (by rfl) (by exact .inl rfl))
 case' h4=>refine' (@st _ _ _ _ 5 _ _ Yb.nd (cn CA hr (@pa2 _ _ _ _ _ (pv 2) (pv 3) (by rfl))) (by rfl) (by exact aO rfl) (by rfl) (by exact .inl rfl))
 case' h3=>refine' (@Zu _ _ _ _ _ (@pa2 _ _ _ _ _ (Yi YG rfl (bm B) Xn (@pa1 _ _ _ ?h2 (by rfl))) (Yi YG rfl (bm B) Xn (@pa1 _ _ _ ?h1 (by rfl))) (by rfl)))
 case' h2=>refine' (@it _ _ _ _ _ _ K (pv 3) Zb (by rfl) (by exact λ_ _=>rfl))
 case' h1=>refine' (@it _ _ _ _ _ _ K (pv 3) Zb (by rfl) (by exact λ_ _=>rfl))
 case' rd=>
 have n0:=ok.n0;have n12:=wd.n12;have k0:(0:Nat)<=sizeLine:=Nat.zero_le _;rw[show L2.start (["_law_table",q_w,"_law_steps_here","_law_line_here","_law_some","_law_across_here","_law_handed","_law_turn"]:List Str) [V.ref t,V.ref pw,V.ref d,v,sv]=[some (.ref t),some (.ref pw),some (.ref d),some v,some sv,none,none,none]from rfl];refine tq λD0 hk0=>?_;refine hk0 _ _ (tq λD1 hk1=>?_);clear hk0;try dsimp only[Zq,ay]
 suffices s1:∀H' x v' gs' ss' A,Same H H'->Yh H' T v' gs' ss'->Hnd K H' T x gs' ss' A->Sh H' x->D1.nx [some (.ref t),some (.ref pw),some (.ref d),some v',some x,some (optV A),none,none] H' by
  refine⟨_,rfl,rfl,_,rfl,?_⟩;rcases hsv with rfl|⟨l,x,rfl,hl,bad,sh⟩
  ·refine iteT ?_;refine tq λD2 hk2=>?_;refine⟨_,rfl,_,rfl,d,v,T,gs,ss,rfl,ok,dc,good,λH1 S1=>?_⟩;refine hk2 _ _ ?_;try dsimp only[Zq,ay]
   have g1:=good.same S1;obtain⟨p,a,c,ys,rfl,hp,ha,hc,ps,lk,nd1,nd2,lg,lsp⟩:=g1;refine ixT 0 hp rfl ⟨a,_,rfl,.inl (SqL.of ha),λq1 n1=>?_⟩;try dsimp only
   refine nl2 n1 λH2 S2 e1=>?_;refine ixT 1 (S2 _ _ hp) rfl ⟨c,_,rfl,.inl (SqL.of (S2 _ _ hc)),λq2 n2=>?_⟩;try dsimp only
   refine nl2 n2 λH3 S3 e2=>?_;refine⟨Zx (by show 2<=1000;decide),λq3 n3=>?_⟩;try dsimp only[Zq,ay]
   refine nl n3 λH4 S4 e3=>?_;have S14:=(S2.trans S3).trans S4;have gx:Yh H4 T (.ref q3) gs ss:=⟨q3,q1,q2,ys,rfl,e3,S4 _ _ (S3 _ _ e1),S4 _ _ e2,Paired.mapP ps λ_ _ z=>z.same S14,lk,nd1,nd2,lg,lsp⟩;exact s1 _ _ _ gs ss _ (S1.trans S14) (good.same (S1.trans S14)) (.inl ⟨gx,rfl⟩) (gx.sh ok n12)
  ·refine iteF ?_;refine tq λD2 hk2=>?_;refine ixL 0 hl rfl ?_;refine hk2 _ _ ?_;try dsimp only[Zq,ay]
   refine⟨k0,λq1 h1=>?_⟩;try dsimp only
   refine nl2 h1 λH2 S2 e1=>⟨k0,λq2 h2=>?_⟩;try dsimp only
   refine nl2 h2 λH3 S3 e2=>⟨Zx (by show 2<=1000;decide),λq3 h3=>?_⟩;try dsimp only[Zq,ay]
   refine nl h3 λH4 S4 e3=>?_;have S14:=(S2.trans S3).trans S4;obtain⟨dd,isx,shw⟩:=sh;exact s1 _ _ _ [] [] none S14 (QL e3 (S4 _ _ (S3 _ _ e1)) (S4 _ _ e2)) (.inr ⟨bad.same S14,rfl⟩) ⟨dd,Vd S14 isx,shw⟩
 clear hsv good gs ss;intro H1 x v' gs ss A S1 good hnd sh;obtain⟨dd,isx,shw⟩:=sh;refine hk1 _ _ (tq λD2 hk2=>?_);clear hk1;refine⟨_,rfl,x,dd,rfl,isx,shw.sh,shw.dp,shw.len,?_⟩;refine hk2 _ _ (tqr λD3 hk3 hr3=>?_);clear hk2;try dsimp only[Zq,ay]
 refine⟨_,rfl,_,rfl,?_⟩;dsimp only[tNil,bB];refine hnd.acr (tel.same S1) ok λH2 S2=>?_;refine⟨_,rfl,A,rfl,true,rfl,?_⟩;refine iteF ?_;have S02:=S1.trans S2;have good2:=good.same S2;have hnd2:=hnd.same S2;have isx2:=Vd S2 isx;refine hk3 _ _ (tqr λD4 hk4 hr4=>?_);clear hk3 hr3 good hnd isx S1 S2;have wt2:=wt.same S02;refine ixT 0 wt2.at_ rfl ⟨_,_,rfl,rfl,_,rfl,by omega,by omega,?_⟩;refine YC (J:=Itr 0 (T.n+1).toNat) (T.n+1).toNat (λj σ H'=>Same H2 H'/\∃o,σ=[some (.ref t),some (.ref pw),some (.ref d),some v',some x,some (optV A),some (.str dd.shown),o]) ?_ (λi σ H' hi q=>hi) (λσ H' q=>Nat.le_refl _) (λi σ Hz v H0 hi q yl=>?_) (λσ H' q=>?_)
 ·exact⟨Same.refl _,_,rfl⟩
 ·obtain⟨s0,o,rfl⟩:=q;obtain⟨rfl,rfl⟩:=yl;try dsimp only[Zq,ay]
  refine td λD' hdd=>?_;have S00:=S02.trans s0;refine⟨_,rfl,_,rfl,_,rfl,?_⟩;dsimp only[tNil,bB];refine(hnd2.same s0).lets (tel.same S00) ok (by omega) (by omega) λH5 S5=>?_;have S05:=s0.trans S5;refine⟨_,rfl,_,rfl,_,rfl,_,rfl,pw,l1,l2,l3,l4,_,_,T,gs,ss,A,rfl,wt2.same S05,ok,good2.same S05,λH6 S6=>?_⟩;refine⟨_,rfl,true,rfl,?_⟩;refine iteF ?_;exact hdd _ _ ⟨S05.trans S6,_,rfl⟩
 obtain⟨s0,o,rfl⟩:=q;have S03:=S02.trans s0;have hnd3:=hnd2.same s0;have isx3:=Vd s0 isx2;refine hk4 _ _ (tqr λD5 hk5 hr5=>?_);clear hk4 hr4 good2 hnd2 isx2 S02 wt2 s0;generalize H'=H3 at S03 hnd3 isx3 ⊢;have wt3:=wt.same S03;have tel3:=tel.same S03;have shI:∀{i:Int},i.natAbs<=1000->Shw (.int i):=λh=>(RK h).shw (by decide) (by decide);refine⟨_,rfl,ixT 0 wt3.at_ rfl ⟨_,_,rfl,rfl,Zx (by show 1<=1000;decide),λl0 h0=>?_⟩⟩;try dsimp only
 refine nl2 h0 λH4 S34 e0=>?_;refine⟨Zx (by show 6<=1000;decide),λlL hL=>?_⟩;try dsimp only
 have od:∀v∈[V.int (-1),.int (T.n+1),.bl true,.non,.str "0",.ref l0],∀H',Same H4 H'->OddT H' T v:=λv hv H' sm=>by
  simp only[ao,aF,or_false]at hv;rcases hv with rfl|rfl|rfl|rfl|rfl|rfl
  ·exact⟨_,_,.int _,rfl,.int _,shI (by decide)⟩
  ·refine⟨_,_,.int _,?_,.int _,shI (by omega)⟩;show(decide (0<=T.n+1)&&decide (T.n+1<=T.n))=false;rw[decide_eq_false (by omega:¬T.n+1<=T.n),Bool.and_false]
  ·exact⟨_,_,.bl _,rfl,.bl _,(EW true).shw (by decide) (by decide)⟩
  ·exact⟨_,_,.non,rfl,.non,(Atm.sm .non).shw (by decide) (by decide)⟩
  ·have g0:GS ("0":Str):=⟨by decide +kernel,by decide +kernel⟩;exact⟨_,_,.str _ (Xx g0),rfl,.str _,(Pa g0).shw (by decide) (by decide)⟩
  ·have h':=sm _ _ e0;refine⟨_,_,.lst h',rfl,.lst h' (.cons (.int _) .nil),(SmAll.lst (SmAll.of (ds:=[.int 0]) (k:=0) (m:=12) λd hd=>?_) (n:=2) (by show 1<=2;decide)).shw (by decide) (by decide)⟩;rw[aB]at hd;subst hd;exact Atm.sm (.int (by decide))
 generalize hxs:[V.int (-1),.int (T.n+1),.bl true,.non,.str "0",.ref l0]=xs at od;have lxs:xs.length=6:=by rw[<-hxs];rfl
 have S45:Same H4 (upd H4 lL (.lst xs)):=sameNew (Same.refl _) hL;have eL:upd H4 lL (.lst xs) lL=some (.lst xs):=Zf;generalize upd H4 lL (.lst xs)=H5 at S45 eL ⊢;clear hxs hL h0;refine⟨lL,rfl,⟨_,SqL.of eL⟩,?_⟩;refine YC (J:=Itl K lL) xs.length (λj σ H'=>Same H5 H'/\∃o,σ=[some (.ref t),some (.ref pw),some (.ref d),some v',some x,some (optV A),some (.str dd.shown),o]) ?_ (λj σ H' hj q=>⟨_,xs[j]'(by omega),SqL.of (q.1 _ _ eL),gE _⟩) (λσ H' q=>⟨_,SqL.of (q.1 _ _ eL),by omega⟩) (λj σ H11 u H12 hj q yl=>?_) (λσ H11 q=>?_)
 ·exact⟨Same.refl _,_,rfl⟩
 ·obtain⟨s0,o',rfl⟩:=q;obtain⟨rfl,hy⟩:=yl;have hx:=hy _ (SqL.of (s0 _ _ eL));obtain⟨T',d',th,hw,isd,shd⟩:=od u (aA hx) H12 (S45.trans s0);try dsimp only[Zq,ay]
  refine⟨_,rfl,_,rfl,_,rfl,t,u,x,T,T',d',rfl,tel3.same ((S34.trans S45).trans s0),th,hw,isd,shd,λH7 S7=>⟨true,rfl,?_⟩⟩;refine iteF ?_;exact⟨s0.trans S7,_,rfl⟩
 obtain⟨s0,o',rfl⟩:=q;have S311:=(S34.trans S45).trans s0;refine hk5 _ _ ?_;clear hk5 hr5;refine⟨_,rfl,x,dd,rfl,Vd S311 isx3,shw.sh,shw.dp,shw.len,_,rfl,rfl,_,rfl,?_⟩;rw[decide_eq_true rfl];refine iteT ?_;refine⟨_,rfl,_,rfl,?_⟩;dsimp only[tNil,bB];refine(hnd3.same S311).acr (tel3.same S311) ok λH8 S8=>?_;exact⟨_,rfl,A,rfl,k _ ((S03.trans S311).trans S8)⟩
def P7(K:aa):Sp:=λvs H Q _=>∃(a:Addr)(ns:List Int),vs=[.ref a]/\SqL K H a (ns.map V.int)/\ns.length<=63/\∀H',Q (.bl true) H'
theorem JC:FnScope ["_law_script",q_w,"_law_steps_here","_law_table","_law_k",q_b,"_law_line_here","_law_some"] ["_law_script"] (Zc T.f_law):=scO
theorem FX{f:Addr}{fd:bP}(B:∀x∈Blts,mg x=none)(hmin:mg "min"=none)(CC:Can P w K mg base 1 "_law_cell" ["_law_script","_law_k"] (Ph K))(CB:Can P w K mg base 1 "_law_box" ["_law_cell_here"] SE)(CT:Can P w K mg base 1 "_law_take" [q_b,"_law_many"] Y1)(CW:Can P w K mg base 4 "_law_world" ["_law_script","_law_first","_law_most"] (Sv K))(CS:Can P w K mg base 1 "_law_steps" [q_w] P8)(CM:Can P w K mg base 9 "_law_made" [q_w] (Kw C))(CL:Can P w K mg base 2 "_law_line" [q_b,q_w] Kx)(CN:Can P w K mg base 2 "_law_none" [q_b,"_law_line_here",q_w] (Kt K))(CR:Can P w K mg base 9 "_law_right" ["_law_table",q_w,"_law_steps_here","_law_line_here","_law_some"] (Sz K C))(F:Fun K "law" "law" T.f_law f fd):FnOk P w K mg base CX0 10 f fd ["_law_script"] (P7 K):=by
 refine F.ok JC (λvs H Q E h=>?_) (λcdv A outer s H vs Q E hr h=>?_)
 ·obtain⟨a,ns,rfl,_⟩:=h;rfl
 ·obtain⟨a,ns,rfl,hS,hlen,k⟩:=h;refine' ⟨_,(@Za _ _ _ _ _ ?h12 (@Za _ _ _ _ _ ?h13 (@Za _ _ _ _ _ ?h14 (@Za _ _ _ _ _ ?h15 (@Zd _ _ _ ?h16))))),?rd⟩;case' h16=>refine' (Zl (cn CR hr (@Ze _ _ _ _ _ (pv 3) (@Ze _ _ _ _ _ (pv 1) (@pa3 _ _ _ _ _ _ _ (pv 2) ?h11 ZF (by rfl)) (by rfl)) (by rfl))))
  case' h15=>refine' (Yc aT rfl (Xp rfl (bm B) (@pa2 _ _ _ _ _ Zb (Zv (GX rfl) rfl (bm B) fA (@pa2 _ _ _ _ _ Zb (Zv (NZ rfl) rfl hmin iJ (@pa2 _ _ _ _ _ (Zv (r:=rLen K) Z1 rfl (bm B) ba (@pa1 _ _ _ (pv 0) (by rfl))) Zb (by rfl))) (by rfl))) (by rfl))) (nmT 4 JC.nd) (@Za _ _ _ _ _ ?h4 (@Za _ _ _ _ _ ?h5 (@Za _ _ _ _ _ ?h6 (@Za _ _ _ _ _ ?h7 (@Zd _ _ _ ?h8))))))
  case' h14=>refine' (@st _ _ _ _ 3 _ _ JC.nd (cn CM hr (@pa1 _ _ _ (pv 1) (by rfl))) (by rfl) (by exact aO rfl) (by rfl) (by exact .inl rfl))
  case' h13=>refine' (@st _ _ _ _ 2 _ _ JC.nd (cn CS hr (@pa1 _ _ _ (pv 1) (by rfl))) (by rfl) (by exact aO rfl) (by rfl) (by exact .inl rfl))
  case' h12=>refine' (@st _ _ _ _ 1 _ _ JC.nd (cn CW hr (@pa3 _ _ _ _ _ _ _ (pv 0) Zb Zb (by rfl))) (by rfl) (by exact aO rfl) (by rfl) (by exact .inl rfl))
  case' h11=>refine' (@Zu _ _ _ _ _ (@pa2 _ _ _ _ _ ?h10 ?h9 (by rfl)))
  case' h10=>refine' (@Zy _ _ _ _ Zk)
  case' h9=>refine' (@Zy _ _ _ _ Zk)
  case' h8=>refine' (@ZG _ _ _ _ _ _ _ _ (ZY (ZT (cn CR hr (@Ze _ _ _ _ _ (pv 3) (@Ze _ _ _ _ _ (pv 1) (@pa3 _ _ _ _ _ _ _ (pv 2) (pv 6) (pv 7) (by rfl)) (by rfl)) (by rfl))))) (@Zd _ _ _ ?h3) Zp)
  case' h7=>refine' (@ZG _ _ _ _ _ _ _ _ (@Zt _ _ _ _ _ _ _ _ Xw (cn CT hr (@pa2 _ _ _ _ _ (pv 5) Zb (by rfl))) Zb (ZC _)) (@Zd _ _ _ ?h2) Zp)
  case' h6=>refine' (@st _ _ _ _ 7 _ _ JC.nd ZF (by rfl) (by exact aO rfl) (by rfl) (by exact .inl rfl))
  case' h5=>refine' (@st _ _ _ _ 6 _ _ JC.nd (cn CL hr (@pa2 _ _ _ _ _ (pv 5) (pv 1) (by rfl))) (by rfl) (by exact aO rfl) (by rfl) (by exact .inl rfl))
  case' h4=>refine' (@st _ _ _ _ 5 _ _ JC.nd (cn CB hr (@pa1 _ _ _ (cn CC hr (@pa2 _ _ _ _ _ (pv 0) (pv 4) (by rfl))) (by rfl))) (by rfl) (by exact aO rfl) (by rfl) (by exact .inl rfl))
  case' h3=>refine' (Zl JU)
  case' h2=>refine' (@st _ _ _ _ 7 _ _ JC.nd ?h1 (by rfl) (by exact aO rfl) (by rfl) (by exact .inl rfl))
  case' h1=>refine' (@Zy _ _ _ _ (@pa1 _ _ _ (cn CN hr (@pa3 _ _ _ _ _ _ _ (pv 5) (pv 6) (pv 1) (by rfl))) (by rfl)))
  case' rd=>
  rw[show L2.start (["_law_script",q_w,"_law_steps_here","_law_table","_law_k",q_b,"_law_line_here","_law_some"]:List Str) [V.ref a]=[some (.ref a),none,none,none,none,none,none,none]from rfl];refine tq λD1 hk1=>?_;refine⟨_,rfl,a,ns,0,31,rfl,hS,by omega,by decide,by decide,by decide,λH1 pw l1 l2 l3 l4 T S1 wt ok wd=>?_⟩;refine hk1 _ _ (tq λD2 hk2=>?_);try dsimp only[Zq,ay]
  refine⟨_,rfl,pw,l1,l2,l3,l4,T,rfl,wt,ok,λH2 d S2 hd dc=>?_⟩;refine hk2 _ _ (tq λD3 hk3=>?_);try dsimp only[Zq,ay]
  refine⟨_,rfl,pw,l1,l2,l3,l4,T,rfl,wt.same S2,ok,λH3 t S3 tel=>?_⟩;refine hk3 _ _ (tq λD4 hk4=>?_);try dsimp only[Zq,ay]
  have wt3:=(wt.same S2).same S3;have dc3:=dc.same S3;have hS3:SqL K H3 a (ns.map V.int):=SqL.same S3 (SqL.same S2 (SqL.same S1 hS));clear hk1 hk2 hk3 wt dc hS S1 S2 S3 hd;refine⟨_,rfl,a,_,rfl,.inl hS3,_,_,rfl,_,_,rfl,?_⟩;rw[lm];generalize hm:(if(if(63:Int)<(ns.length:Int)then(63:Int)else(ns.length:Int))>37 then(if(63:Int)<(ns.length:Int)then(63:Int)else(ns.length:Int))else 37)=mm;have hm1:37<=mm/\mm<=63:=by
   subst hm;split
   ·split at *<;>omega
   ·omega
  clear hm;refine⟨31,mm,rfl,⟨by decide,by decide,by omega,by omega⟩,?_⟩;refine YC (J:=Itr 31 (mm-31).toNat) (mm-31).toNat (λi σ H'=>Same H3 H'/\∃o:Nat->Option V,σ=[some (.ref a),some (.ref pw),some (.ref d),some (.ref t),o 4,o 5,o 6,o 7]) ?_ (λi σ H' hi q=>hi) (λσ H' q=>Nat.le_refl _) (λi σ Hz v H0 hi q yl=>?_) (λσ H' q=>?_)
  ·refine⟨Same.refl _,?_⟩;exact shp rfl
  ·obtain⟨s0,o,rfl⟩:=q;obtain⟨rfl,rfl⟩:=yl;try dsimp only[Zq,ay]
   refine td λD' hdd=>?_;refine tq λD5 hk5=>?_;refine⟨_,rfl,_,rfl,a,ns,31+i,(by push_cast;rfl),hS3.same s0,by omega,by omega,λc=>⟨c,rfl,λb H5 hb B5 S5=>?_⟩⟩;refine hk5 _ _ (tq λD6 hk6=>?_);clear hk5;try dsimp only[Zq,ay]
   have bx:Bx H0 H5 b:=⟨hb,S5,B5⟩;refine⟨_,rfl,_,rfl,b,pw,l1,l2,l3,l4,T,H0,rfl,bx,wt3.same s0,ok,wd,λH6 v gs ss B6 S6 good lg ls=>?_⟩;refine hk6 _ _ (tq λD7 hk7=>?_);clear hk6;try dsimp only[Zq,ay]
   refine hk7 _ _ (tq λD8 hk8=>?_);clear hk7;try dsimp only[Zq,ay]
   suffices s8:∀H' sv,ZA H' b->Zj b H5 H'->Yh H' T v gs ss->(sv=.non\/∃l x,sv=.ref l/\H' l=some (.lst [x])/\YM K H' T x/\Sh H' x)->D8.nx [some (.ref a),some (.ref pw),some (.ref d),some (.ref t),some (.int (31+(i:Int))),some (.ref b),some v,some sv] H' by
    refine tkC B6 (λr H7 r0 r1 B7 S67=>⟨rfl,_,rfl,?_⟩);have S7:=S6.trans S67;have g7:=good.sameB B6 S67;refine ite2 (λ_=>?_) (λ_=>s8 _ _ B7 S7 g7 (.inl rfl));refine⟨_,rfl,_,rfl,_,rfl,b,pw,l1,l2,l3,l4,v,T,H0,gs,ss,rfl,bx.to S7 B7,wt3.same s0,ok,wd,g7,lg,by omega,λH8 v' B8 S8 bad sh=>?_⟩;refine⟨Zx (by show 1<=1000;decide),λq hq=>?_⟩;try dsimp only[Zq,ay]
    have S9:Same H8 (upd H8 q (.lst [v'])):=sameNew (Same.refl _) hq;obtain⟨dd,isx,shw⟩:=sh;exact s8 _ _ (B8.new hq) ((S7.trans S8).trans (Zj.of S9)) ((g7.sameB B7 S8).same S9) (.inr ⟨q,v',rfl,Zf,bad.same S9,dd,Vd S9 isx,shw⟩)
   intro H7 sv B7 S7 g7 hsv;have s07:=s0.trans (Yz hb S5 S7);refine hk8 _ _ ?_;clear hk8;refine⟨_,rfl,_,rfl,_,rfl,_,rfl,_,rfl,t,pw,d,l1,l2,l3,l4,v,sv,T,gs,ss,rfl,tel.same s07,wt3.same s07,dc3.same s07,ok,wd,g7,hsv,λH8 S8=>⟨true,rfl,?_⟩⟩;refine iteF ?_;refine hdd _ _ ⟨s07.trans S8,?_⟩;exact shp rfl
  obtain⟨s4,o,rfl⟩:=q;refine hk4 _ _ ?_;clear hk4;have k0:(0:Nat)<=sizeLine:=Nat.zero_le _;refine⟨_,rfl,_,rfl,_,rfl,k0,λq1 h1=>?_⟩;try dsimp only
  refine nl2 h1 λH5 S5 e1=>⟨k0,λq2 h2=>?_⟩;try dsimp only
  refine nl2 h2 λH6 S6 e2=>⟨Zx (by show 2<=1000;decide),λq3 h3=>?_⟩;try dsimp only
  refine nl2 h3 λH7 S7 e3=>?_;have s7:=s4.trans ((S5.trans S6).trans S7);refine⟨t,pw,d,l1,l2,l3,l4,.ref q3,.non,T,[],[],rfl,tel.same s7,wt3.same s7,dc3.same s7,ok,wd,QL e3 (S7 _ _ (S6 _ _ e1)) (S7 _ _ e2),.inl rfl,λH8 S8=>k _⟩
end
end SX
namespace L2
open PySem PySem.Spec PyProof.Rows
section
variable {K:aa}{h:Heap}{mg:Str->Option Value}{x:Str}
theorem AY{st:Stmt}{ps:List Str}{f:Addr}{oc:Value}{od an:Option Addr}{osl:Array (Option Value)}{kV doc pm cdv ct:Value}(X:K.In h)(G:h.Ns a7 mg)(a:bu K a7 x=some (some (.ref f)))(l:K.lookup f=some ⟨oc,od,.func (bw x x (Yq st) (ZQ st) (Zc st) .none kV doc pm an cdv ct),osl⟩)(c:bY K cdv x=true)(k:aZ K (.ref f)=true)(hb:∀(kV doc pm:Value)(an:Option Addr)(cdv ct:Value)(us:List Value),us.length=ps.length->bindArgs (bw x x (Yq st) (ZQ st) (Zc st) .none kV doc pm an cdv ct) ⟨us,[]⟩=pure (ps.zip us)):Df K mg x st ps:=⟨f,_,JO l c k,cF X G a,(JO l c k).binds hb⟩
theorem LX{C:Addr}{m qual:Str}{st:Stmt}{ps:List Str}{f:Addr}{oc:Value}{od an:Option Addr}{osl:Array (Option Value)}{kV doc pm cdv ct:Value}(a:az K (.ref C) m=some (some (.ref f)))(i:eO K (.ref f)=true)(l:K.lookup f=some ⟨oc,od,.func (bw m qual (Yq st) (ZQ st) (Zc st) .none kV doc pm an cdv ct),osl⟩)(c:bY K cdv qual=true)(k:aZ K (.ref f)=true)(hb:∀(kV doc pm:Value)(an:Option Addr)(cdv ct:Value)(us:List Value),us.length=ps.length->bindArgs (bw m qual (Yq st) (ZQ st) (Zc st) .none kV doc pm an cdv ct) ⟨us,[]⟩=pure (ps.zip us)):DfM K C m qual st ps:=⟨f,_,JO l c k,⟨a,i,k⟩,(JO l c k).binds hb⟩
theorem str_mk{z:Str}{t:Tok}(X:K.In h)(G:h.Ns a7 mg)(a:bu K a7 x=some (some (.str z t))):∃t,mg x=some (.str z t):=⟨t,cF X G a⟩
theorem int_mk{z:Int}{t:Tok}(X:K.In h)(G:h.Ns a7 mg)(a:bu K a7 x=some (some (.int z t))):∃t,mg x=some (.int z t):=⟨t,cF X G a⟩
theorem Tu{w:World}{a:Addr}{es:Array DictEntry}{n:Nat}{n1 n2 n3 n4:Int}{t1 t2 t3 t4:Tok}(X:K.In h)(G:h.Ns a7 mg)(ha:bu K a7 x=some (some (.ref a)))(hl:K.lookup a=some ⟨.type "dict",none,.dict es n,#[]⟩)(hk:PySem.W.KeysLit w.params es.toList)(h1:bu K a "places"=some (some (.int n1 t1)))(h2:bu K a "rides"=some (some (.int n2 t2)))(h3:bu K a "ways"=some (some (.int n3 t3)))(h4:bu K a "groups"=some (some (.int n4 t4))):∃a,mg x=some (.ref a)/\XF K w a "places" (.int n1)/\XF K w a "rides" (.int n2)/\XF K w a "ways" (.int n3)/\XF K w a "groups" (.int n4):=⟨a,cF X G ha,⟨es,n,_,hl,hk,h1,⟨t1,rfl⟩⟩,⟨es,n,_,hl,hk,h2,⟨t2,rfl⟩⟩,⟨es,n,_,hl,hk,h3,⟨t3,rfl⟩⟩,⟨es,n,_,hl,hk,h4,⟨t4,rfl⟩⟩⟩
end
end L2
namespace SX
open PySem L2 PySem.Spec PyProof.Rows TB WD
structure ErF(K:aa)(mg:Str->Option Value)(x qual:Str)(st:Stmt)(C Qa:Addr)(ps:List Str):Prop where
 at_:∃fI fd,XK1 K mg x C fI Qa/\Fun K "__init__" qual st fI fd/\Binds K fd ps []
section
variable {P:Program}{w:World}{K:aa}{mg:Str->Option Value}{base:Heap}{C Qa:Addr}
abbrev NoF(K:aa)(mg:Str->Option Value)(x qual:Str)(st:Stmt)(C Qa:Addr)(fl:Str):Prop:=ErF K mg x qual st C Qa ["self",fl]/\az K (.ref C) fl=some none
theorem FY{x qual fl:Str}{st:Stmt}{p1 p2 p3 p4:Pos}(b:NoF K mg x qual st C Qa fl)(S:FnScope ["self",fl] ["self",fl] (Zc st))(hb:ZQ st=[SR fl fl p1 p2 p3 p4])(pl:Plain fl):Err P w K mg base x [fl] C:=by obtain⟨⟨fI,fd,X,F,bd⟩,na⟩:=b;exact⟨⟨fI,Qa,fd,["self",fl],X.xc,AL F S hb pl X.xc na,by show 2<=1000;decide,bd⟩,X.xr,X.mg,X.kp⟩
theorem KQ:FnScope ["self","found"] ["self","found"] (Zc T.m_NoTurn___init__):=scO
end
theorem tail_mk{K:aa}{Qa NQ:Addr}{c2 c3:Value}{d2 d3:Option Addr}{cdQ:ClassData}{sl2 sl3:Array (Option Value)}{es3:Array DictEntry}{ep3:Nat}(lq:K.lookup Qa=some ⟨c2,d2,.cls cdQ,sl2⟩)(eq:cdQ.ns=NQ)(nq:K.lookup NQ=some ⟨c3,d3,.dict es3 ep3,sl3⟩)(nqe:(es3.toList.all λe=>match e.key with|.str _ _=>true|_=>false)=true)(iq:bu K NQ "__init__"=some none):eR K bmV (.ref Qa::bmV)=true:=by
 have nq':eT K NQ=true:=by unfold eT;rw[nq];dsimp only;rw[<-Array.all_toList];exact nqe
 subst eq;unfold eR;rw[Bool.or_eq_true];refine .inr ?_;dsimp only;rw[lq];dsimp only;rw[nq',iq];unfold eR;rw[show(bmV==bmV)=true from by decide];rfl
theorem er_one{ps:List Str}{K:aa}{h:Heap}{mg:Str->Option Value}{x qual:Str}{st:Stmt}{C fI Qa N:Addr}{nm q:Str}{bs:List Value}{sn:List Str}{sub:List Value}{ab:Bool}{col:Option Bool}{dd:Option Addr}{k0 k1 k2 k3 k5:Option Value}{c1 oc:Value}{d1 od an:Option Addr}{es1:Array DictEntry}{ep1:Nat}{sl1 osl:Array (Option Value)}{kV doc pm cdv ct:Value}(KX:K.In h)(G:h.Ns a7 mg)(a:bu K a7 x=some (some (.ref C)))(l:K.lookup C=some (excClassObj nm q C N bs (.ref Qa::bmV) true sn sub ab col dd k0 k1 k2 k3 k5 "ValueError.__new__"))(n1:K.lookup N=some ⟨c1,d1,.dict es1 ep1,sl1⟩)(n1e:(es1.toList.all λe=>match e.key with|.str _ _=>true|_=>false)=true)(n2:bu K N "__init__"=some (some (.ref fI)))(tl:eR K bmV (.ref Qa::bmV)=true)(lf:K.lookup fI=some ⟨oc,od,.func (bw "__init__" qual (Yq st) (ZQ st) (Zc st) .none kV doc pm an cdv ct),osl⟩)(cf:oc=.type "function")(cc:bY K cdv qual=true)(ck:aZ K (.ref fI)=true)(sa:az K (.ref C) "__setattr__"=some (some (.builtin "object.__setattr__")))(ob:fv K C (.type "object")=some true)(ga:az K (.ref C) "__getattribute__"=some (some (.builtin "BaseException.__getattribute__")))(gg:az K (.ref C) "__getattr__"=some none)(hd:cA K C=true)(be:fv K C (.type "BaseException")=some true)(kp:aZ K (.ref C)=true)(hb:∀(kV doc pm:Value)(an:Option Addr)(cdv ct:Value)(us:List Value),us.length=ps.length->bindArgs (bw "__init__" qual (Yq st) (ZQ st) (Zc st) .none kV doc pm an cdv ct) ⟨us,[]⟩=pure (ps.zip us)):ErF K mg x qual st C Qa ps:=by
 have n1':eT K N=true:=by unfold eT;rw[n1];dsimp only;rw[<-Array.all_toList];exact n1e
 have F:=JO (st:=st) lf cc ck;have X:XK1 K mg x C fI Qa:=⟨⟨⟨nm,q,N,bs,sn,sub,ab,col,dd,k0,k1,k2,k3,k5,l,n1',n2⟩,tl,⟨_,lf,cf⟩,sa,ob⟩,⟨ga,gg,hd,be⟩,⟨nm,q,N,bs,_,true,sn,sub,ab,col,dd,k0,k1,k2,k3,k5,_,l,by rw[d5];exact Bool.or_eq_true_iff.mpr (.inr (by decide))⟩,cF KX G a,kp⟩;exact⟨fI,_,X,F,F.binds hb⟩
section
variable {P:Program}{w:World}{K:aa}{mg:Str->Option Value}{base:Heap}{C:Addr}
structure Meths(K:aa)(C:Addr):Prop where
 take_places:DfM K C "take_places" "Table.take_places" T.m_Table_take_places ["self","places"]
 take_rides:DfM K C "take_rides" "Table.take_rides" T.m_Table_take_rides ["self","rides"]
 take_ways:DfM K C "take_ways" "Table.take_ways" T.m_Table_take_ways ["self","ways"]
 take_groups:DfM K C "take_groups" "Table.take_groups" T.m_Table_take_groups ["self","groups"]
 is_place:DfM K C "is_place" "Table.is_place" T.m_Table_is_place ["self","thing"]
 is_home:DfM K C "is_home" "Table.is_home" T.m_Table_is_home ["self","thing"]
 is_group:DfM K C "is_group" "Table.is_group" T.m_Table_is_group ["self","thing"]
 group_row:DfM K C "group_row" "Table.group_row" T.m_Table_group_row ["self","name"]
 people:DfM K C "people" "Table.people" T.m_Table_people ["self"]
structure TabF(K:aa)(mg:Str->Option Value)(C:Addr):Prop where
 cl:TCl K C
 init:∃f fd,Mk K C f/\Fun K "__init__" "Table.__init__" T.m_Table___init__ f fd/\Binds K fd ["self","turns","places","rides","ways","groups"] []
 mg:mg "Table"=some (.ref C)
 ms:Meths K C
structure SMeths(K:aa)(C:Addr):Prop where
 tail:DfM K C "tail" "Step.tail" T.m_Step_tail ["self"]
 head:DfM K C "head" "Step.head" T.m_Step_head ["self"]
 room:DfM K C "room" "Step.room" T.m_Step_room ["self"]
structure StF(K:aa)(mg:Str->Option Value)(x qual:Str)(st:Stmt)(ps:List Str)(C:Addr):Prop where
 cl:SCl K C
 init:∃f fd,Mk K C f/\Fun K "__init__" qual st f fd/\Binds K fd ps []
 mg:mg x=some (.ref C)
 ms:SMeths K C
structure AllSt(K:aa)(mg:Str->Option Value)(c1 c2 c3 cb:Addr):Prop where
 s1:StF K mg "Ride" "Ride.__init__" T.m_Ride___init__ ["self","row"] c1
 s2:StF K mg "Walk" "Walk.__init__" T.m_Walk___init__ ["self","row","turn"] c2
 s3:StF K mg "Wait" "Wait.__init__" T.m_Wait___init__ ["self","row","turn"] c3
 base:∃f fd,Fun K "__init__" "Step.__init__" T.m_Step___init__ f fd/\BaseM K cb "__init__" f/\Binds K fd ["self","key","tail","head","room","price"] []
 mb:mg "Step"=some (.ref cb)
structure Defs(K:aa)(mg:Str->Option Value):Prop where
 is_whole:Df K mg "is_whole" T.f_is_whole ["thing"]
 is_within:Df K mg "is_within" T.f_is_within ["thing","low","high"]
 is_text_of:Df K mg "is_text_of" T.f_is_text_of ["thing","longest","signs"]
 is_name:Df K mg "is_name" T.f_is_name ["thing"]
 is_group_name:Df K mg "is_group_name" T.f_is_group_name ["thing"]
 walks_of:Df K mg "walks_of" T.f_walks_of ["table"]
 waits_of:Df K mg "waits_of" T.f_waits_of ["table"]
 moves_of:Df K mg "moves_of" T.f_moves_of ["table"]
 is_spot_of:Df K mg "is_spot_of" T.f_is_spot_of ["table","thing"]
 is_turn:Df K mg "is_turn" T.f_is_turn ["table","thing"]
 refuse_no_turn:Df K mg "refuse_no_turn" T.f_refuse_no_turn ["table","thing"]
 has_form:Df K mg "has_form" T.f_has_form ["line"]
 near_side:Df K mg "near_side" T.f_near_side ["table","line"]
 set_out_crosses:Df K mg "set_out_crosses" T.f_set_out_crosses ["table","near","row"]
 rooms_across:Df K mg "rooms_across" T.f_rooms_across ["table","line"]
 people_beyond:Df K mg "people_beyond" T.f_people_beyond ["table","line"]
 lets:Df K mg "lets" T.f_lets ["table","turn","line"]
 is_known:Df K mg "is_known" T.f_is_known ["thing","names"]
 rows_of:Df K mg "rows_of" T.f_rows_of ["part","rows"]
 wrong_beginning:Df K mg "wrong_beginning" T.f_wrong_beginning ["part","row","names_ahead"]
 wrong_ends:Df K mg "wrong_ends" T.f_wrong_ends ["table","start","goal"]
 wrong_place:Df K mg "wrong_place" T.f_wrong_place ["row"]
 wrong_ride:Df K mg "wrong_ride" T.f_wrong_ride ["table","row"]
 wrong_way:Df K mg "wrong_way" T.f_wrong_way ["table","row"]
 wrong_group:Df K mg "wrong_group" T.f_wrong_group ["table","row","people_ahead"]
 refuse_row:Df K mg "refuse_row" T.f_refuse_row ["part","at","why"]
 _law_cell:Df K mg "_law_cell" T.f__law_cell ["_law_script","_law_k"]
 _law_box:Df K mg "_law_box" T.f__law_box ["_law_cell_here"]
 _law_take:Df K mg "_law_take" T.f__law_take [q_b,"_law_many"]
 _law_names:Df K mg "_law_names" T.f__law_names [q_b,"_law_many"]
 _law_places:Df K mg "_law_places" T.f__law_places [q_b,"_law_wide"]
 _law_ride:Df K mg "_law_ride" T.f__law_ride [q_b,"_law_name","_law_turns","_law_start","_law_goal"]
 _law_way:Df K mg "_law_way" T.f__law_way [q_b,"_law_name","_law_turns","_law_start","_law_goal"]
 _law_group:Df K mg "_law_group" T.f__law_group [q_b,"_law_name","_law_turns","_law_start","_law_goal"]
 _law_rows:Df K mg "_law_rows" T.f__law_rows ["_law_script","_law_first","_law_most","_law_turns",q_p]
 _law_world:Df K mg "_law_world" T.f__law_world ["_law_script","_law_first","_law_most"]
 _law_made:Df K mg "_law_made" T.f__law_made [q_w]
 _law_steps:Df K mg "_law_steps" T.f__law_steps [q_w]
 _law_line:Df K mg "_law_line" T.f__law_line [q_b,q_w]
 _law_none:Df K mg "_law_none" T.f__law_none [q_b,"_law_line_here",q_w]
 _law_across:Df K mg "_law_across" T.f__law_across ["_law_steps_here","_law_line_here"]
 _law_lets_due:Df K mg "_law_lets_due" T.f__law_lets_due [q_w,"_law_across_here","_law_turn","_law_line_here"]
 _law_same:Df K mg "_law_same" T.f__law_same ["_law_found","_law_due"]
 _law_no_turn:Df K mg "_law_no_turn" T.f__law_no_turn ["_law_table","_law_turn","_law_line_here"]
 _law_right:Df K mg "_law_right" T.f__law_right ["_law_table",q_w,"_law_steps_here","_law_line_here","_law_some"]
theorem Ra(W:K1.Txt K mg)(G:TB.Txt K mg)(Zs:Sizes K w mg)(Zm:Mosts K w mg)(B:∀x∈Blts,mg x=none)(D:Defs K mg)(t:TabF K mg C):TMkG P w K mg base C:=by obtain⟨f,fd,M,F,bd⟩:=t.init;have he:=B "enumerate" (by decide +kernel);have cI:=K1.Nb (P:=P) (w:=w) (base:=base) D.is_within (K1.NW W D.is_whole);have cX:=K1.RV (P:=P) (w:=w) (base:=base) W D.is_text_of;have cK:=NY (P:=P) (w:=w) (base:=base) G D.is_known;have cP:=Ma (P:=P) (w:=w) (base:=base) t.cl t.ms.is_place cK;have cE:=Dn (P:=P) (w:=w) (base:=base) t.cl D.wrong_ends cP (Nc t.cl t.ms.is_home cP);have cB:=RU (P:=P) (w:=w) (base:=base) G Zs D.wrong_beginning (K1.Dg W D.is_name cX) (K1.WV W D.is_group_name cX);have cR:=Q0 (P:=P) (w:=w) (base:=base) D.refuse_row;exact⟨⟨f,fd,M,Lv G t.cl cI (WK B Zm D.rows_of) (RY t.cl he t.ms.take_places cB (RS G D.wrong_place cI) cR) (RX t.cl he t.ms.take_rides cB (L8 G t.cl D.wrong_ride cI cE) cR) (RW t.cl he t.ms.take_ways cB (ED G t.cl D.wrong_way cI cE) cR) (RZ t.cl he t.ms.take_groups cB (RT G t.cl D.wrong_group cI cP) cR) F,bd⟩,t.mg⟩
theorem all4{R:Nat->Prop}(h0:R 0)(h1:R 1)(h2:R 2)(h3:R 3):∀j,j<4->R j:=λj hj=>by
 have e:j=0\/j=1\/j=2\/j=3:=by omega
 rcases e with rfl|rfl|rfl|rfl<;>assumption
noncomputable def c4(c0 c1 c2 c3:Addr)(i:Nat):Addr:=[c0,c1,c2,c3].getD i 0
structure Nn(mg:Str->Option Value):Prop where
 n1:mg "min"=none
 n2:mg "dict"=none
 n3:mg "any"=none
theorem Ex{f c1 c2 c3 cb Qa Ct:Addr}{fd:bP}(W:K1.Txt K mg)(G:TB.Txt K mg)(Zs:Sizes K w mg)(Zm:Mosts K w mg)(B:∀x∈Blts,mg x=none)(D:Defs K mg)(t:TabF K mg C)(N:Nn mg)(a:AllSt K mg c1 c2 c3 cb)(er:NoF K mg "NoTurn" "NoTurn.__init__" T.m_NoTurn___init__ Ct Qa "found")(F:Fun K "law" "law" T.f_law f fd):FnOk P w K mg base CX0 10 f fd ["_law_script"] (P7 K):=by have tm:=Ra (P:=P) (base:=base) W G Zs Zm B D t;have Z:=t.cl;have cC:=Dp (P:=P) (w:=w) (base:=base) (mg:=mg) B D._law_cell;have cB:=EH (P:=P) (w:=w) (base:=base) (mg:=mg) B D._law_box;have cT:=L6 (P:=P) (w:=w) (base:=base) (mg:=mg) D._law_take;have cN:=WL (P:=P) (w:=w) (base:=base) (mg:=mg) B cT D._law_names;have cWo:=R4 (P:=P) (w:=w) (base:=base) (mg:=mg) B cC cB cT (R1 B cT cN D._law_places) (WO B N.n1 cC cB cT cN (WQ cT D._law_ride) (Dh cT D._law_way) (R7 cT D._law_group) D._law_rows) D._law_world;have cH':=K1.NW (P:=P) (w:=w) (base:=base) (mg:=mg) W D.is_whole;have cI:=K1.Nb (P:=P) (w:=w) (base:=base) (mg:=mg) D.is_within cH';have cK:=NY (P:=P) (w:=w) (base:=base) (mg:=mg) G D.is_known;have cP:=Ma (P:=P) (w:=w) (base:=base) (mg:=mg) Z t.ms.is_place cK;have cH:=Nc (P:=P) (w:=w) (base:=base) (mg:=mg) Z t.ms.is_home cP;have cG:=PN (P:=P) (w:=w) (base:=base) (mg:=mg) Z t.ms.is_group cK;have ZS:∀j,j<4->SCl K (c4 c1 c1 c2 c3 j):=all4 a.s1.cl a.s1.cl a.s2.cl a.s3.cl;obtain⟨fb,fdb,Fb,bm,bb⟩:=a.base;have CB:CanB P w K mg base cb:=⟨⟨fb,fdb,Lw Fb,bm,bb⟩,a.mb⟩;obtain⟨f1,g1,M1,F1,b1⟩:=a.s1.init;obtain⟨f2,g2,M2,F2,b2⟩:=a.s2.init;obtain⟨f3,g3,M3,F3,b3⟩:=a.s3.init;have m1:SMk P w K mg base "Ride" (c4 c1 c1 c2 c3 1) ["self","row"] (spMk K (c4 c1 c1 c2 c3) 1 Rq):=⟨⟨f1,g1,M1,Ei CB F1,b1⟩,a.s1.mg⟩;have m2:SMk P w K mg base "Walk" (c4 c1 c1 c2 c3 2) ["self","row","turn"] (spMk K (c4 c1 c1 c2 c3) 2 Ro):=⟨⟨f2,g2,M2,Eg CB F2,b2⟩,a.s2.mg⟩;have m3:SMk P w K mg base "Wait" (c4 c1 c1 c2 c3 3) ["self","row","turn"] (spMk K (c4 c1 c1 c2 c3) 3 Rp):=⟨⟨f3,g3,M3,Eh CB F3,b3⟩,a.s3.mg⟩;have mv:=WM (P:=P) (w:=w) (base:=base) (mg:=mg) B Z ZS m1 (WI B Z ZS m2 D.walks_of) (WJ B Z ZS m3 D.waits_of) D.moves_of;have tu:=L5 (P:=P) (w:=w) (base:=base) (mg:=mg) Z cI D.is_turn;have ne:=De (P:=P) (w:=w) (base:=base) (mg:=mg) B W.all Z (Dm B D.has_form) cG (L7 B Z cP cI D.is_spot_of) D.near_side;have ac:=EJ (P:=P) (w:=w) (base:=base) (mg:=mg) B N.n3 Z ZS ne (EE B N.n3 Z D.set_out_crosses) mv (all4 (VM a.s1.ms.tail) (VM a.s1.ms.tail) (VM a.s2.ms.tail) (VM a.s3.ms.tail)) (all4 (VO a.s1.ms.head) (VO a.s1.ms.head) (VO a.s2.ms.head) (VO a.s3.ms.head)) (all4 (VN a.s1.ms.room) (VN a.s1.ms.room) (VN a.s2.ms.room) (VN a.s3.ms.room)) D.rooms_across;have ch:=EI (P:=P) (w:=w) (base:=base) (mg:=mg) B Z (EF B Z t.ms.people) (Dl Z cG t.ms.group_row) D.people_beyond;have le:=Di (P:=P) (w:=w) (base:=base) (mg:=mg) B N.n3 Z (Dd tu D.refuse_no_turn) ac cH ch D.lets;have ex:=FY (P:=P) (w:=w) (base:=base) er KQ rfl ⟨by decide,by decide⟩;have lx:=WU (P:=P) (w:=w) (base:=base) (mg:=mg) B N.n3 Z (L9 ex tu D.refuse_no_turn) ac cH ch D.lets;obtain⟨⟨fI,fdI,X1,_,_⟩,na⟩:=er;have nt:=R3 (P:=P) (w:=w) (base:=base) (mg:=mg) B X1 na lx D._law_no_turn;have ri:=R6 (P:=P) (w:=w) (base:=base) (mg:=mg) B Z (Dk B N.n2 D._law_across) ac le (WN B D._law_same) (Dj B D._law_lets_due) nt D._law_right;exact FX B N.n1 cC cB cT cWo (R5 B D._law_steps) (WS B tm D._law_made) (WT B cT D._law_line) (WR B cT D._law_none) ri F
theorem law_fd{l:iu}{h:Heap}{fa f:Addr}(X:K.In h)(G:h.Ns a7 mg)(hfa:mg "law"=some (.ref fa))(Wt:K1.Txt K mg)(Gt:TB.Txt K mg)(Zs:Sizes K w mg)(Zm:Mosts K w mg)(B:∀x∈Blts,mg x=none)(D:Defs K mg)(ht:∃C,TabF K mg C)(hN:Nn mg)(hS:∃c1 c2 c3 cb,AllSt K mg c1 c2 c3 cb)(hE:∃Qa Ct,NoF K mg "NoTurn" "NoTurn.__init__" T.m_NoTurn___init__ Ct Qa "found"){oc:Value}{od an:Option Addr}{osl:Array (Option Value)}{kV doc pm cdv ct:Value}(a:bu K a7 "law"=some (some (.ref f)))(lk:K.lookup f=some ⟨oc,od,.func (bw "law" "law" (Yq T.f_law) (ZQ T.f_law) (Zc T.f_law) .none kV doc pm an cdv ct),osl⟩)(c:bY K cdv "law"=true)(k:aZ K (.ref f)=true):∃fd:bP,(∀(s:ag)(v:Value),BindsTo s fd ⟨[v],[]⟩ [("_law_script",v)])/\∀base:Heap,K.In base->base.Ns a7 mg->FnOk l.prog w K mg base CX0 10 fa fd ["_law_script"] (P7 K):=by have e:=hfa.symm.trans (cF X G a);cases e;obtain⟨C,t⟩:=ht;obtain⟨c1,c2,c3,cb,sa⟩:=hS;obtain⟨Qa,Ct,er⟩:=hE;have F:=JO (st:=T.f_law) lk c k;exact⟨bw "law" "law" (Yq T.f_law) (ZQ T.f_law) (Zc T.f_law) .none kV doc pm an cdv ct,λs v=>.of_eq rfl,λbase _ _=>Ex Wt Gt Zs Zm B D t hN sa er F⟩
end
theorem tab_mk{K:aa}{h:Heap}{mg:Str->Option Value}{C f1:Addr}{oc1:Value}{od1 an1:Option Addr}{osl1:Array (Option Value)}{kV1 doc1 pm1 cdv1 ct1:Value}(X:K.In h)(G:h.Ns a7 mg)(aC:bu K a7 "Table"=some (some (.ref C)))(pg:dv K C Str.empty=true)(hd:cA K C=true)(po:ft K C=true)(sa:az K (.ref C) "__setattr__"=some (some (.builtin "object.__setattr__")))(mk:fN K C=true)(kc:aZ K (.ref C)=true)(y1:az K (.ref C) "turns"=some none)(y2:az K (.ref C) "places"=some none)(y3:az K (.ref C) "room_by_place"=some none)(y4:az K (.ref C) "rides"=some none)(y5:az K (.ref C) "ride_by_name"=some none)(y6:az K (.ref C) "ways"=some none)(y7:az K (.ref C) "way_by_name"=some none)(y8:az K (.ref C) "groups"=some none)(y9:az K (.ref C) "group_by_name"=some none)(a1:az K (.ref C) "__init__"=some (some (.ref f1)))(i1:eO K (.ref f1)=true)(l1:K.lookup f1=some ⟨oc1,od1,.func (bw "__init__" "Table.__init__" (Yq T.m_Table___init__) (ZQ T.m_Table___init__) (Zc T.m_Table___init__) .none kV1 doc1 pm1 an1 cdv1 ct1),osl1⟩)(c1:bY K cdv1 "Table.__init__"=true)(k1:aZ K (.ref f1)=true)(ms:Meths K C):∃C,TabF K mg C:=by have F:=JO (st:=T.m_Table___init__) l1 c1 k1;refine⟨C,⟨⟨pg,hd,po,sa⟩,λf hf=>?_⟩,⟨f1,_,⟨mk,a1,i1,kc⟩,F,F.binds λ_ _ _ _ _ _ us hl=>by obtain⟨_,_,_,_,_,_,rfl⟩:=len6 hl;rfl⟩,cF X G aC,ms⟩;unfold fields at hf;simp only[ao,aF,or_false]at hf;rcases hf with rfl|rfl|rfl|rfl|rfl|rfl|rfl|rfl|rfl<;>assumption
theorem st_mk{K:aa}{h:Heap}{mg:Str->Option Value}{x qual:Str}{st:Stmt}{ps:List Str}{C f1:Addr}{oc1:Value}{od1 an1:Option Addr}{osl1:Array (Option Value)}{kV1 doc1 pm1 cdv1 ct1:Value}(X:K.In h)(G:h.Ns a7 mg)(aC:bu K a7 x=some (some (.ref C)))(pg:dv K C Str.empty=true)(hd:cA K C=true)(po:ft K C=true)(sa:az K (.ref C) "__setattr__"=some (some (.builtin "object.__setattr__")))(mk:fN K C=true)(kc:aZ K (.ref C)=true)(y1:az K (.ref C) "its_key"=some none)(y2:az K (.ref C) "its_tail"=some none)(y3:az K (.ref C) "its_head"=some none)(y4:az K (.ref C) "its_room"=some none)(y5:az K (.ref C) "its_price"=some none)(a1:az K (.ref C) "__init__"=some (some (.ref f1)))(i1:eO K (.ref f1)=true)(l1:K.lookup f1=some ⟨oc1,od1,.func (bw "__init__" qual (Yq st) (ZQ st) (Zc st) .none kV1 doc1 pm1 an1 cdv1 ct1),osl1⟩)(c1:bY K cdv1 qual=true)(k1:aZ K (.ref f1)=true)(hb:∀(kV doc pm:Value)(an:Option Addr)(cdv ct:Value)(us:List Value),us.length=ps.length->bindArgs (bw "__init__" qual (Yq st) (ZQ st) (Zc st) .none kV doc pm an cdv ct) ⟨us,[]⟩=pure (ps.zip us))(ms:SMeths K C):StF K mg x qual st ps C:=by have F:=JO (st:=st) l1 c1 k1;refine⟨⟨⟨pg,hd,po,sa⟩,λf hf=>?_⟩,⟨f1,_,⟨mk,a1,i1,kc⟩,F,F.binds hb⟩,cF X G aC,ms⟩;unfold fnames at hf;simp only[ao,aF,or_false]at hf;rcases hf with rfl|rfl|rfl|rfl|rfl<;>assumption
theorem base_mk{K:aa}{C f1:Addr}{oc1:Value}{od1 an1:Option Addr}{osl1:Array (Option Value)}{kV1 doc1 pm1 cdv1 ct1 mc:Value}(ga:gR K (.ref C) "__getattribute__"=some (some (.builtin "type.__getattribute__")))(rd:PySem.W.readsIn K C mc=true)(fc:PySem.W.findCls K (.ref C) mc "__init__"=some (.val (.ref f1)))(l1:K.lookup f1=some ⟨oc1,od1,.func (bw "__init__" "Step.__init__" (Yq T.m_Step___init__) (ZQ T.m_Step___init__) (Zc T.m_Step___init__) .none kV1 doc1 pm1 an1 cdv1 ct1),osl1⟩)(c1:bY K cdv1 "Step.__init__"=true)(k1:aZ K (.ref f1)=true):∃f fd,Fun K "__init__" "Step.__init__" T.m_Step___init__ f fd/\BaseM K C "__init__" f/\Binds K fd ["self","key","tail","head","room","price"] []:=by have F:=JO (st:=T.m_Step___init__) l1 c1 k1;exact⟨f1,_,F,⟨ga,⟨mc,rd,fc⟩,k1⟩,F.binds λ_ _ _ _ _ _ us hl=>by obtain⟨_,_,_,_,_,_,rfl⟩:=len6 hl;rfl⟩
theorem walk{l:iu}{q:Program}{loose:List Str}{XP:(Str->Option Value)->Heap->Prop}{YP:World->Heap->Prop}{d:DefRec}{K:Params->aa}(hn:l.most=some 63)(hdf:d.params.defaults=[])(hY:∀(w:World)(h:Heap),YP w h->(K w.params).In h)(F:∀(w:World)(mg:Str->Option Value)(fa:Addr)(h:Heap),(K w.params).In h->h.Ns a7 mg->mg d.name=some (.ref fa) ->∃fd:bP,(∀(s:ag)(u:Value),BindsTo s fd ⟨[u],[]⟩ [("_law_script",u)])/\∀base:Heap,(K w.params).In base->base.Ns a7 mg->FnOk l.prog w (K w.params) mg base CX0 10 fa fd ["_law_script"] (P7 (K w.params))):PySem.W.WalkO q loose XP YP l.row.toRowW d [] (λf vs=>PySem.call f vs):=L2.DH (n:=63) (k:=10) (x:="_law_script") (CX:=λ_=>CX0) (sp:=λw=>P7 (K w.params)) hn (by decide) hdf ⟨rfl,by decide,by decide,rfl⟩ hY F (λ_ _ a ns hl _ hS=>⟨a,ns,rfl,hS,hl,λ_=>rfl⟩) λ_ _ _ _ _ z=>z
end SX
open PySem PySem.W PyProof.Rows
set_option hygiene false in
local macro_rules
|`(tactic| o_head $H)=>`(tactic| (
   refine holds_open (q:=RG.QV) (loose:=RG.LO) (Xt:=RG.XT) (XP:=XL RG.QV [])
    (Yf:=Hook.obs $H) (Ya:=Hook.val $H) (YP:=Hook.says $H) (N:=14000) ?hl (Hook.of $H) (Hook.keeps $H) (λs e=>xl_of s (Bool.and_eq_true_iff.mp e).1)
    XL.keeps (by rfl) (by rfl) (by rfl) (λs e=>recFacts_of (Bool.and_eq_true_iff.mp e).2) (by rfl) (by first|assumption|decide +kernel) (by decide +kernel)
    ⟨rfl,rfl,rfl,rfl,rfl,by decide +kernel⟩ ?hw ?hc
   case' hl=>exact RG.AJ (by kernel_rfl) (λs=>by kernel_rfl) RG.kfE (λw=>rfl)))
set_option maxRecDepth 100000 in
set_option maxHeartbeats 0 in
theorem PySem.Challenge.cw_homequay_k23_rooms_across_holds : PySem.Challenge.rw_homequay_k23_rooms_across.Holds := by
 w_on;o_law;o_head (kHook RG.hk.heap_39 RG.AS RG.eK);(case hw=>w_witness2);k_fill;refine SX.walk (l:=bL) rfl rfl (λw h Y=>PySem.W.kIn_of Y) ?F;case F=>
  intro w mg fa h KX G hmg;have D:SX.Defs (L2.KOf KX) mg:=by dsimp only[L2.KOf];constructor<;>(refine' L2.AY KX G ?a ?l ?c ?k ?b;(case a|l|c|k=>k_is);(case b=>exact λ_ _ _ _ _ _ us hl=>by first|(obtain⟨_,rfl⟩:=L2.len1 hl;rfl)|(obtain⟨_,_,rfl⟩:=L2.len2 hl;rfl)|(obtain⟨_,_,_,rfl⟩:=L2.len3 hl;rfl)|(obtain⟨_,_,_,_,rfl⟩:=L2.len4 hl;rfl)|(obtain⟨_,_,_,_,_,rfl⟩:=L2.len5 hl;rfl)))
  have B:∀x∈WD.Blts,mg x=none:=by intro x hx;unfold WD.Blts at hx;simp only[ao,aF,or_false]at hx;rcases hx with rfl|rfl|rfl|rfl|rfl|rfl|rfl|rfl|rfl|rfl|rfl|rfl|rfl<;>(refine' eU KX G ?a;(case a=>k_is))
  have W:K1.Txt (L2.KOf KX) mg:=by constructor<;>((first|refine' eU KX G ?a|refine' L2.str_mk KX G ?a|refine' L2.int_mk KX G ?a);(case a=>k_is))
  have Gt:TB.Txt (L2.KOf KX) mg:=by constructor<;>((first|refine' eU KX G ?a|refine' L2.str_mk KX G ?a|refine' L2.int_mk KX G ?a);(case a=>k_is))
  have Zs:TB.Sizes (L2.KOf KX) w mg:=by refine⟨?_⟩;dsimp only[L2.KOf];refine' L2.Tu KX G ?a ?l ?k ?h1 ?h2 ?h3 ?h4;(case a|l=>k_is);(case k=>k_keys);(case h1|h2|h3|h4=>k_is)
  have Zm:TB.Mosts (L2.KOf KX) w mg:=by refine⟨?_⟩;dsimp only[L2.KOf];refine' L2.Tu KX G ?a ?l ?k ?h1 ?h2 ?h3 ?h4;(case a|l=>k_is);(case k=>k_keys);(case h1|h2|h3|h4=>k_is)
  have hN:SX.Nn mg:=by constructor<;>(refine' eU KX G ?a;(case a=>k_is))
  have ht:∃C,SX.TabF (L2.KOf KX) mg C:=by
   dsimp only[L2.KOf];refine' SX.tab_mk KX G ?aC ?pg ?hd ?po ?sa ?mk ?kc ?y1 ?y2 ?y3 ?y4 ?y5 ?y6 ?y7 ?y8 ?y9 ?a1 ?i1 ?l1 ?c1 ?k1 ?ms;(case aC|pg|hd|po|sa|mk|kc|y1|y2|y3|y4|y5|y6|y7|y8|y9|a1|i1|l1|c1|k1=>k_is)
   (case ms=>constructor<;>(refine' L2.LX ?za ?zi ?zl ?zc ?zk ?zb;(case za|zi|zl|zc|zk=>k_is);(case zb=>exact λ_ _ _ _ _ _ us hl=>by first|(obtain⟨_,rfl⟩:=L2.len1 hl;rfl)|(obtain⟨_,_,rfl⟩:=L2.len2 hl;rfl)|(obtain⟨_,_,_,rfl⟩:=L2.len3 hl;rfl)|(obtain⟨_,_,_,_,rfl⟩:=L2.len4 hl;rfl)|(obtain⟨_,_,_,_,_,rfl⟩:=L2.len5 hl;rfl))))
  have hS:∃c1 c2 c3 cb,SX.AllSt (L2.KOf KX) mg c1 c2 c3 cb:=by
   dsimp only[L2.KOf];refine' ⟨_,_,_,_,⟨SX.st_mk KX G ?aC_0 ?pg_0 ?hd_0 ?po_0 ?sa_0 ?mk_0 ?kc_0 ?y1_0 ?y2_0 ?y3_0 ?y4_0 ?y5_0 ?a1_0 ?i1_0 ?l1_0 ?c1_0 ?k1_0 ?bb_0 ?ms_0,SX.st_mk KX G ?aC_1 ?pg_1 ?hd_1 ?po_1 ?sa_1 ?mk_1 ?kc_1 ?y1_1 ?y2_1 ?y3_1 ?y4_1 ?y5_1 ?a1_1 ?i1_1 ?l1_1 ?c1_1 ?k1_1 ?bb_1 ?ms_1,SX.st_mk KX G ?aC_2 ?pg_2 ?hd_2 ?po_2 ?sa_2 ?mk_2 ?kc_2 ?y1_2 ?y2_2 ?y3_2 ?y4_2 ?y5_2 ?a1_2 ?i1_2 ?l1_2 ?c1_2 ?k1_2 ?bb_2 ?ms_2,SX.base_mk (mc:=.type "type") ?bga ?brd ?bfc ?bl1 ?bc1 ?bk1,cF KX G ?mb⟩⟩;(case aC_0|aC_1|aC_2|mb=>k_is)
   (case ms_0|ms_1|ms_2=>constructor<;>(refine' L2.LX ?za ?zi ?zl ?zc ?zk ?zb;(case za|zi|zl|zc|zk=>k_is);(case zb=>exact λ_ _ _ _ _ _ us hl=>by first|(obtain⟨_,rfl⟩:=L2.len1 hl;rfl)|(obtain⟨_,_,rfl⟩:=L2.len2 hl;rfl)|(obtain⟨_,_,_,rfl⟩:=L2.len3 hl;rfl)|(obtain⟨_,_,_,_,rfl⟩:=L2.len4 hl;rfl)|(obtain⟨_,_,_,_,_,rfl⟩:=L2.len5 hl;rfl))))
   (case bb_0|bb_1|bb_2=>exact λ_ _ _ _ _ _ us hl=>by first|(obtain⟨_,rfl⟩:=L2.len1 hl;rfl)|(obtain⟨_,_,rfl⟩:=L2.len2 hl;rfl)|(obtain⟨_,_,_,rfl⟩:=L2.len3 hl;rfl)|(obtain⟨_,_,_,_,rfl⟩:=L2.len4 hl;rfl)|(obtain⟨_,_,_,_,_,rfl⟩:=L2.len5 hl;rfl))
   (case pg_0|hd_0|po_0|sa_0|mk_0|kc_0|y1_0|y2_0|y3_0|y4_0|y5_0|a1_0|i1_0|l1_0|c1_0|k1_0|pg_1|hd_1|po_1|sa_1|mk_1|kc_1|y1_1|y2_1|y3_1|y4_1|y5_1|a1_1|i1_1|l1_1|c1_1|k1_1|pg_2|hd_2|po_2|sa_2|mk_2|kc_2|y1_2|y2_2|y3_2|y4_2|y5_2|a1_2|i1_2|l1_2|c1_2|k1_2|bga|brd|bfc|bl1|bc1|bk1=>k_is)
  have hE:∃Qa Ct,SX.NoF (L2.KOf KX) mg "NoTurn" "NoTurn.__init__" T.m_NoTurn___init__ Ct Qa "found":=by
   dsimp only[L2.KOf];refine' ⟨_,_,SX.er_one KX G ?a_0 ?l_0 ?n1_0 ?n1e_0 ?n2_0 ?tl ?lf_0 ?cf_0 ?cc_0 ?ck_0 ?sa_0 ?ob_0 ?ga_0 ?gg_0 ?hd_0 ?be_0 ?kp_0 ?bb_0,?y1_0⟩;(case a_0=>k_is);(case l_0=>k_is);(case n1_0=>k_is);(case n1e_0=>rfl);(case n2_0=>k_is);(case lf_0=>k_is);(case cf_0=>rfl);(case cc_0=>k_is);(case ck_0=>k_is);(case sa_0=>k_is);(case ob_0=>k_is);(case ga_0=>k_is);(case gg_0=>k_is);(case hd_0=>k_is);(case be_0=>k_is);(case kp_0=>k_is);(case y1_0=>k_is);(case bb_0=>exact λ_ _ _ _ _ _ us hl=>by obtain⟨_,_,rfl⟩:=L2.len2 hl;rfl);(case tl=>refine' SX.tail_mk ?lq ?eq ?nq ?nqe ?iq;(case lq=>k_is);(case eq=>rfl);(case nq=>k_is);(case nqe=>rfl);(case iq=>k_is))
  refine' SX.law_fd KX G hmg W Gt Zs Zm B D ht hN hS hE ?fa ?fl ?fc ?fk;(case fa|fl|fc|fk=>k_is)
